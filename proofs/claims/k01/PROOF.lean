import PyProof.Rows.All
import Wide.All
import OpenK.AllK
import Wide.FinOn
import KE.DatumIndex
import KE.GoesEnum
import KE.GoesMore
import PyProof.ReprRoads
import PyProof.ReprLen
import PyProof.StrLawsRepr
import HandS.ForMost
import HandS.WordsExc
import HandS.Wide
import HandS.Evl
import HandS.Style
import HandS.IsInst
import HandS.Conv
import HandS.Zip
import HandS.Rev
import HandS.TupMul
import HandS.TupAny
import HandS.TupLe
import HandS.Defaults
import HandS.DictComp
import HandS.TupSets
import HandS.WideBits
import PyProof.StrReplace2
import HandS.Head0
import HandS.Head1
import HandS.Head2
import HandS.HeadEnd
import HandS.HeadHook1
import HandS.HeadHook2
import PySem.Challenge.RW_stepforms_k01_what_is_a_fraction
set_option Elab.async false
set_option linter.all false
set_option maxRecDepth 100000
set_option maxHeartbeats 4000000
namespace Gd
open PySem PySem.Spec PyProof.Rows L2
/-- a def that is called where no repr is under way -/
structure FnG (P : Program) (w : World) (K : PySem.W.Frag) (mg : Str → Option Value)
    (base : Heap) (k : Nat) (f : Addr) (fd : FuncData) (ps : List Str) (sp : Sp) : Prop where
  len : ∀ vs H Q E, sp vs H Q E → vs.length = ps.length
  go : ∀ (A : Around) (outer : List Env) (s : Shared) (H : Hp) (args : Args)
    (us : List Value) (vs : List V) (Q : VK) (E : XK),
    A.guards = some [] → Room k A → Env0 P w K mg base A outer s H →
    BindsTo s fd args (ps.zip us) → Vals vs us → sp vs H Q E →
    codeAny (model P w) A (.call (.ref f) args) (CR CX0 outer P w H s Q E) s
theorem guards_deeper {A : Around} {env : Env} (h : A.guards = some []) :
    (A.deeper env).guards = some [] := by
  first
    | exact h
    | (unfold Around.deeper; exact h)
    | simp [Around.deeper, h]
section
variable {P : Program} {w : World} {K : PySem.W.Frag} {mg : Str → Option Value} {base : Heap}
  {x qual : Str} {params : Arguments} {body : List Stmt} {scope : Scope} {dvs : List V}
  {kws : List (Str × V)} {f : Addr} {fd : FuncData}
/-- such a def by its body; the body knows that no repr is under way -/
theorem okG {N ps : List Str} {k : Nat} {sp : Sp}
    (F : FunD K x qual params body scope dvs kws f fd) (S : FnScope N ps scope)
    (len : ∀ vs H Q E, sp vs H Q E → vs.length = ps.length)
    (hbody : ∀ (cdv : Value) (A : Around) (outer : List Env) (s : Shared) (H : Hp)
      (vs : List V) (Q : VK) (E : XK),
      (A.deeper (envOfC qual scope s.heap.objs.size f cdv)).guards = some [] →
      Room k (A.deeper (envOfC qual scope s.heap.objs.size f cdv)) → sp vs H Q E →
      ∃ t, PSs (cxOf CX0 P w K mg base N qual scope f cdv A outer s H E) body t ∧
        t { nx := fun _ H' => Q .non H', rt := Q } (start N vs) H) :
    FnG P w K mg base (k + 1) f fd ps sp := by
  obtain ⟨oc, od, dV, kV, doc, pm, an, cdv, ct, osl, rfl, hat, hcode, _, _⟩ := F.ex
  refine ⟨len, ?_⟩
  intro A outer s H args us vs Q E hG room env bind rel want
  have kin : K.In s.heap :=
    env.mod.kin.keeps (fun b o e => (env.bs b o e).1)
  have nolim : s.heap.NoLimit :=
    env.mod.nolimit.keeps (fun b o e => (env.bs b o e).1)
  refine codeAny_call_function room.depth (kin _ _ hat) rfl S.co S.gen rfl
    (PySem.W.codeRec_of kin hcode) (bind _ _ _ _ ?_)
  refine wpAny_newFunctionEnv_cells S.kind ?_ ?_
  · rintro ⟨n, v⟩ hy
    cases S.par n (List.of_mem_zip hy).1 with
    | inl q => exact Or.inl q
    | inr q => exact Or.inr ⟨q, PySem.W.cellsFrom_some _ _ _ (.inl q)⟩
  · intro en he s1 made
    subst he
    refine ⟨nolim.keeps made.toInCall.keep, codeAny_func ?_⟩
    obtain ⟨t, derived, told⟩ :=
      hbody cdv A outer s H vs Q E (guards_deeper hG) (room.deeper _) want
    have inv0 := inv_start (CX := CX0) (E := E) S room.hd env (len _ _ _ _ want) rel made
    refine wpAny_mono (derived.run [] s1 (start N vs) H _ inv0 told) ?_ (fun _ _ z => z)
    intro fl s' hs
    cases fl with
    | brk => exact False.elim hs.choose_spec.choose_spec.2
    | cont => exact False.elim hs.choose_spec.choose_spec.2
    | next =>
      obtain ⟨_, H', J, q⟩ := hs
      exact ⟨.non, H', J.os, J.bare, J.base, J.hok, rfl, q⟩
    | ret u =>
      obtain ⟨v, _, H', J, rv, q⟩ := hs
      exact ⟨v, H', J.os, J.bare, J.base, J.hok, rv, q⟩
end
section
variable {X : Cx} {k : Nat} {f : Addr} {fd : FuncData} {ps : List Str} {sp : Sp}
  {E : XK} {x : Str} {p pos : Pos} {e : Expr} {es : List Expr} {t : TA}
/-- the call of such a def from a body that knows the same -/
theorem pe_callG (F : FnG X.prog X.w X.K X.mg X.base k f fd ps sp)
    (hG : X.A.guards = some []) (hr : Room k X.A) (hg : Gl X x)
    (hm : X.mg x = some (.ref f)) (hk : PySem.W.keepIn X.K (.ref f) = true)
    (hb : Binds X.K fd ps []) (ha : PA X (e :: es) t)
    (hdb : (x == ("__debug__" : Str)) = false := by decide)
    (he : starEach (e :: es) X.env = (false, eval e X.env) :: starEach es X.env := by rfl)
    (hpl : (backTo pos (starEach es X.env)).any (·.1) = false := by rfl) :
    PE X (.Call (.Name x p) (e :: es) [] pos) (tCall sp [] E0 t) := by
  constructor
  intro pins s σ H Q I h
  refine wpAny_Call_Name_kw (ld_glob I hg hm ?_ hdb)
  refine PySem.W.callWith_K (h₀ := X.base) I.ok.mod.kin hk (thn (ha.run pos pins s σ H _ I h) ?_) he hpl
  rintro us s1 ⟨vs, H1, I1, r, q⟩
  refine ⟨I1.kIn, ?_⟩
  have q' : sp (vs ++ []) H1 Q E0 := q
  rw [List.append_nil] at q'
  have hl : (us ++ []).length = ps.length := by
    rw [List.append_nil, ← r.length]
    exact F.len _ _ _ _ q'
  have hbb := hb s1 us I1.kIn hl
  rw [List.append_nil] at hbb
  refine wpAny_call (codeAny_mono (F.go X.A X.stack s1 H1 ⟨us, []⟩ us vs Q E0 hG hr I1.env0 hbb r q') ?_)
  intro r s' hq
  cases r with
  | error e => exact False.elim hq
  | ok fl =>
    cases fl with
    | next => exact False.elim hq
    | brk => exact False.elim hq
    | cont => exact False.elim hq
    | ret u => exact I1.after hq
end
section
variable {X : Cx}
/-- repr of data -/
def rRepr (K : PySem.W.Frag) : List V → Hp → VK → Prop := fun vs H Q =>
  ∃ (a : Addr) (d : PyData), vs = [.ref a] ∧ Dp K H (.ref a) d ∧ d.showable = true ∧
    d.hasDict = false ∧ d.depth ≤ 60 ∧ d.shown.length ≤ sizeLine ∧ Q (.str d.shown) H
theorem call_repr (hG : X.A.guards = some []) (hu : X.A.units + 64 < cLine) :
    CallR X (.builtin "repr") (rRepr X.K) := by
  intro pins s σ H xs us Q I r h
  obtain ⟨a, d, rfl, hd, hs, hn, hdp, hz, q⟩ := h
  have hu1 := Vals.ref1 r
  rw [hu1]
  obtain ⟨as, rd⟩ := Dp.reads I d _ _ hd (show RelV (.ref a) (.ref a) from rfl)
  refine repr_of_reads' rd hs (fun e => by rw [hn] at e; cases e) hG (by omega) (fun _ _ e => e) ?_ hz
  intro h' u tk hk
  exact ⟨.str d.shown, H, I.kept hk, ⟨u, rfl⟩, q⟩
/-- floor division by any great divisor but 0 -/
def CDivA (_ j : Int) : Prop := j ≠ 0 ∧ j.natAbs.log2 < 9000
theorem op_fdivA : OpR X (binaryOp .FloorDiv) (rI CDivA fun i j => .int (i.fdiv j)) :=
  opI fun i j _ _ _ _ _ hc q =>
    floordiv_int hc.1 q (.inl (PyProof.noPylong_of_log2 hc.2))
end
end Gd
namespace Gd
open PySem PySem.Spec PyProof.Rows L2
section
variable {P : Program} {w : World} {K : PySem.W.Frag} {mg mb : Str → Option Value}
  {k : Nat} {fa a : Addr} {fd : FuncData} {x : Str} {sp : Sp} {s : Shared}
  {vs : List Value} {ns : List Int}
/-- the abstract heap of a law's entry tracks the script alone -/
theorem law_coreG (kin : K.In s.heap) (hns : s.heap.Ns mainGlobals mg)
    (hb : s.heap.Ns builtinsNs mb) (hbb : ∀ x : Str, x ≠ "__name__" → mb x = bootBuiltins x)
    (hlim : s.heap.NoLimit) (hgens : s.gens = #[])
    (hat : s.heap.get? a = some { cls := .type "list", data := .seq vs.toArray })
    (hr : Room k callerA)
    (F : ∀ base : Heap, K.In base → base.Ns mainGlobals mg → FnG P w K mg base k fa fd [x] sp)
    (hbind : ∀ (s : Shared) (u : Value), BindsTo s fd ⟨[u], []⟩ [(x, u)])
    (H : Hp) (hO : Only H) (hok : HOk P w H s.heap) (hA : ∀ b, H b ≠ none → b = a)
    (hK : H a ≠ none → K.lookup a = none)
    (hsp : sp [.ref a] H (fun v _ => v = .bl true) E0) :
    codeAny (model P w) callerA (.call (.ref fa) ⟨[.ref a], []⟩)
      (fun r s' => r = .ok (.ret (.bool true)) ∧ OldK s.heap s'.heap ∧ s'.os = s.os ∧
        AllBare s'.gens) s := by
  have free_of : ∀ b : Addr, b ≠ a → H b = none := by
    intro b hb
    cases q : H b with
    | none => rfl
    | some u => exact absurd (hA b (by rw [q]; exact Option.some_ne_none u)) hb
  have dictFree : ∀ {b : Addr} {o : Obj} {es : Array DictEntry} {ep : Nat},
      s.heap.get? b = some o → o.data = .dict es ep → H b = none := by
    intro b o es ep e d
    refine free_of b ?_
    rintro rfl
    rw [hat] at e
    cases e
    cases d
  have nsHid : ∀ {b : Addr} {m : Str → Option Value},
      s.heap.Ns b m → (hidT s.heap H).Ns b m := by
    rintro b m ⟨o, es, ep, e, d, r⟩
    exact ⟨o, es, ep, hidT_get e (dictFree e d), d, r⟩
  have kinHid : K.In (hidT s.heap H) := by
    intro b o e
    refine hidT_get (kin b o e) ?_
    by_cases h : b = a
    · subst h
      cases q : H b with
      | none => rfl
      | some u =>
        rw [hK (by rw [q]; exact Option.some_ne_none u)] at e
        cases e
    · exact free_of b h
  obtain ⟨mc, hl1, hl2⟩ := hlim
  have modHid : Mod K mg (hidT s.heap H) :=
    ⟨kinHid, nsHid hns, ⟨mb, nsHid hb, hbb⟩, ⟨mc, nsHid hl1, hl2⟩⟩
  have env : Env0 P w K mg (hidT s.heap H) callerA [] s H := by
    refine ⟨rfl, modHid, fun b o e => of_hidT e, Nat.le_of_eq (hidT_size _ _), trivial, ?_, hok, .of_eq hgens⟩
    intro b hb
    cases hb
  have run := (F _ kinHid (nsHid hns)).go callerA [] s H ⟨[.ref a], []⟩ [.ref a] [.ref a] _ _
    rfl hr env (hbind s (.ref a)) (.cons rfl .nil) hsp
  refine codeAny_mono run ?_
  intro r s' h
  cases r with
  | error e => exact False.elim h
  | ok fl =>
    cases fl with
    | next => exact False.elim h
    | brk => exact False.elim h
    | cont => exact False.elim h
    | ret u =>
      obtain ⟨v, H', os, bare, un, hok', rel, rfl⟩ := h
      cases rel
      refine ⟨rfl, OldK.of_keep ?_, os, bare⟩
      intro b o e
      cases q : H b with
      | none => exact un.keep b o e q (fun z => by cases z) (fun z => by cases z)
      | some u =>
        rcases hO b with z | ⟨ob, xs, z⟩
        · rw [q] at z
          cases z
        · have e1 := (hok b _ z).1
          have e2 := (hok' b _ (un.frzs b ob _ z)).1
          rw [e] at e1
          cases e1
          exact e2
theorem law_goG (kin : K.In s.heap) (hns : s.heap.Ns mainGlobals mg)
    (hb : s.heap.Ns builtinsNs mb) (hbb : ∀ x : Str, x ≠ "__name__" → mb x = bootBuiltins x)
    (hlim : s.heap.NoLimit) (hgens : s.gens = #[])
    (hat : s.heap.get? a = some { cls := .type "list", data := .seq vs.toArray })
    (hi : IntsAre vs ns) (hl : ns.length ≤ sizeLine) (hr : Room k callerA)
    (F : ∀ base : Heap, K.In base → base.Ns mainGlobals mg → FnG P w K mg base k fa fd [x] sp)
    (hbind : ∀ (s : Shared) (u : Value), BindsTo s fd ⟨[u], []⟩ [(x, u)])
    (hsp : ∀ H : Hp, Only H → SqL K H a (ns.map V.int) →
      sp [.ref a] H (fun v _ => v = .bl true) E0) :
    codeAny (model P w) callerA (.call (.ref fa) ⟨[.ref a], []⟩)
      (fun r s' => r = .ok (.ret (.bool true)) ∧ OldK s.heap s'.heap ∧ s'.os = s.os ∧
        AllBare s'.gens) s := by
  have rel := vals_ints hi
  have lenEq := hi.length
  cases hk : K.lookup a with
  | some o =>
    have e := kin a o hk
    rw [hat] at e
    cases e
    have hO : Only (fun _ => none) := fun _ => Or.inl rfl
    have hS : SqL K (fun _ => none) a (ns.map V.int) :=
      Or.inr ⟨_, vs.toArray, _, hk, rfl, rfl, rfl,
        by rw [List.size_toArray, lenEq]; exact hl, by simpa using rel⟩
    exact law_coreG kin hns hb hbb hlim hgens hat hr F hbind _ hO
      (fun b u z => nomatch z) (fun b z => absurd rfl z) (fun z => absurd rfl z) (hsp _ hO hS)
  | none =>
    let H : Hp := fun b => if b = a then
      some (.frz { cls := .type "list", data := .seq vs.toArray } (.lst (ns.map V.int))) else none
    have at_a : H a = some (.frz { cls := .type "list", data := .seq vs.toArray }
      (.lst (ns.map V.int))) := if_pos rfl
    have off : ∀ b, b ≠ a → H b = none := fun b h => if_neg h
    have hO : Only H := by
      intro b
      by_cases h : b = a
      · subst h
        exact Or.inr ⟨_, _, at_a⟩
      · exact Or.inl (off b h)
    have hS : SqL K H a (ns.map V.int) := Or.inl (Or.inr ⟨_, at_a⟩)
    refine law_coreG kin hns hb hbb hlim hgens hat hr F hbind H hO ?_ ?_ (fun _ => hk) (hsp H hO hS)
    · intro b u z
      by_cases h : b = a
      · subst h
        rw [at_a] at z
        cases z
        exact ⟨hat, by rw [List.length_map]; exact hl, vs, _, rel, hat⟩
      · rw [off b h] at z
        cases z
    · intro b z
      by_cases h : b = a
      · exact h
      · exact absurd (off b h) z
end
/-- a law's end -/
theorem walkG {l : PySem.W.OpenLaw} {n k : Nat} {q : Program} {loose : List Str}
    {XP : (Str → Option Value) → Heap → Prop} {YP : World → Heap → Prop} {d : DefRec} {x : Str}
    (hn : l.most = some n) (hn2 : n ≤ sizeLine) (hdf : d.params.defaults = [])
    (hr : Room k callerA)
    (F : ∀ (w : World) (mg : Str → Option Value) (fa : Addr) (h : Heap), YP w h →
      h.Ns mainGlobals mg → mg d.name = some (.ref fa) →
      ∃ (K : PySem.W.Frag) (fd : FuncData) (sp : Sp), K.In h ∧
        (∀ (s : Shared) (u : Value), BindsTo s fd ⟨[u], []⟩ [(x, u)]) ∧
        (∀ (H : Hp) (a : Addr) (ns : List Int), ns.length ≤ n → Only H →
          SqL K H a (ns.map V.int) → sp [.ref a] H (fun v _ => v = .bl true) E0) ∧
        ∀ base : Heap, K.In base → base.Ns mainGlobals mg → FnG l.prog w K mg base k fa fd [x] sp) :
    PySem.W.WalkO q loose XP YP l.row.toRowW d [] (fun f vs => PySem.call f vs) := by
  refine Att.attach_call hn hdf ?_
  intro w s₀ s₁ mg mb fa o pm cd doc a vs ns G Y _ _ _ hmg hobj hints hlen hgens
  obtain ⟨K, fd, sp, kin, hb, hsp, hF⟩ := F w mg fa _ Y G.T.g hmg
  exact law_goG kin G.T.g G.T.b G.T.builtins G.T.nolimit hgens hobj hints
    (Nat.le_trans hlen hn2) hr hF hb (fun H hO hS => hsp H a ns hlen hO hS)
end Gd
namespace Gd
open PySem PySem.Spec PyProof.Rows L2
/-- the def x of the text stands at its name -/
def Df (K : PySem.W.Frag) (mg : Str → Option Value) (x : Str) (st : Stmt) : Prop :=
  ∃ f fd, FunD K x x (defArgs st) (defBody st) (defScope st) [] [] f fd ∧ mg x = some (.ref f)
/-- the def x keeps its promise; the same where no repr is under way -/
def Has (P : Program) (w : World) (K : PySem.W.Frag) (mg : Str → Option Value) (base : Heap)
    (x : Str) (k : Nat) (ps : List Str) (sp : Sp) : Prop :=
  ∃ f fd, FnOk P w K mg base CX0 k f fd ps sp ∧ mg x = some (.ref f) ∧
    PySem.W.keepIn K (.ref f) = true ∧ Binds K fd ps []
def HasG (P : Program) (w : World) (K : PySem.W.Frag) (mg : Str → Option Value) (base : Heap)
    (x : Str) (k : Nat) (ps : List Str) (sp : Sp) : Prop :=
  ∃ f fd, FnG P w K mg base k f fd ps sp ∧ mg x = some (.ref f) ∧
    PySem.W.keepIn K (.ref f) = true ∧ Binds K fd ps []
abbrev BndOk (x : Str) (st : Stmt) (ps : List Str) : Prop :=
  ∀ (kV doc pm : Value) (an : Option Addr) (cdv ct : Value) (us : List Value),
    us.length = ps.length →
    bindArgs (PySem.W.fnOf x x (defArgs st) (defBody st) (defScope st) .none kV doc pm an cdv ct)
      ⟨us, []⟩ = pure (ps.zip us)
section
variable {P : Program} {w : World} {K : PySem.W.Frag} {mg : Str → Option Value} {base : Heap}
  {x : Str} {st : Stmt} {N ps : List Str} {k : Nat} {sp : Sp}
theorem has_of (D : Df K mg x st) (S : FnScope N ps (defScope st)) (hb : BndOk x st ps)
    (len : ∀ vs H Q E, sp vs H Q E → vs.length = ps.length)
    (hbody : ∀ (f : Addr) (cdv : Value) (A : Around) (outer : List Env) (s : Shared) (H : Hp)
      (vs : List V) (Q : VK) (E : XK),
      Room k (A.deeper (envOfC x (defScope st) s.heap.objs.size f cdv)) → sp vs H Q E →
      ∃ t, PSs (cxOf CX0 P w K mg base N x (defScope st) f cdv A outer s H E).nox (defBody st) t ∧
        t { nx := fun _ H' => Q .non H', rt := Q } (start N vs) H) :
    Has P w K mg base x (k + 1) ps sp := by
  obtain ⟨f, fd, F, hm⟩ := D
  refine ⟨f, fd, F.ok S len ?_, hm, F.kp, F.bindsN hb⟩
  intro cdv A outer s H vs Q E hr h
  obtain ⟨t, h1, h2⟩ := hbody f cdv A outer s H vs Q E hr h
  exact ⟨t, PSs.nox h1, h2⟩
theorem hasG_of (D : Df K mg x st) (S : FnScope N ps (defScope st)) (hb : BndOk x st ps)
    (len : ∀ vs H Q E, sp vs H Q E → vs.length = ps.length)
    (hbody : ∀ (f : Addr) (cdv : Value) (A : Around) (outer : List Env) (s : Shared) (H : Hp)
      (vs : List V) (Q : VK) (E : XK),
      (A.deeper (envOfC x (defScope st) s.heap.objs.size f cdv)).guards = some [] →
      Room k (A.deeper (envOfC x (defScope st) s.heap.objs.size f cdv)) → sp vs H Q E →
      ∃ t, PSs (cxOf CX0 P w K mg base N x (defScope st) f cdv A outer s H E).nox (defBody st) t ∧
        t { nx := fun _ H' => Q .non H', rt := Q } (start N vs) H) :
    HasG P w K mg base x (k + 1) ps sp := by
  obtain ⟨f, fd, F, hm⟩ := D
  refine ⟨f, fd, okG F S len ?_, hm, F.kp, F.bindsN hb⟩
  intro cdv A outer s H vs Q E hG hr h
  obtain ⟨t, h1, h2⟩ := hbody f cdv A outer s H vs Q E hG hr h
  exact ⟨t, PSs.nox h1, h2⟩
end
section
variable {X : Cx} {k : Nat} {ps : List Str} {sp : Sp} {x : Str} {p pos : Pos} {e : Expr}
  {es : List Expr} {t : TA}
theorem pe_has (F : Has X.prog X.w X.K X.mg X.base x k ps sp) (hr : Room k X.A) (hg : Gl X x)
    (ha : PA X (e :: es) t) (hdb : (x == ("__debug__" : Str)) = false := by decide)
    (he : starEach (e :: es) X.env = (false, eval e X.env) :: starEach es X.env := by rfl)
    (hpl : (backTo pos (starEach es X.env)).any (·.1) = false := by rfl) :
    PE X (.Call (.Name x p) (e :: es) [] pos) (tCall sp [] E0 t) := by
  obtain ⟨f, fd, G, hm, kp, hb⟩ := F
  exact pe_call G hr hg hm kp hb .nil pass0 ha hdb he hpl
theorem pe_hasG (F : HasG X.prog X.w X.K X.mg X.base x k ps sp) (hG : X.A.guards = some [])
    (hr : Room k X.A) (hg : Gl X x)
    (ha : PA X (e :: es) t) (hdb : (x == ("__debug__" : Str)) = false := by decide)
    (he : starEach (e :: es) X.env = (false, eval e X.env) :: starEach es X.env := by rfl)
    (hpl : (backTo pos (starEach es X.env)).any (·.1) = false := by rfl) :
    PE X (.Call (.Name x p) (e :: es) [] pos) (tCall sp [] E0 t) := by
  obtain ⟨f, fd, G, hm, kp, hb⟩ := F
  exact pe_callG G hG hr hg hm kp hb ha hdb he hpl
end
/-! ### heaps -/
/-- all but what stands at a is as it was -/
def Sb (a : Addr) (H H' : Hp) : Prop := ∀ b o, b ≠ a → H b = some o → H' b = some o
theorem Sb.refl (a : Addr) (H : Hp) : Sb a H H := fun _ _ _ h => h
theorem Sb.trans {a : Addr} {H H1 H2 : Hp} (x : Sb a H H1) (y : Sb a H1 H2) : Sb a H H2 :=
  fun b o n h => y b o n (x b o n h)
theorem Sb.of {a : Addr} {H H1 : Hp} (x : Same H H1) : Sb a H H1 := fun b o _ h => x b o h
theorem Same.new {H : Hp} {p : Addr} {o : HO} (h : H p = none) : Same H (upd H p o) :=
  fun b u e => by rw [upd_ne (ne_of_none e h)]; exact e
/-- an object that H does not know may change -/
theorem Same.mut {H H' : Hp} {p : Addr} {o : HO} (e : Same H H') (h : H p = none) :
    Same H (upd H' p o) := fun a u ha => by
  rw [upd_ne (ne_of_none ha h)]
  exact e a u ha
theorem Sb.mut {a : Addr} {H H' : Hp} {p : Addr} {o : HO} (e : Sb a H H') (h : H p = none) :
    Sb a H (upd H' p o) := fun b u n hb => by
  rw [upd_ne (ne_of_none hb h)]
  exact e b u n hb
theorem Sb.own {a : Addr} {H H' : Hp} {o : HO} (e : Sb a H H') : Sb a H (upd H' a o) :=
  fun b u n hb => by rw [upd_ne n]; exact e b u n hb
theorem Sb.new {a : Addr} {H : Hp} {p : Addr} {o : HO} (h : H p = none) : Sb a H (upd H p o) :=
  Sb.of (Same.new h)
theorem Sb.free {a p : Addr} {H H' : Hp} (e : Sb a H H') (n : p ≠ a) (h : H' p = none) :
    H p = none := by
  cases q : H p with
  | none => rfl
  | some o => rw [e p o n q] at h; cases h
/-- the feed of a law at a: its cells at s (the script's first ones), where it stands, what is left,
how many draws there were (n at most) -/
def Fd (H : Hp) (a s : Addr) (n : Nat) : Prop :=
  ∃ (ns : List Int) (p l c : Int),
    H a = some (.lst [.ref s, .int p, .int l, .int c]) ∧ H s = some (.lst (ns.map V.int)) ∧
    ns.length ≤ 63 ∧ 0 ≤ p ∧ 0 ≤ c ∧ c ≤ (n : Int)
theorem Fd.mono {H : Hp} {a s : Addr} {n m : Nat} (h : Fd H a s n) (e : n ≤ m) : Fd H a s m := by
  obtain ⟨ns, p, l, c, h1, h2, h3, h4, h5, h6⟩ := h
  exact ⟨ns, p, l, c, h1, h2, h3, h4, h5, by omega⟩
theorem Fd.same {H H' : Hp} {a s : Addr} {n : Nat} (h : Fd H a s n) (e : Same H H') : Fd H' a s n := by
  obtain ⟨ns, p, l, c, h1, h2, h3, h4, h5, h6⟩ := h
  exact ⟨ns, p, l, c, e _ _ h1, e _ _ h2, h3, h4, h5, h6⟩
theorem Fd.at {H : Hp} {a s : Addr} {n : Nat} (h : Fd H a s n) : ∃ xs, H a = some (.lst xs) := by
  obtain ⟨ns, p, l, c, h1, _⟩ := h
  exact ⟨_, h1⟩
/-- another object changes -/
theorem Fd.upd {H : Hp} {a s D : Addr} {n : Nat} {o : HO} (h : Fd H a s n) (h1 : D ≠ a) (h2 : D ≠ s) :
    Fd (L2.upd H D o) a s n := by
  obtain ⟨ns, p, l, c, e1, e2, h3, h4, h5, h6⟩ := h
  exact ⟨ns, p, l, c, by rw [upd_ne h1.symm]; exact e1, by rw [upd_ne h2.symm]; exact e2, h3, h4, h5, h6⟩
/-- what is new is none of the feed's -/
theorem Fd.apart {H : Hp} {a s D : Addr} {n : Nat} (h : Fd H a s n) (hD : H D = none) : D ≠ a ∧ D ≠ s := by
  obtain ⟨ns, p, l, c, e1, e2, _⟩ := h
  constructor
  · intro z
    rw [z, e1] at hD
    cases hD
  · intro z
    rw [z, e2] at hD
    cases hD
theorem Fd.tk {H H' : Hp} {a s : Addr} {n : Nat} (h : Fd H a s n) (e : Sb a H H') :
    ∀ b o, (∀ xs, o ≠ .lst xs) → H b = some o → H' b = some o := by
  obtain ⟨xs, hx⟩ := h.at
  intro b o no hb
  refine e b o ?_ hb
  rintro rfl
  rw [hx] at hb
  cases hb
  exact no _ rfl
end Gd
namespace Gd
open PySem PySem.Spec PyProof.Rows L2
/-- data whose repr is known: of this depth at most, its text of so many signs at most -/
def Sh (k n : Nat) (d : PyData) : Prop :=
  d.showable = true ∧ d.hasDict = false ∧ d.depth ≤ k ∧ d.shown.length ≤ n
theorem Sh.mono {k k' n n' : Nat} {d : PyData} (h : Sh k n d) (hk : k ≤ k') (hn : n ≤ n') :
    Sh k' n' d := ⟨h.1, h.2.1, Nat.le_trans h.2.2.1 hk, Nat.le_trans h.2.2.2 hn⟩
theorem Sh.int {i : Int} (h : i.natAbs < 2 ^ 1900) : Sh 0 1901 (.int i) := by
  have hl : i.natAbs.log2 < 1900 := PySem.Flt.log2_lt_of (by decide) h
  refine ⟨?_, ?_, ?_, ?_⟩
  · simp only [PyData.showable, decide_eq_true_eq]
    omega
  · simp only [PyData.hasDict]
  · simp only [PyData.depth]
    omega
  · have e := PySem.int_text_length_le (a := i) (k := 1900) (by decide) hl
    simp only [PyData.shown]
    have e2 := PySem.ofString_length (toString i)
    show (Str.ofString (toString i)).length ≤ 1901
    omega
theorem sh_all {k n : Nat} : ∀ ds : List PyData, (∀ d ∈ ds, Sh k n d) →
    PyData.showableAll ds = true ∧ PyData.hasDictAll ds = false ∧ PyData.depthAll ds ≤ k ∧
    ((PyData.shownAll ds).map (·.length)).sum ≤ ds.length * n ∧ (PyData.shownAll ds).length = ds.length
  | [], _ => by
    refine ⟨?_, ?_, ?_, ?_, ?_⟩
    · simp only [PyData.showableAll]
    · simp only [PyData.hasDictAll]
    · simp only [PyData.depthAll]
      omega
    · simp only [PyData.shownAll, List.map_nil, List.sum_nil, List.length_nil]
      omega
    · simp only [PyData.shownAll, List.length_nil]
  | d :: ds, h => by
    obtain ⟨a1, a2, a3, a4⟩ := h d (List.mem_cons_self ..)
    obtain ⟨b1, b2, b3, b4, b5⟩ := sh_all ds (fun x hx => h x (List.mem_cons_of_mem _ hx))
    refine ⟨?_, ?_, ?_, ?_, ?_⟩
    · simp only [PyData.showableAll, a1, b1, Bool.and_self]
    · simp only [PyData.hasDictAll, a2, b2, Bool.or_self]
    · simp only [PyData.depthAll]
      omega
    · simp only [PyData.shownAll, List.map_cons, List.sum_cons, List.length_cons, Nat.add_mul,
        Nat.one_mul]
      omega
    · simp only [PyData.shownAll, List.length_cons, b5]
theorem Sh.tup {k n m : Nat} {ds : List PyData} (h : ∀ d ∈ ds, Sh k n d) (hl : ds.length ≤ m) :
    Sh (k + 1) (m * (n + 2) + 3) (.tuple ds) := by
  obtain ⟨b1, b2, b3, b4, b5⟩ := sh_all ds h
  refine ⟨?_, ?_, ?_, ?_⟩
  · simp only [PyData.showable, b1]
  · simp only [PyData.hasDict, b2]
  · simp only [PyData.depth]
    omega
  · have e := PySem.tupleText_len_le (PyData.shownAll ds)
    simp only [PyData.shown]
    have e2 : ds.length * n ≤ m * n := Nat.mul_le_mul_right _ hl
    rw [Nat.mul_add]
    omega
theorem Sh.lst {k n m : Nat} {ds : List PyData} (h : ∀ d ∈ ds, Sh k n d) (hl : ds.length ≤ m) :
    Sh (k + 1) (m * (n + 2) + 3) (.list ds) := by
  obtain ⟨b1, b2, b3, b4, b5⟩ := sh_all ds h
  refine ⟨?_, ?_, ?_, ?_⟩
  · simp only [PyData.showable, b1]
  · simp only [PyData.hasDict, b2]
  · simp only [PyData.depth]
    omega
  · have e := PySem.listText_len_le (PyData.shownAll ds)
    simp only [PyData.shown]
    have e2 : ds.length * n ≤ m * n := Nat.mul_le_mul_right _ hl
    rw [Nat.mul_add]
    omega
theorem repr_at {K : PySem.W.Frag} {H : Hp} {a : Addr} {d : PyData} {k n : Nat} {Q : VK}
    (hd : Dp K H (.ref a) d) (hs : Sh k n d) (hk : k ≤ 60) (hn : n ≤ 16000000)
    (q : Q (.str d.shown) H) : rRepr K [.ref a] H Q :=
  ⟨a, d, rfl, hd, hs.1, hs.2.1, Nat.le_trans hs.2.2.1 hk,
    Nat.le_trans hs.2.2.2 (Nat.le_trans hn (by decide)), q⟩
/-- data that are there stay while what is tracked stays -/
theorem sql_same {K : PySem.W.Frag} {H H' : Hp} {a : Addr} {xs : List V} (e : Same H H')
    (h : SqL K H a xs) : SqL K H' a xs := e.seq h
theorem sqt_same {K : PySem.W.Frag} {H H' : Hp} {a : Addr} {xs : List V} (e : Same H H')
    (h : SqT K H a xs) : SqT K H' a xs := by
  rcases h with (h | ⟨o, h⟩) | h
  · exact Or.inl (Or.inl (e _ _ h))
  · exact Or.inl (Or.inr ⟨o, e _ _ h⟩)
  · exact Or.inr h
mutual
theorem Dp.same {K : PySem.W.Frag} {H H' : Hp} (e : Same H H') : ∀ (d : PyData) (v : V),
    Dp K H v d → Dp K H' v d
  | .none, _, h => by cases h; exact .non
  | .bool b, _, h => by cases h; exact .bl b
  | .int i, _, h => by cases h; exact .int i
  | .str x, _, h => by cases h; exact .str x
  | .list ds, _, h => by
    cases h with
    | lst hs ha => exact .lst (sql_same e hs) (DpAll.same e ds _ ha)
  | .tuple ds, _, h => by
    cases h with
    | tup hs ha => exact .tup (sqt_same e hs) (DpAll.same e ds _ ha)
  | .dict _, _, h => by cases h
theorem DpAll.same {K : PySem.W.Frag} {H H' : Hp} (e : Same H H') : ∀ (ds : List PyData)
    (vs : List V), DpAll K H vs ds → DpAll K H' vs ds
  | [], _, h => by cases h; exact .nil
  | d :: ds, _, h => by
    cases h with
    | cons h1 h2 => exact .cons (Dp.same e d _ h1) (DpAll.same e ds _ h2)
end
end Gd
namespace Gd
open PySem PySem.Spec PyProof.Rows L2
theorem tup_mul_one (l : Addr) (items : Array Value) (n : Nat) (dd : Option Addr)
    (sl : Array (Option Value)) (u : Tok) :
    Meets (Builtin.«tuple.__mul__» ⟨[.ref l, .int 1 u], []⟩) (fun _ R s =>
      s.heap.get? l = some { cls := .type "tuple", dict := dd, data := .seq items n, slots := sl } ∧
      R (.ok (.ret (Value.ref l))) s) :=
  .of_wp fun prog w A R s h => by
    obtain ⟨hp, g, d, tk, os⟩ := s
    obtain ⟨hl, h⟩ := h
    have f1 := AutoSeq1.idx_int
    have c1 : (items.isEmpty || (1 : Int) == 1) = true := by simp
    wp_walk using wpAny_loadPart' hl
    all_goals (try (refine wpAny_ite_true (decide_eq_true c1) ?_; wp_walk using wpAny_loadPart' hl))
    all_goals exact ⟨_, rfl, h⟩
theorem tup_mul_none (l : Addr) (items : Array Value) (n : Nat) (dd : Option Addr)
    (sl : Array (Option Value)) (x : Int) (u : Tok) (hx : x ≤ 0) (hx0 : -1000 ≤ x) (hi : items.isEmpty = false) :
    Meets (Builtin.«tuple.__mul__» ⟨[.ref l, .int x u], []⟩) (fun _ R s =>
      s.heap.get? l = some { cls := .type "tuple", dict := dd, data := .seq items n, slots := sl } ∧
      R (.ok (.ret (Value.ref s.heap.objs.size)))
        { s with heap := s.heap.push { cls := Value.type "tuple", data := Data.seq #[] }, toks := s.toks }) :=
  .of_wp fun prog w A R s h => by
    obtain ⟨hp, g, d, tk, os⟩ := s
    obtain ⟨hl, h⟩ := h
    have f1 := AutoSeq1.idx_int
    have c0 : (decide (x < -(2 ^ 63)) || decide (x ≥ 2 ^ 63)) = false := by
      rw [decide_eq_false (by omega), decide_eq_false (by omega)]; rfl
    have c1 : (items.isEmpty || x == 1) = false := by
      rw [hi, Bool.false_or]
      exact beq_eq_false_iff_ne.mpr (by omega)
    have c2 : (decide (x ≤ 0) || items.isEmpty) = true := by
      rw [decide_eq_true hx]; rfl
    wp_walk using wpAny_loadPart' hl
    repeat (first
      | (refine wpAny_ite_false (decide_eq_false (by rw [c0]; exact Bool.false_ne_true)) ?_; wp_walk using wpAny_loadPart' hl)
      | (refine wpAny_ite_false (decide_eq_false (by rw [c1]; exact Bool.false_ne_true)) ?_; wp_walk using wpAny_loadPart' hl)
      | (refine wpAny_ite_true (decide_eq_true c2) ?_; wp_walk using wpAny_loadPart' hl))
    exact ⟨_, rfl, h⟩
section
variable {X : Cx}
/-- t * k of a tuple with items, k small, of either sign -/
def rRepA (K : PySem.W.Frag) : R2 := fun x y H Q => ∃ (l : Addr) (k : Int) (xs : List V),
  x = .ref l ∧ y = .int k ∧ SqT K H l xs ∧ xs ≠ [] ∧ -1000 ≤ k ∧ k ≤ 1000 ∧ xs.length ≤ 1000 ∧
  ∀ (p : Addr) (H' : Hp), Same H H' → SqT K H' p (List.replicate k.toNat xs).flatten → Q (.ref p) H'
theorem op_repA : OpR X (binaryOp .Mult) (rRepA X.K) := by
  intro pins s σ H x y v u Q I rx ry h
  obtain ⟨l, k, xs, rfl, rfl, hT, hne, h1, h2, hz, q⟩ := h
  by_cases hk : 2 ≤ k
  · exact op_repT pins s σ H _ _ v u Q I rx ry ⟨l, k, xs, rfl, rfl, hT, hne, hk, h2, hz,
      fun p np => q p _ (Same.new np) (SqT.of upd_same)⟩
  · cases rx
    obtain ⟨t, rfl⟩ := ry
    obtain ⟨its, r, ⟨⟨cls, dd, data, sl⟩, ho, hc, n, hd⟩, hs⟩ := I.tuple hT
    simp only at hc hd
    subst hc hd
    by_cases hk1 : k = 1
    · subst hk1
      refine wpAny_binaryOp_repeat_ref (T := "tuple") (U := "int") (by decide) ⟨_, ho, rfl⟩
        (fun s' => typeIs_int s' 1 t) noFill_tuple_mul F.fills_int_mul F.slot_int_rmul repeat_tuple
        F.slot_int_index.lookup
        (call_meets F.slot_int_rmul (typeIs_int s 1 t) F.entry_int_rmul (F.args_int_rmul_2 _ _)
          (int_rmul_tuple 1 t l its.toArray n dd sl)
          ⟨ho, rfl, ⟨_, ho, rfl⟩, call_meets F.slot_tuple_mul ⟨_, ho, rfl⟩ F.entry_tuple_mul
            (F.args_tuple_mul_2 _ _) (tup_mul_one l its.toArray n dd sl t) ⟨ho, ?_⟩⟩)
      refine ⟨.ref l, H, I, rfl, q l H (Same.refl H) ?_⟩
      have e : (List.replicate (Int.toNat 1) xs).flatten = xs := by simp
      rw [e]
      exact hT
    · have hi : its.toArray.isEmpty = false := by
        have hle : its.length = xs.length := r.length.symm
        cases its with
        | nil => exact absurd (List.eq_nil_of_length_eq_zero hle.symm) hne
        | cons a b => rfl
      refine wpAny_binaryOp_repeat_ref (T := "tuple") (U := "int") (by decide) ⟨_, ho, rfl⟩
        (fun s' => typeIs_int s' k t) noFill_tuple_mul F.fills_int_mul F.slot_int_rmul repeat_tuple
        F.slot_int_index.lookup
        (call_meets F.slot_int_rmul (typeIs_int s k t) F.entry_int_rmul (F.args_int_rmul_2 _ _)
          (int_rmul_tuple k t l its.toArray n dd sl)
          ⟨ho, rfl, ⟨_, ho, rfl⟩, call_meets F.slot_tuple_mul ⟨_, ho, rfl⟩ F.entry_tuple_mul
            (F.args_tuple_mul_2 _ _) (tup_mul_none l its.toArray n dd sl k t (by omega) h1 hi) ⟨ho, ?_⟩⟩)
      have nf : H s.heap.objs.size = none := I.hok.fresh (Nat.le_refl _)
      refine ⟨.ref s.heap.objs.size, upd H s.heap.objs.size (.tup []), I.laid (t' := s.toks)
        (o := .tup []) (fun b ob q => Heap.get?_push_of_some _ q) (Nat.le_refl _) ?_, rfl, ?_⟩
      · exact ⟨Nat.zero_le _, [], .nil, IsTup.new _ _⟩
      · refine q _ _ (Same.new nf) ?_
        have e : (List.replicate k.toNat xs).flatten = [] := by
          rw [show k.toNat = 0 from by omega]
          rfl
        rw [e]
        exact SqT.of upd_same
end
end Gd
namespace Gd
open PySem PySem.Spec PyProof.Rows L2
/-! ### data of tuples -/
/-- all that is no list is kept -/
def Tk (H H' : Hp) : Prop := ∀ b o, (∀ xs, o ≠ .lst xs) → H b = some o → H' b = some o
theorem Tk.refl (H : Hp) : Tk H H := fun _ _ _ h => h
theorem Tk.trans {H H1 H2 : Hp} (x : Tk H H1) (y : Tk H1 H2) : Tk H H2 :=
  fun b o n h => y b o n (x b o n h)
theorem Tk.of {H H' : Hp} (e : Same H H') : Tk H H' := fun b o _ h => e b o h
theorem Tk.sb {a : Addr} {H H' : Hp} {xs : List V} (ha : H a = some (.lst xs)) (e : Sb a H H') :
    Tk H H' := fun b o n h => by
  refine e b o ?_ h
  rintro rfl
  rw [ha] at h
  cases h
  exact n _ rfl
theorem Tk.lst {H : Hp} {p : Addr} {o : HO} {xs : List V} (h : H p = some (.lst xs)) :
    Tk H (upd H p o) := fun b u n hb => by
  rw [upd_ne ?_]
  · exact hb
  · rintro rfl
    rw [h] at hb
    cases hb
    exact n _ rfl
mutual
/-- no list, no dict within -/
def tupOnly : PyData → Bool
  | .none | .bool _ | .int _ | .str _ => true
  | .tuple ds => tupAll ds
  | .list _ | .dict _ => false
def tupAll : List PyData → Bool
  | [] => true
  | d :: ds => tupOnly d && tupAll ds
end
theorem tupAll_iff : ∀ ds : List PyData, tupAll ds = true ↔ ∀ d ∈ ds, tupOnly d = true
  | [] => by simp [tupAll]
  | d :: ds => by
    simp only [tupAll, Bool.and_eq_true, List.mem_cons, forall_eq_or_imp, tupAll_iff ds]
theorem sqt_tk {K : PySem.W.Frag} {H H' : Hp} {a : Addr} {xs : List V} (e : Tk H H')
    (h : SqT K H a xs) : SqT K H' a xs := by
  rcases h with (h | ⟨o, h⟩) | h
  · exact Or.inl (Or.inl (e _ _ (fun _ z => by cases z) h))
  · exact Or.inl (Or.inr ⟨o, e _ _ (fun _ z => by cases z) h⟩)
  · exact Or.inr h
mutual
theorem Dp.tk {K : PySem.W.Frag} {H H' : Hp} (e : Tk H H') : ∀ (d : PyData) (v : V),
    tupOnly d = true → Dp K H v d → Dp K H' v d
  | .none, _, _, h => by cases h; exact .non
  | .bool b, _, _, h => by cases h; exact .bl b
  | .int i, _, _, h => by cases h; exact .int i
  | .str x, _, _, h => by cases h; exact .str x
  | .list ds, _, t, h => by simp [tupOnly] at t
  | .tuple ds, _, t, h => by
    cases h with
    | tup hs ha => exact .tup (sqt_tk e hs) (DpAll.tk e ds _ (by simpa [tupOnly] using t) ha)
  | .dict _, _, t, h => by simp [tupOnly] at t
theorem DpAll.tk {K : PySem.W.Frag} {H H' : Hp} (e : Tk H H') : ∀ (ds : List PyData)
    (vs : List V), tupAll ds = true → DpAll K H vs ds → DpAll K H' vs ds
  | [], _, _, h => by cases h; exact .nil
  | d :: ds, _, t, h => by
    have t' : tupOnly d = true ∧ tupAll ds = true := by simpa [tupAll] using t
    cases h with
    | cons h1 h2 => exact .cons (Dp.tk e d _ t'.1 h1) (DpAll.tk e ds _ t'.2 h2)
end
theorem dp_tup {K : PySem.W.Frag} {H : Hp} {v : V} {ds : List PyData} (h : Dp K H v (.tuple ds)) :
    ∃ a xs, v = .ref a ∧ SqT K H a xs ∧ DpAll K H xs ds := by
  cases h with
  | tup hs ha => exact ⟨_, _, rfl, hs, ha⟩
theorem dp_lst {K : PySem.W.Frag} {H : Hp} {v : V} {ds : List PyData} (h : Dp K H v (.list ds)) :
    ∃ a xs, v = .ref a ∧ SqL K H a xs ∧ DpAll K H xs ds := by
  cases h with
  | lst hs ha => exact ⟨_, _, rfl, hs, ha⟩
theorem dp_int {K : PySem.W.Frag} {H : Hp} {v : V} {i : Int} (h : Dp K H v (.int i)) : v = .int i := by
  cases h
  rfl
theorem dpa_cons {K : PySem.W.Frag} {H : Hp} {xs : List V} {d : PyData} {ds : List PyData}
    (h : DpAll K H xs (d :: ds)) : ∃ v vs, xs = v :: vs ∧ Dp K H v d ∧ DpAll K H vs ds := by
  cases h with
  | cons h1 h2 => exact ⟨_, _, rfl, h1, h2⟩
theorem dpa_nil {K : PySem.W.Frag} {H : Hp} {xs : List V} (h : DpAll K H xs []) : xs = [] := by
  cases h
  rfl
theorem dpa_ints {K : PySem.W.Frag} {H : Hp} : ∀ (r : List Int) (xs : List V),
    DpAll K H xs (r.map PyData.int) → xs = r.map V.int
  | [], xs, h => dpa_nil h
  | i :: r, xs, h => by
    obtain ⟨v, vs, rfl, h1, h2⟩ := dpa_cons h
    rw [dp_int h1, dpa_ints r vs h2]
    rfl
theorem dpa_len {K : PySem.W.Frag} {H : Hp} : ∀ (ds : List PyData) (xs : List V),
    DpAll K H xs ds → xs.length = ds.length
  | [], xs, h => by rw [dpa_nil h]; rfl
  | d :: ds, xs, h => by
    obtain ⟨v, vs, rfl, _, h2⟩ := dpa_cons h
    simp [dpa_len ds vs h2]
theorem dpa_get {K : PySem.W.Frag} {H : Hp} : ∀ (ds : List PyData) (xs : List V) (i : Nat) (x : V),
    DpAll K H xs ds → xs[i]? = some x → ∃ d, ds[i]? = some d ∧ Dp K H x d
  | [], xs, i, x, h, e => by rw [dpa_nil h] at e; simp at e
  | d :: ds, xs, i, x, h, e => by
    obtain ⟨v, vs, rfl, h1, h2⟩ := dpa_cons h
    cases i with
    | zero =>
      simp at e
      subst e
      exact ⟨d, rfl, h1⟩
    | succ i => exact dpa_get ds vs i x h2 (by simpa using e)
theorem dpa_at {K : PySem.W.Frag} {H : Hp} : ∀ (ds : List PyData) (xs : List V) (i : Nat) (d : PyData),
    DpAll K H xs ds → ds[i]? = some d → ∃ x, xs[i]? = some x ∧ Dp K H x d
  | [], xs, i, d, h, e => by simp at e
  | d0 :: ds, xs, i, d, h, e => by
    obtain ⟨v, vs, rfl, h1, h2⟩ := dpa_cons h
    cases i with
    | zero =>
      simp at e
      subst e
      exact ⟨v, rfl, h1⟩
    | succ i => exact dpa_at ds vs i d h2 (by simpa using e)
theorem dpa_snoc {K : PySem.W.Frag} {H : Hp} : ∀ (ds : List PyData) (xs : List V) (v : V) (d : PyData),
    DpAll K H xs ds → Dp K H v d → DpAll K H (xs ++ [v]) (ds ++ [d])
  | [], xs, v, d, h, e => by rw [dpa_nil h]; exact .cons e .nil
  | d0 :: ds, xs, v, d, h, e => by
    obtain ⟨x, vs, rfl, h1, h2⟩ := dpa_cons h
    exact .cons h1 (dpa_snoc ds vs v d h2 e)
theorem dpa_append {K : PySem.W.Frag} {H : Hp} : ∀ (ds es : List PyData) (xs ys : List V),
    DpAll K H xs ds → DpAll K H ys es → DpAll K H (xs ++ ys) (ds ++ es)
  | [], es, xs, ys, h, e => by rw [dpa_nil h]; exact e
  | d0 :: ds, es, xs, ys, h, e => by
    obtain ⟨x, vs, rfl, h1, h2⟩ := dpa_cons h
    exact .cons h1 (dpa_append ds es vs ys h2 e)
/-! ### rows and tables -/
def rowD (r : List Int) : PyData := .tuple (r.map .int)
def rowsD (rs : List (List Int)) : PyData := .tuple (rs.map rowD)
def tabD (w : Int) (rs : List (List Int)) : PyData := .tuple [.int w, rowsD rs]
theorem ints_tup : ∀ r : List Int, tupAll (r.map .int) = true
  | [] => by simp [tupAll]
  | i :: r => by simp [tupAll, tupOnly, ints_tup r]
theorem rowD_tup (r : List Int) : tupOnly (rowD r) = true := by simp [rowD, tupOnly, ints_tup]
theorem rows_tup : ∀ rs : List (List Int), tupAll (rs.map rowD) = true
  | [] => by simp [tupAll]
  | r :: rs => by simp [tupAll, rowD_tup, rows_tup rs]
theorem rowsD_tup (rs : List (List Int)) : tupOnly (rowsD rs) = true := by simp [rowsD, tupOnly, rows_tup]
theorem tabD_tup (w : Int) (rs : List (List Int)) : tupOnly (tabD w rs) = true := by
  simp [tabD, tupOnly, tupAll, rowsD_tup]
theorem dp_row {K : PySem.W.Frag} {H : Hp} {v : V} {r : List Int} (h : Dp K H v (rowD r)) :
    ∃ p, v = .ref p ∧ SqT K H p (r.map V.int) := by
  obtain ⟨a, xs, rfl, hs, ha⟩ := dp_tup h
  rw [dpa_ints r xs ha] at hs
  exact ⟨a, rfl, hs⟩
theorem dp_rows {K : PySem.W.Frag} {H : Hp} {v : V} {rs : List (List Int)} (h : Dp K H v (rowsD rs)) :
    ∃ p xs, v = .ref p ∧ SqT K H p xs ∧ DpAll K H xs (rs.map rowD) ∧ xs.length = rs.length := by
  obtain ⟨a, xs, rfl, hs, ha⟩ := dp_tup h
  exact ⟨a, xs, rfl, hs, ha, by rw [dpa_len _ _ ha, List.length_map]⟩
theorem dp_tab {K : PySem.W.Frag} {H : Hp} {v : V} {w : Int} {rs : List (List Int)}
    (h : Dp K H v (tabD w rs)) : ∃ p u, v = .ref p ∧ SqT K H p [.int w, u] ∧ Dp K H u (rowsD rs) := by
  obtain ⟨a, xs, rfl, hs, ha⟩ := dp_tup h
  obtain ⟨v1, vs, rfl, h1, h2⟩ := dpa_cons ha
  obtain ⟨v2, vs, rfl, h3, h4⟩ := dpa_cons h2
  rw [dpa_nil h4] at hs
  rw [dp_int h1] at hs
  exact ⟨a, v2, rfl, hs, h3⟩
theorem mk_row {K : PySem.W.Frag} {H : Hp} {p : Addr} {r : List Int} (h : SqT K H p (r.map V.int)) :
    Dp K H (.ref p) (rowD r) := by
  refine .tup h ?_
  clear h
  induction r with
  | nil => exact .nil
  | cons i r ih => exact .cons (.int i) ih
theorem mk_tab {K : PySem.W.Frag} {H : Hp} {p : Addr} {w : Int} {u : V} {rs : List (List Int)}
    (h : SqT K H p [.int w, u]) (hu : Dp K H u (rowsD rs)) : Dp K H (.ref p) (tabD w rs) :=
  .tup h (.cons (.int w) (.cons hu .nil))
theorem rows_at {K : PySem.W.Frag} {H : Hp} {xs : List V} {rs : List (List Int)} {i : Nat} {x : V}
    (h : DpAll K H xs (rs.map rowD)) (e : xs[i]? = some x) :
    rs[i]? = some (rs.getD i []) ∧ Dp K H x (rowD (rs.getD i [])) := by
  obtain ⟨d, h1, h2⟩ := dpa_get _ _ i x h e
  rw [List.getElem?_map] at h1
  cases q : rs[i]? with
  | none => rw [q] at h1; cases h1
  | some r =>
    rw [q] at h1
    cases h1
    have e2 : rs.getD i [] = r := by rw [List.getD_eq_getElem?_getD, q]; rfl
    rw [e2]
    exact ⟨rfl, h2⟩
theorem at_row {r : List Int} {i : Nat} (h : i < r.length) :
    atI (r.map V.int) (i : Int) = some (V.int (r.getD i 0)) := by
  refine atI_nat ?_
  rw [List.getElem?_map, List.getElem?_eq_getElem h, List.getD_eq_getElem?_getD,
    List.getElem?_eq_getElem h]
  rfl
/-! ### comprehensions that change nothing -/
section
variable {K : PySem.W.Frag}
/-- what stands at the list under way: the first i data -/
def Lw (K : PySem.W.Frag) (H : Hp) (f : Nat → PyData) (D : Addr) (i : Nat) (H' : Hp) : Prop :=
  Same H H' ∧ ∃ ys, H' D = some (.lst ys) ∧ DpAll K H' ys ((List.range i).map f)
theorem Lw.start {H : Hp} {f : Nat → PyData} {D : Addr} (h : H D = none) :
    Lw K H f D 0 (upd H D (.lst [])) := ⟨Same.new h, [], upd_same, .nil⟩
theorem Lw.len {H H' : Hp} {f : Nat → PyData} {D : Addr} {i : Nat} (h : Lw K H f D i H') :
    ∃ ys, H' D = some (.lst ys) ∧ ys.length = i := by
  obtain ⟨_, ys, h1, h2⟩ := h
  refine ⟨ys, h1, ?_⟩
  rw [dpa_len _ _ h2, List.length_map, List.length_range]
theorem Lw.turn {H H' H'' : Hp} {f : Nat → PyData} {D : Addr} {i : Nat} {y : V} (hD : H D = none)
    (ht : ∀ j, j ≤ i → tupOnly (f j) = true) (h : Lw K H f D i H') (e : Same H' H'')
    (hy : Dp K H'' y (f i)) (hi : i < 100000) :
    ∃ acc, H'' D = some (.lst acc) ∧ acc.length < sizeLine ∧
      Lw K H f D (i + 1) (upd H'' D (.lst (acc ++ [y]))) := by
  obtain ⟨h0, ys, h1, h2⟩ := h
  have h1' := e _ _ h1
  have hl : ys.length = i := by rw [dpa_len _ _ h2, List.length_map, List.length_range]
  refine ⟨ys, h1', by rw [hl]; exact Nat.lt_trans hi (by decide), Same.mut (h0.trans e) hD, _, upd_same, ?_⟩
  rw [List.range_succ, List.map_append]
  have tk : Tk H'' (upd H'' D (.lst (ys ++ [y]))) := Tk.lst h1'
  refine dpa_snoc _ _ _ _ (DpAll.tk tk _ _ ?_ (DpAll.same e _ _ h2)) (Dp.tk tk _ _ (ht i (Nat.le_refl _)) hy)
  rw [tupAll_iff]
  intro d hd
  obtain ⟨j, hj, rfl⟩ := List.mem_map.mp hd
  exact ht j (Nat.le_of_lt (List.mem_range.mp hj))
end
end Gd
namespace Gd
open PySem PySem.Spec PyProof.Rows L2
section
variable {K : PySem.W.Frag} {te : TE} {vs : List Nat} {σ : L2.St} {H : Hp} {D : Addr} {Qd : Hp → Prop}
theorem tupOnly_le {f : Nat → PyData} {n i : Nat} (ht : ∀ j, j < n → tupOnly (f j) = true) (hi : i < n) :
    ∀ j, j ≤ i → tupOnly (f j) = true := fun j hj => ht j (Nat.lt_of_le_of_lt hj hi)
/-- [e for x in range(n)], e data of tuples that changes nothing -/
theorem lcr {j n : Nat} (f : Nat → PyData) (hD : H D = none) (hn : n ≤ 50000)
    (ht : ∀ i, i < n → tupOnly (f i) = true)
    (hw : ∀ x, wipe ((wipe σ vs).set j (some x)) vs = wipe σ vs)
    (hs : ∀ (i : Nat) (H1 : Hp) (Q : VK), i < n → Same H H1 →
      (∀ y H2, Same H1 H2 → Dp K H2 y (f i) → Q y H2) →
      te ((wipe σ vs).set j (some (.int (0 + (i : Int))))) H1 Q)
    (hd : ∀ H' ys, Same H H' → H' D = some (.lst ys) → DpAll K H' ys ((List.range n).map f) → Qd H') :
    ∃ W : Nat → Nat → Hp → Prop, (∃ m, W 0 m (upd H D (.lst []))) ∧ ∀ i m H, W i m H →
      ((Itr 0 n).stop i H ∧ Qd H) ∨ ((Itr 0 n).go i H ∧ ∃ Nx : Hp → Prop,
        (∀ H', Nx H' → ∃ m', m' < m ∧ W (i + 1) m' H') ∧
        ∀ x H', (Itr 0 n).yld i H x H' → gName j x (wipe σ vs) H' fun σ2 H2 =>
          wipe σ2 vs = wipe σ vs ∧ tYes σ2 H2 fun b H3 =>
            if b = true then te σ2 H3 fun y H4 => ∃ acc, H4 D = some (.lst acc) ∧
              acc.length < sizeLine ∧ Nx (upd H4 D (.lst (acc ++ [y]))) else Nx H3) := by
  refine lc_range (lo := 0) (n := n) (Lw K H f D) (Lw.start hD) ?_ ?_
  · intro i H' hi p
    refine ⟨hw _, ?_⟩
    unfold tYes
    dsimp only
    rw [if_pos rfl]
    exact hs i H' _ hi p.1 fun y H2 e hy => Lw.turn hD (tupOnly_le ht hi) p e hy (by omega)
  · rintro H' ⟨h0, ys, h1, h2⟩
    exact hd H' ys h0 h1 h2
/-- [e for x in t], t a tuple -/
theorem lct {j : Nat} {a : Addr} {xs : List V} (f : Nat → PyData) (hD : H D = none)
    (hx : SqT K H a xs) (hn : xs.length ≤ 50000)
    (ht : ∀ i, i < xs.length → tupOnly (f i) = true)
    (hw : ∀ x, wipe ((wipe σ vs).set j (some x)) vs = wipe σ vs)
    (hs : ∀ (i : Nat) (x : V) (H1 : Hp) (Q : VK), xs[i]? = some x → Same H H1 →
      (∀ y H2, Same H1 H2 → Dp K H2 y (f i) → Q y H2) →
      te ((wipe σ vs).set j (some x)) H1 Q)
    (hd : ∀ H' ys, Same H H' → H' D = some (.lst ys) → DpAll K H' ys ((List.range xs.length).map f) → Qd H') :
    ∃ W : Nat → Nat → Hp → Prop, (∃ m, W 0 m (upd H D (.lst []))) ∧ ∀ i m H, W i m H →
      ((Itt K a).stop i H ∧ Qd H) ∨ ((Itt K a).go i H ∧ ∃ Nx : Hp → Prop,
        (∀ H', Nx H' → ∃ m', m' < m ∧ W (i + 1) m' H') ∧
        ∀ x H', (Itt K a).yld i H x H' → gName j x (wipe σ vs) H' fun σ2 H2 =>
          wipe σ2 vs = wipe σ vs ∧ tYes σ2 H2 fun b H3 =>
            if b = true then te σ2 H3 fun y H4 => ∃ acc, H4 D = some (.lst acc) ∧
              acc.length < sizeLine ∧ Nx (upd H4 D (.lst (acc ++ [y]))) else Nx H3) := by
  refine lc_tup (xs := xs) (Lw K H f D) (Lw.start hD) (fun i H' _ p => sqt_same p.1 hx) ?_ ?_
  · intro i x H' hi p
    have hlt := (List.getElem?_eq_some_iff.mp hi).1
    refine ⟨hw _, ?_⟩
    unfold tYes
    dsimp only
    rw [if_pos rfl]
    exact hs i x H' _ hi p.1 fun y H2 e hy => Lw.turn hD (tupOnly_le ht hlt) p e hy (by omega)
  · rintro H' ⟨h0, ys, h1, h2⟩
    exact hd H' ys h0 h1 h2
/-- [e for x, y in zip(t, u)], tuples of one length -/
theorem lcz {g : TG} {j1 j2 : Nat} {a b : Addr} {xs zs : List V} (f : Nat → PyData) (hD : H D = none)
    (hl : xs.length = zs.length) (hx : SqT K H a xs) (hz : SqT K H b zs) (hn : xs.length ≤ 50000)
    (ht : ∀ i, i < xs.length → tupOnly (f i) = true)
    (hw : ∀ x y, wipe (((wipe σ vs).set j1 (some x)).set j2 (some y)) vs = wipe σ vs)
    (hg : ∀ (T : Addr) (x y : V) (H1 : Hp) (R : L2.St → Hp → Prop), H1 T = some (.tup [x, y]) →
      R (((wipe σ vs).set j1 (some x)).set j2 (some y)) H1 → g (.ref T) (wipe σ vs) H1 R)
    (hs : ∀ (i : Nat) (x y : V) (H1 : Hp) (Q : VK), xs[i]? = some x → zs[i]? = some y → Same H H1 →
      (∀ y H2, Same H1 H2 → Dp K H2 y (f i) → Q y H2) →
      te (((wipe σ vs).set j1 (some x)).set j2 (some y)) H1 Q)
    (hd : ∀ H' ys, Same H H' → H' D = some (.lst ys) → DpAll K H' ys ((List.range xs.length).map f) → Qd H') :
    ∃ W : Nat → Nat → Hp → Prop, (∃ m, W 0 m (upd H D (.lst []))) ∧ ∀ i m H, W i m H →
      ((RZ.ItzT K a b).stop i H ∧ Qd H) ∨ ((RZ.ItzT K a b).go i H ∧ ∃ Nx : Hp → Prop,
        (∀ H', Nx H' → ∃ m', m' < m ∧ W (i + 1) m' H') ∧
        ∀ x H', (RZ.ItzT K a b).yld i H x H' → g x (wipe σ vs) H' fun σ2 H2 =>
          wipe σ2 vs = wipe σ vs ∧ tYes σ2 H2 fun b H3 =>
            if b = true then te σ2 H3 fun y H4 => ∃ acc, H4 D = some (.lst acc) ∧
              acc.length < sizeLine ∧ Nx (upd H4 D (.lst (acc ++ [y]))) else Nx H3) := by
  refine ⟨fun i m H' => m = xs.length - i ∧ i ≤ xs.length ∧ Lw K H f D i H',
    ⟨xs.length, rfl, Nat.zero_le _, Lw.start hD⟩, ?_⟩
  rintro i m H' ⟨rfl, hi, p⟩
  have qx := sqt_same p.1 hx
  have qz := sqt_same p.1 hz
  by_cases hlt : i < xs.length
  · have e1 : xs[i]? = some xs[i] := List.getElem?_eq_getElem hlt
    have hlt2 : i < zs.length := by omega
    have e2 : zs[i]? = some zs[i] := List.getElem?_eq_getElem hlt2
    refine .inr ⟨⟨xs, zs, _, _, qx, qz, e1, e2⟩, Lw K H f D (i + 1),
      fun H2 p2 => ⟨xs.length - (i + 1), by omega, rfl, hlt, p2⟩, ?_⟩
    intro v H2 hy
    obtain ⟨T, x', y', rfl, hT, rfl, f1, f2⟩ := hy
    have eT := Same.new (o := .tup [x', y']) hT
    refine hg T x' y' _ _ upd_same ⟨hw _ _, ?_⟩
    unfold tYes
    dsimp only
    rw [if_pos rfl]
    refine hs i x' y' _ _ (f1 xs qx) (f2 zs qz) (p.1.trans eT) ?_
    intro y H3 e hy
    exact Lw.turn hD (tupOnly_le ht hlt) p (eT.trans e) hy (by omega)
  · have e : i = xs.length := by omega
    subst e
    obtain ⟨h0, ys, h1, h2⟩ := p
    exact .inl ⟨⟨xs, zs, qx, qz, Or.inl (Nat.le_refl _)⟩, hd H' ys h0 h1 h2⟩
end
end Gd
namespace Gd
open PySem PySem.Spec PyProof.Rows L2
/-! ### tables of numbers, reckoned -/
def ent (rs : List (List Int)) (i k : Nat) : Int := (rs.getD i []).getD k 0
def unitRow (n k : Nat) : List Int := (List.range n).map fun c => if c = k then 1 else 0
def unitR (n : Nat) : List (List Int) := (List.range n).map (unitRow n)
def mulRow (r : List Int) (w : Nat) (rs : List (List Int)) : List Int :=
  (List.range w).map fun k => ((List.range r.length).map fun i => r.getD i 0 * ent rs i k).sum
def mulR (rs : List (List Int)) (w : Nat) (ts : List (List Int)) : List (List Int) :=
  (List.range rs.length).map fun i => mulRow (rs.getD i []) w ts
def turnR (w : Nat) (rs : List (List Int)) : List (List Int) :=
  (List.range w).map fun k => (List.range rs.length).map fun i => ent rs i k
/-- a table of this width, not too great -/
def Tb (w : Nat) (rs : List (List Int)) : Prop := rs.length ≤ 1000 ∧ w ≤ 1000 ∧ ∀ r ∈ rs, r.length = w
/-- numbers of less than 64 bits -/
def Sm (r : List Int) : Prop := ∀ x ∈ r, -(2 ^ 64) < x ∧ x < 2 ^ 64
theorem getD_mem {α : Type} {l : List α} {i : Nat} {d : α} (h : i < l.length) : l.getD i d ∈ l := by
  rw [List.getD_eq_getElem?_getD, List.getElem?_eq_getElem h]
  exact List.getElem_mem h
theorem Tb.len {w : Nat} {rs : List (List Int)} (h : Tb w rs) {i : Nat} (hi : i < rs.length) :
    (rs.getD i []).length = w := h.2.2 _ (getD_mem hi)
theorem Sm.at {r : List Int} (h : Sm r) (i : Nat) : -(2 ^ 64) < r.getD i 0 ∧ r.getD i 0 < 2 ^ 64 := by
  by_cases hi : i < r.length
  · exact h _ (getD_mem hi)
  · rw [List.getD_eq_getElem?_getD, List.getElem?_eq_none (by omega)]
    exact ⟨by decide, by decide⟩
theorem at_row0 {r : List Int} {i : Nat} (h : i < r.length) :
    atI (r.map V.int) (0 + (i : Int)) = some (V.int (r.getD i 0)) := by
  rw [Int.zero_add]
  exact at_row h
theorem mk_rowR {K : PySem.W.Frag} {H : Hp} {p : Addr} {ys : List V} {n : Nat} {g : Nat → Int}
    (h : SqT K H p ys) (ha : DpAll K H ys ((List.range n).map fun i => PyData.int (g i))) :
    Dp K H (.ref p) (rowD ((List.range n).map g)) := by
  unfold rowD
  rw [List.map_map]
  exact .tup h ha
theorem mk_rowsR {K : PySem.W.Frag} {H : Hp} {p : Addr} {ys : List V} {n : Nat} {g : Nat → List Int}
    (h : SqT K H p ys) (ha : DpAll K H ys ((List.range n).map fun i => rowD (g i))) :
    Dp K H (.ref p) (rowsD ((List.range n).map g)) := by
  unfold rowsD
  rw [List.map_map]
  exact .tup h ha
theorem intsR {K : PySem.W.Frag} {H : Hp} {ys : List V} {n : Nat} {g : Nat → Int}
    (ha : DpAll K H ys ((List.range n).map fun i => PyData.int (g i))) :
    ys = ((List.range n).map g).map V.int := by
  refine dpa_ints (K := K) (H := H) _ _ ?_
  rw [List.map_map]
  exact ha
theorem row_get {r : List Int} {i : Nat} {x : V} (e : (r.map V.int)[i]? = some x) :
    i < r.length ∧ x = .int (r.getD i 0) := by
  rw [List.getElem?_map] at e
  cases q : r[i]? with
  | none => rw [q] at e; cases e
  | some z =>
    rw [q] at e
    cases e
    refine ⟨(List.getElem?_eq_some_iff.mp q).1, ?_⟩
    rw [List.getD_eq_getElem?_getD, q]
    rfl
theorem rows_lt {K : PySem.W.Frag} {H : Hp} {xs : List V} {rs : List (List Int)} {i : Nat} {x : V}
    (h : DpAll K H xs (rs.map rowD)) (e : xs[i]? = some x) :
    i < rs.length ∧ ∃ p, x = .ref p ∧ SqT K H p ((rs.getD i []).map V.int) := by
  obtain ⟨h1, h2⟩ := rows_at h e
  exact ⟨(List.getElem?_eq_some_iff.mp h1).1, dp_row h2⟩
theorem rows_ix {K : PySem.W.Frag} {H : Hp} {xs : List V} {rs : List (List Int)} {i : Nat}
    (h : DpAll K H xs (rs.map rowD)) (hi : i < rs.length) :
    ∃ p, xs[i]? = some (.ref p) ∧ SqT K H p ((rs.getD i []).map V.int) := by
  have hl : xs.length = rs.length := by rw [dpa_len _ _ h, List.length_map]
  have e : xs[i]? = some xs[i] := List.getElem?_eq_getElem (by omega)
  obtain ⟨_, p, hp, hs⟩ := rows_lt h e
  rw [hp] at e
  exact ⟨p, e, hs⟩
end Gd
namespace Gd
open PySem PySem.Spec PyProof.Rows L2
/-! ### rules that name the written part by its letter -/
section
variable {X : Cx} {K : PySem.W.Frag}
theorem ix_tupK (hK : X.K = K) : IxR X (rIxT K) := by subst hK; exact ix_tup
theorem ix_listK (hK : X.K = K) : IxR X (rIxL K) := by subst hK; exact ix_list
theorem sl_listK (hK : X.K = K) : SlR X (rSlL K) := by subst hK; exact sl_list
theorem sl_tupK (hK : X.K = K) : SlR X (rSlA K) := by subst hK; exact sl_tupA
def rLenK (K : PySem.W.Frag) : List V → Hp → VK → Prop := fun xs H Q =>
  ∃ p ys, xs = [.ref p] ∧ (SqL K H p ys ∨ SqT K H p ys) ∧ Q (.int ys.length) H
theorem call_lenK (hK : X.K = K) : CallR X (.builtin "len") (rLenK K) := by
  subst hK; exact call_len_seq
def rTupleK (K : PySem.W.Frag) : List V → Hp → VK → Prop := fun xs H Q =>
  ∃ p ys, xs = [.ref p] ∧ ((SqL K H p ys ∧ ∀ l, H l = none → Q (.ref l) (upd H l (.tup ys))) ∨
    (SqT K H p ys ∧ Q (.ref p) H))
theorem call_tupleK (hK : X.K = K) : CallR X (.type "tuple") (rTupleK K) := by
  subst hK; exact call_tuple_of
def rListK (K : PySem.W.Frag) : List V → Hp → VK → Prop := fun xs H Q =>
  ∃ p ys, xs = [.ref p] ∧ (SqL K H p ys ∨ SqT K H p ys) ∧
    ∀ l, H l = none → Q (.ref l) (upd H l (.lst ys))
theorem call_listK (hK : X.K = K) : CallR X (.type "list") (rListK K) := by
  subst hK; exact call_list_of
theorem call_sumK (hK : X.K = K) (hc : X.calm = true) : CallR X (.builtin "sum") (rSum K) := by
  subst hK; exact cr_sum hc
theorem op_eqK (hK : X.K = K) (hu : X.A.units + 64 < cLine) : OpR X (compareOp .Eq) (rEqD K) := by
  subst hK; exact op_eqD hu
theorem op_neK (hK : X.K = K) (hu : X.A.units + 64 < cLine) : OpR X (compareOp .NotEq) (rNeD K) := by
  subst hK; exact op_neD hu
theorem op_catK (hK : X.K = K) : OpR X (binaryOp .Add) (rCatA K) := by subst hK; exact op_catA
theorem op_repK (hK : X.K = K) : OpR X (binaryOp .Mult) (rRepA K) := by subst hK; exact op_repA
theorem call_reprK (hK : X.K = K) (hG : X.A.guards = some []) (hu : X.A.units + 64 < cLine) :
    CallR X (.builtin "repr") (rRepr K) := by
  subst hK; exact call_repr hG hu
theorem pi_listK {tg l : Expr} {tl : TE} (hK : X.K = K) (hl : PE X l tl) : PI X tg l (iList K tl) := by
  subst hK; exact pi_list hl
theorem pi_tupK {tg l : Expr} {tl : TE} (hK : X.K = K) (hl : PE X l tl) : PI X tg l (iTup K tl) := by
  subst hK; exact pi_tup hl
theorem pi_zipK {e e2 : Expr} {ta : TA} {p pos tpos : Pos} {elts : List Expr} {kk : Nat}
    (hK : X.K = K) (hg : Gl X "zip") (hm : X.mg "zip" = none) (ha : PA X [e, e2] ta)
    (hs : starEach [e, e2] X.env = (false, eval e X.env) :: starEach [e2] X.env := by rfl)
    (hpl : (backTo pos (starEach [e2] X.env)).any (·.1) = false := by rfl) :
    PI X (.Tuple elts kk tpos) (.Call (.Name "zip" p) [e, e2] [] pos) (RZ.iZipA K ta) := by
  subst hK; exact RZ.pi_zipA hg hm ha hs hpl
theorem pg_tupK {es : List Expr} {k n : Nat} {t : TGs} {pos : Pos} (hK : X.K = K) (hc : X.calm = true)
    (h : PGs X es t) (hn : (assignEach es X.env).length = n := by rfl)
    (hst : (assignEach es X.env).findIdx? (·.1) = none := by rfl) :
    PG X (.Tuple es k pos) (gTup K n t) := by
  subst hK; exact pg_tup hc h hn hst
end
end Gd
namespace Gd
open PySem PySem.Spec PyProof.Rows L2
/-! ### readings told by data -/
section
variable {K : PySem.W.Frag} {H : Hp} {Q : VK} {x y : V} {ds es : List PyData} {d : PyData}
theorem ix_dp {i : Nat} (hx : Dp K H x (.tuple ds)) (hi : ds[i]? = some d)
    (k : ∀ v, Dp K H v d → Q v H) : rIxT K x (.int (i : Int)) H Q := by
  obtain ⟨a, xs, rfl, hs, ha⟩ := dp_tup hx
  obtain ⟨v, hv, hd⟩ := dpa_at _ _ i d ha hi
  exact ⟨a, xs, _, v, rfl, rfl, hs, atI_nat hv, k v hd⟩
theorem ix_dp0 {i : Nat} (hx : Dp K H x (.tuple ds)) (hi : ds[i]? = some d)
    (k : ∀ v, Dp K H v d → Q v H) : rIxT K x (.int (0 + (i : Int))) H Q := by
  rw [Int.zero_add]
  exact ix_dp hx hi k
theorem ix_dpI {i : Int} {j : Nat} (hj : i = (j : Int)) (hx : Dp K H x (.tuple ds)) (hi : ds[j]? = some d)
    (k : ∀ v, Dp K H v d → Q v H) : rIxT K x (.int i) H Q := by
  rw [hj]
  exact ix_dp hx hi k
theorem len_dp (hx : Dp K H x (.tuple ds)) (k : Q (.int (ds.length : Int)) H) : rLenK K [x] H Q := by
  obtain ⟨a, xs, rfl, hs, ha⟩ := dp_tup hx
  refine ⟨a, xs, rfl, .inr hs, ?_⟩
  rw [dpa_len _ _ ha]
  exact k
theorem cat_dp (hx : Dp K H x (.tuple ds)) (hy : Dp K H y (.tuple es))
    (hl : ds.length + es.length ≤ 100000)
    (k : ∀ v H', Same H H' → Dp K H' v (.tuple (ds ++ es)) → Q v H') : rCatA K x y H Q := by
  obtain ⟨a, xs, rfl, hs, ha⟩ := dp_tup hx
  obtain ⟨b, ys, rfl, hs2, hb⟩ := dp_tup hy
  have l1 := dpa_len _ _ ha
  have l2 := dpa_len _ _ hb
  refine ⟨a, b, xs, ys, rfl, rfl, hs, hs2, Nat.le_trans (by omega : _ ≤ 100000) (by decide), ?_, ?_, ?_⟩
  · intro h
    subst h
    have e : ds = [] := List.eq_nil_of_length_eq_zero (by rw [← l1]; rfl)
    subst e
    exact k _ _ (Same.refl H) (.tup hs2 hb)
  · intro _ h
    subst h
    have e : es = [] := List.eq_nil_of_length_eq_zero (by rw [← l2]; rfl)
    subst e
    exact k _ _ (Same.refl H) (by rw [List.append_nil]; exact .tup hs ha)
  · intro _ _ p np
    have e := Same.new (o := .tup (xs ++ ys)) np
    exact k _ _ e (.tup (SqT.of upd_same) (dpa_append _ _ _ _ (DpAll.same e _ _ ha) (DpAll.same e _ _ hb)))
theorem ints_rep (z : Int) : ∀ n : Nat, (List.replicate n [V.int z]).flatten = (List.replicate n z).map V.int
  | 0 => rfl
  | n + 1 => by
    rw [List.replicate_succ, List.replicate_succ, List.flatten_cons, List.map_cons, ints_rep z n]
    rfl
theorem rep_dp {z k : Int} (hx : Dp K H x (rowD [z])) (h1 : -1000 ≤ k) (h2 : k ≤ 1000)
    (q : ∀ v H', Same H H' → Dp K H' v (rowD (List.replicate k.toNat z)) → Q v H') :
    rRepA K x (.int k) H Q := by
  obtain ⟨p, rfl, hs⟩ := dp_row hx
  refine ⟨p, k, _, rfl, rfl, hs, (by simp), h1, h2, (by simp), ?_⟩
  intro p2 H2 e h
  have h' : SqT K H2 p2 ((List.replicate k.toNat z).map V.int) := by
    rw [← ints_rep]
    exact h
  exact q _ _ e (mk_row h')
theorem tupL_dp {p : Addr} {ys : List V} (h : H p = some (.lst ys)) (ha : DpAll K H ys ds)
    (k : ∀ v H', Same H H' → Dp K H' v (.tuple ds) → Q v H') : rTupleK K [.ref p] H Q := by
  refine ⟨p, ys, rfl, .inl ⟨SqL.of h, fun l nl => ?_⟩⟩
  have e := Same.new (o := .tup ys) nl
  exact k _ _ e (.tup (SqT.of upd_same) (DpAll.same e _ _ ha))
theorem listT_dp (hx : Dp K H x (.tuple ds))
    (k : ∀ l H' ys, H l = none → Same H H' → H' l = some (.lst ys) → DpAll K H' ys ds → Q (.ref l) H') :
    rListK K [x] H Q := by
  obtain ⟨a, xs, rfl, hs, ha⟩ := dp_tup hx
  refine ⟨a, xs, rfl, .inr hs, fun l nl => ?_⟩
  have e := Same.new (o := .lst xs) nl
  exact k l _ xs nl e upd_same (DpAll.same e _ _ ha)
theorem tup_dp {xs : List V} (ha : DpAll K H xs ds) (hl : ds.length ≤ 100000)
    (k : ∀ v H', Same H H' → Dp K H' v (.tuple ds) → Q v H') :
    xs.length ≤ sizeLine ∧ ∀ p, H p = none → Q (.ref p) (upd H p (.tup xs)) := by
  refine ⟨?_, fun p np => ?_⟩
  · rw [dpa_len _ _ ha]
    exact Nat.le_trans hl (by decide)
  · have e := Same.new (o := .tup xs) np
    exact k _ _ e (.tup (SqT.of upd_same) (DpAll.same e _ _ ha))
theorem lst_dp {xs : List V} (ha : DpAll K H xs ds) (hl : ds.length ≤ 100000)
    (k : ∀ l H', H l = none → Same H H' → H' l = some (.lst xs) → DpAll K H' xs ds → Q (.ref l) H') :
    xs.length ≤ sizeLine ∧ ∀ p, H p = none → Q (.ref p) (upd H p (.lst xs)) := by
  refine ⟨?_, fun p np => ?_⟩
  · rw [dpa_len _ _ ha]
    exact Nat.le_trans hl (by decide)
  · have e := Same.new (o := .lst xs) np
    exact k p _ np e upd_same (DpAll.same e _ _ ha)
theorem catL_dp {l b : Addr} {xs zs : List V} (h1 : H l = some (.lst xs)) (h2 : H b = some (.lst zs))
    (ha : DpAll K H xs ds) (hb : DpAll K H zs es) (hl : ds.length + es.length ≤ 100000)
    (k : ∀ p H', H p = none → Same H H' → H' p = some (.lst (xs ++ zs)) → DpAll K H' (xs ++ zs) (ds ++ es) → Q (.ref p) H') :
    rCat (.ref l) (.ref b) H Q := by
  have l1 := dpa_len _ _ ha
  have l2 := dpa_len _ _ hb
  refine ⟨l, b, xs, zs, rfl, rfl, h1, h2, Nat.le_trans (by omega : _ ≤ 100000) (by decide), fun p np => ?_⟩
  have e := Same.new (o := .lst (xs ++ zs)) np
  exact k p _ np e upd_same (dpa_append _ _ _ _ (DpAll.same e _ _ ha) (DpAll.same e _ _ hb))
theorem rows_getD {rs : List (List Int)} {i : Nat} (hi : i < rs.length) :
    (rs.map rowD)[i]? = some (rowD (rs.getD i [])) := by
  rw [List.getElem?_map, List.getElem?_eq_getElem hi, List.getD_eq_getElem?_getD, List.getElem?_eq_getElem hi]
  rfl
theorem row_getD {r : List Int} {i : Nat} (hi : i < r.length) :
    (r.map PyData.int)[i]? = some (.int (r.getD i 0)) := by
  rw [List.getElem?_map, List.getElem?_eq_getElem hi, List.getD_eq_getElem?_getD, List.getElem?_eq_getElem hi]
  rfl
theorem mapR_row {n : Nat} {g : Nat → Int} :
    PyData.tuple ((List.range n).map fun i => PyData.int (g i)) = rowD ((List.range n).map g) := by
  unfold rowD
  rw [List.map_map]
  rfl
theorem mapR_rows {n : Nat} {g : Nat → List Int} :
    PyData.tuple ((List.range n).map fun i => rowD (g i)) = rowsD ((List.range n).map g) := by
  unfold rowsD
  rw [List.map_map]
  rfl
end
end Gd
namespace Gd
open PySem PySem.Spec PyProof.Rows L2
theorem lst_new {K : PySem.W.Frag} {H : Hp} {l : Addr} {xs : List V} {ds : List PyData} (nl : H l = none)
    (ha : DpAll K H xs ds) : ∃ H', upd H l (.lst xs) = H' ∧ Same H H' ∧ H' l = some (.lst xs) ∧ DpAll K H' xs ds :=
  ⟨_, rfl, Same.new nl, upd_same, DpAll.same (Same.new nl) _ _ ha⟩
theorem tup_new {K : PySem.W.Frag} {H : Hp} {l : Addr} {xs : List V} {ds : List PyData} (nl : H l = none)
    (ha : DpAll K H xs ds) : ∃ H', upd H l (.tup xs) = H' ∧ Same H H' ∧ Dp K H' (.ref l) (.tuple ds) :=
  ⟨_, rfl, Same.new nl, .tup (SqT.of upd_same) (DpAll.same (Same.new nl) _ _ ha)⟩
end Gd
namespace Gd
open PySem PySem.Spec PyProof.Rows L2
theorem fmod_lt' {a b : Int} (hb : 0 < b) : a.fmod b < b := Int.fmod_lt_of_pos a hb
theorem fmod_nn {a b : Int} (hb : 0 < b) : 0 ≤ a.fmod b := Int.fmod_nonneg_of_pos a hb
/-! ### the feed -/
def spFeed (K : PySem.W.Frag) : Sp := fun vs H Q _ => ∃ (sc : Addr) (ns : List Int), vs = [.ref sc] ∧
  SqL K H sc (ns.map V.int) ∧ ns.length ≤ 63 ∧
  ∀ (a s : Addr) (H' : Hp), H a = none → H s = none → Same H H' → Fd H' a s 0 → Q (.ref a) H'
def spDraw : Sp := fun vs H Q _ => ∃ (a s : Addr) (m : Int) (n : Nat),
  vs = [.ref a, .int m] ∧ Fd H a s n ∧ n ≤ 1000000 ∧ 1 ≤ m ∧ m ≤ 1000000 ∧
  ∀ (r : Int) (H' : Hp), 0 ≤ r → r < m → Sb a H H' → Fd H' a s (n + 1) → Q (.int r) H'
theorem cut_ints (ns : List Int) (lo hi : Option Int) :
    ∃ ms : List Int, cutV (ns.map V.int) lo hi = ms.map V.int ∧ ms.length ≤ ns.length := by
  refine ⟨(ns.drop (HT.sIx ns.length 0 lo)).take (HT.sIx ns.length ns.length hi - HT.sIx ns.length 0 lo), ?_, ?_⟩
  · unfold cutV
    rw [List.length_map, List.map_take, List.map_drop]
  · rw [List.length_take, List.length_drop]
    omega
theorem ints_shaped (ns : List Int) : SeqAt.shaped (.list (ns.map PyData.int)) = true := by
  have h1 : ∀ l : List Int, PyData.canLayAll0 (l.map PyData.int) = true := by
    intro l
    induction l with
    | nil => simp [PyData.canLayAll0]
    | cons a l ih => simp [PyData.canLayAll0, PyData.canLay0, ih]
  have h2 : ∀ l : List Int, PyData.depthAll (l.map PyData.int) = 0 := by
    intro l
    induction l with
    | nil => simp [PyData.depthAll]
    | cons a l ih => simp [PyData.depthAll, PyData.depth, ih]
  simp [SeqAt.shaped, PyData.canLay0, PyData.depth, h1, h2]
theorem ints_nil (ns : List Int) : PyData.eqv (.list (ns.map PyData.int)) (.list []) = decide (ns = []) := by
  cases ns <;> simp [PyData.eqv, PyData.eqvAll]
theorem dp_ints {K : PySem.W.Frag} {H : Hp} : ∀ ns : List Int, DpAll K H (ns.map V.int) (ns.map PyData.int)
  | [] => .nil
  | n :: ns => .cons (.int n) (dp_ints ns)
theorem at_ints {ns : List Int} {i : Int} (h0 : 0 ≤ i) (h1 : i < ns.length) :
    ∃ z : Int, atI (ns.map V.int) i = some (V.int z) := by
  obtain ⟨j, rfl⟩ := Int.eq_ofNat_of_zero_le h0
  have hj : j < ns.length := by omega
  exact ⟨ns[j], atI_nat (by rw [List.getElem?_map, List.getElem?_eq_getElem hj]; rfl)⟩
theorem ref_ints {s : Addr} {ns : List Int} {r : List V} : HO.lst (ns.map V.int) ≠ HO.lst (.ref s :: r) := by
  intro z
  cases ns with
  | nil => cases z
  | cons n ns => cases z

/-- numbers drawn: from lo to below hi, by at most j draws -/
def spNum (lo hi : Int) (j : Nat) : Sp := fun vs H Q _ => ∃ (a s : Addr) (n : Nat),
  vs = [.ref a] ∧ Fd H a s n ∧ n + j ≤ 1000000 ∧
  ∀ (r : Int) (H' : Hp), lo ≤ r → r < hi → Sb a H H' → Fd H' a s (n + j) → Q (.int r) H'
theorem spNum_len {lo hi : Int} {j : Nat} : ∀ vs H Q E, spNum lo hi j vs H Q E → vs.length = 1 := by
  rintro vs H Q E ⟨a, s, n, rfl, _⟩
  rfl
section
variable {te : TE} {vs : List Nat} {σ : L2.St} {H : Hp} {D : Addr} {Qd : Hp → Prop}
/-- [e for x in range(m)], e a number that draws -/
theorem lcrF {j m n c : Nat} {a s : Addr} (Pz : Int → Prop) (hD : H D = none) (hf : Fd H a s n) (hm : m ≤ 50000)
    (hw : ∀ x, wipe ((wipe σ vs).set j (some x)) vs = wipe σ vs)
    (hs : ∀ (i : Nat) (H1 : Hp) (Q : VK), i < m → Sb a H H1 → Fd H1 a s (n + c * i) →
      (∀ (z : Int) (H2 : Hp), Sb a H1 H2 → Fd H2 a s (n + c * (i + 1)) → Pz z → Q (.int z) H2) →
      te ((wipe σ vs).set j (some (.int (0 + (i : Int))))) H1 Q)
    (hd : ∀ (H' : Hp) (ns : List Int), Sb a H H' → Fd H' a s (n + c * m) → H' D = some (.lst (ns.map V.int)) →
      ns.length = m → (∀ x ∈ ns, Pz x) → Qd H') :
    ∃ W : Nat → Nat → Hp → Prop, (∃ m, W 0 m (upd H D (.lst []))) ∧ ∀ i k H, W i k H →
      ((Itr 0 m).stop i H ∧ Qd H) ∨ ((Itr 0 m).go i H ∧ ∃ Nx : Hp → Prop,
        (∀ H', Nx H' → ∃ k', k' < k ∧ W (i + 1) k' H') ∧
        ∀ x H', (Itr 0 m).yld i H x H' → gName j x (wipe σ vs) H' fun σ2 H2 =>
          wipe σ2 vs = wipe σ vs ∧ tYes σ2 H2 fun b H3 =>
            if b = true then te σ2 H3 fun y H4 => ∃ acc, H4 D = some (.lst acc) ∧
              acc.length < sizeLine ∧ Nx (upd H4 D (.lst (acc ++ [y]))) else Nx H3) := by
  obtain ⟨dA, dS⟩ := hf.apart hD
  refine lc_range (lo := 0) (n := m) (fun i H' => Sb a H H' ∧ Fd H' a s (n + c * i) ∧ ∃ ns : List Int,
    H' D = some (.lst (ns.map V.int)) ∧ ns.length = i ∧ ∀ x ∈ ns, Pz x) ?_ ?_ ?_
  · exact ⟨Sb.new hD, (hf.upd dA dS).mono (by omega), [], upd_same, rfl, fun x h => by cases h⟩
  · rintro i H' hi ⟨sb, f, ns, h1, h2, h3⟩
    refine ⟨hw _, ?_⟩
    unfold tYes
    dsimp only
    rw [if_pos rfl]
    refine hs i H' _ hi sb f ?_
    intro z H2 sb2 f2 pz
    have h1' := sb2 _ _ dA h1
    refine ⟨_, h1', ?_, (Sb.trans sb sb2).mut hD, f2.upd dA dS, ns ++ [z], ?_, ?_, ?_⟩
    · rw [List.length_map, h2]
      exact Nat.lt_of_lt_of_le (show i < 50000 by omega) (by decide)
    · rw [upd_same, List.map_append]
      rfl
    · rw [List.length_append, h2]
      rfl
    · intro x hx
      rcases List.mem_append.mp hx with h | h
      · exact h3 x h
      · rw [List.mem_singleton.mp h]
        exact pz
  · rintro H' ⟨sb, f, ns, h1, h2, h3⟩
    exact hd H' ns sb f h1 h2 h3
end
/-- a drawn table's rows -/
def OkT (m w : Nat) (rs : List (List Int)) : Prop :=
  rs.length = m ∧ ∀ r ∈ rs, r.length = w ∧ ∀ x ∈ r, -99 ≤ x ∧ x ≤ 99
theorem OkT.tb {m w : Nat} {rs : List (List Int)} (h : OkT m w rs) (hm : m ≤ 1000) (hw : w ≤ 1000) : Tb w rs :=
  ⟨by rw [h.1]; exact hm, hw, fun r hr => (h.2 r hr).1⟩
theorem OkT.sm {m w : Nat} {rs : List (List Int)} (h : OkT m w rs) : ∀ r ∈ rs, Sm r := fun r hr x hx => by
  have := (h.2 r hr).2 x hx
  omega
end Gd
namespace Gd
open PySem PySem.Spec PyProof.Rows L2
theorem rows_shaped (rs : List (List Int)) : SeqAt.shaped (.list (rs.map rowD)) = true := by
  have a1 : ∀ l : List Int, PyData.canLayAll0 (l.map PyData.int) = true := by
    intro l
    induction l with
    | nil => simp [PyData.canLayAll0]
    | cons a l ih => simp [PyData.canLayAll0, PyData.canLay0, ih]
  have a2 : ∀ l : List Int, PyData.depthAll (l.map PyData.int) = 0 := by
    intro l
    induction l with
    | nil => simp [PyData.depthAll]
    | cons a l ih => simp [PyData.depthAll, PyData.depth, ih]
  have h1 : ∀ l : List (List Int), PyData.canLayAll0 (l.map rowD) = true := by
    intro l
    induction l with
    | nil => simp [PyData.canLayAll0]
    | cons a l ih => simp [PyData.canLayAll0, rowD, PyData.canLay0, a1, ih]
  have h2 : ∀ l : List (List Int), PyData.depthAll (l.map rowD) ≤ 1 := by
    intro l
    induction l with
    | nil => simp [PyData.depthAll]
    | cons a l ih =>
      simp only [List.map_cons, PyData.depthAll, rowD, PyData.depth, a2]
      omega
  have h3 := h2 rs
  show (PyData.canLay0 (.list (rs.map rowD)) && decide (PyData.depth (.list (rs.map rowD)) ≤ 64)) = true
  rw [Bool.and_eq_true]
  refine ⟨?_, decide_eq_true ?_⟩
  · simp only [PyData.canLay0]
    exact h1 rs
  · simp only [PyData.depth]
    omega
theorem rows_nil (rs : List (List Int)) : PyData.eqv (.list (rs.map rowD)) (.list []) = decide (rs = []) := by
  cases rs <;> simp [PyData.eqv, PyData.eqvAll]
end Gd
namespace Gd
open PySem PySem.Spec PyProof.Rows L2
theorem Same.sb {l : Addr} {H H1 H2 : Hp} (e : Same H H1) (n : H l = none) (s : Sb l H1 H2) : Same H H2 :=
  fun b o h => s b o (ne_of_none h n) (e b o h)
section
variable {K : PySem.W.Frag} {te : TE} {vs : List Nat} {σ : L2.St} {H : Hp} {D : Addr} {Qd : Hp → Prop}
/-- [e for x in range(m)], e data of tuples that draws -/
theorem lcrD {j m n c : Nat} {a s : Addr} (Pz : PyData → Prop) (hD : H D = none) (hf : Fd H a s n) (hm : m ≤ 50000)
    (ht : ∀ d, Pz d → tupOnly d = true)
    (hw : ∀ x, wipe ((wipe σ vs).set j (some x)) vs = wipe σ vs)
    (hs : ∀ (i : Nat) (H1 : Hp) (Q : VK), i < m → Sb a H H1 → Fd H1 a s (n + c * i) →
      (∀ (z : V) (d : PyData) (H2 : Hp), Sb a H1 H2 → Fd H2 a s (n + c * (i + 1)) → Pz d → Dp K H2 z d → Q z H2) →
      te ((wipe σ vs).set j (some (.int (0 + (i : Int))))) H1 Q)
    (hd : ∀ (H' : Hp) (ys : List V) (ds : List PyData), Sb a H H' → Fd H' a s (n + c * m) → H' D = some (.lst ys) →
      DpAll K H' ys ds → ds.length = m → (∀ x ∈ ds, Pz x) → Qd H') :
    ∃ W : Nat → Nat → Hp → Prop, (∃ m, W 0 m (upd H D (.lst []))) ∧ ∀ i k H, W i k H →
      ((Itr 0 m).stop i H ∧ Qd H) ∨ ((Itr 0 m).go i H ∧ ∃ Nx : Hp → Prop,
        (∀ H', Nx H' → ∃ k', k' < k ∧ W (i + 1) k' H') ∧
        ∀ x H', (Itr 0 m).yld i H x H' → gName j x (wipe σ vs) H' fun σ2 H2 =>
          wipe σ2 vs = wipe σ vs ∧ tYes σ2 H2 fun b H3 =>
            if b = true then te σ2 H3 fun y H4 => ∃ acc, H4 D = some (.lst acc) ∧
              acc.length < sizeLine ∧ Nx (upd H4 D (.lst (acc ++ [y]))) else Nx H3) := by
  obtain ⟨dA, dS⟩ := hf.apart hD
  refine lc_range (lo := 0) (n := m) (fun i H' => Sb a H H' ∧ Fd H' a s (n + c * i) ∧ ∃ (ys : List V) (ds : List PyData),
    H' D = some (.lst ys) ∧ DpAll K H' ys ds ∧ ds.length = i ∧ ∀ x ∈ ds, Pz x) ?_ ?_ ?_
  · exact ⟨Sb.new hD, (hf.upd dA dS).mono (by omega), [], [], upd_same, .nil, rfl, fun x h => by cases h⟩
  · rintro i H' hi ⟨sb, f, ys, ds, h1, h2, h3, h4⟩
    refine ⟨hw _, ?_⟩
    unfold tYes
    dsimp only
    rw [if_pos rfl]
    refine hs i H' _ hi sb f ?_
    intro z d H2 sb2 f2 pz hz
    have h1' := sb2 _ _ dA h1
    have tall : tupAll ds = true := (tupAll_iff ds).mpr fun x hx => ht x (h4 x hx)
    have hl : ys.length = i := by rw [dpa_len _ _ h2, h3]
    have tk := Tk.lst (o := .lst (ys ++ [z])) h1'
    refine ⟨_, h1', ?_, (Sb.trans sb sb2).mut hD, f2.upd dA dS, ys ++ [z], ds ++ [d], upd_same, ?_, ?_, ?_⟩
    · rw [hl]
      exact Nat.lt_of_lt_of_le (show i < 50000 by omega) (by decide)
    · exact dpa_snoc _ _ _ _ (DpAll.tk tk _ _ tall (DpAll.tk (f.tk sb2) _ _ tall h2)) (Dp.tk tk _ _ (ht d pz) hz)
    · rw [List.length_append, h3]
      rfl
    · intro x hx
      rcases List.mem_append.mp hx with h | h
      · exact h4 x h
      · rw [List.mem_singleton.mp h]
        exact pz
  · rintro H' ⟨sb, f, ys, ds, h1, h2, h3, h4⟩
    exact hd H' ys ds sb f h1 h2 h3 h4
end
end Gd
namespace Gd
open PySem PySem.Spec PyProof.Rows L2
/-! ### tables whose repr is known -/
def Rr (r : List Int) : Prop := r.length ≤ 8 ∧ ∀ x ∈ r, x.natAbs < 2 ^ 1900
def Rk (rs : List (List Int)) : Prop := rs.length ≤ 8 ∧ ∀ r ∈ rs, Rr r
theorem sh_row {r : List Int} (h : Rr r) : Sh 1 16000 (rowD r) := by
  refine (Sh.tup (k := 0) (n := 1901) (m := 8) ?_ (by rw [List.length_map]; exact h.1)).mono (by decide) (by decide)
  intro d hd
  obtain ⟨x, hx, rfl⟩ := List.mem_map.mp hd
  exact Sh.int (h.2 x hx)
theorem sh_rows {rs : List (List Int)} (h : Rk rs) : Sh 2 130000 (rowsD rs) := by
  refine (Sh.tup (k := 1) (n := 16000) (m := 8) ?_ (by rw [List.length_map]; exact h.1)).mono (by decide) (by decide)
  intro d hd
  obtain ⟨x, hx, rfl⟩ := List.mem_map.mp hd
  exact sh_row (h.2 x hx)
theorem sh_tab {w : Int} {rs : List (List Int)} (hw : w.natAbs < 2 ^ 1900) (h : Rk rs) : Sh 3 270000 (tabD w rs) := by
  refine (Sh.tup (k := 2) (n := 130000) (m := 2) ?_ (by simp)).mono (by decide) (by decide)
  intro d hd
  simp only [List.mem_cons, List.not_mem_nil, or_false] at hd
  rcases hd with rfl | rfl
  · exact (Sh.int hw).mono (by decide) (by decide)
  · exact sh_rows h
theorem nat_1900 {n : Nat} (h : n ≤ 1000000) : ((n : Int)).natAbs < 2 ^ 1900 :=
  Nat.lt_of_le_of_lt (by omega : _ ≤ 1000000) (Nat.lt_of_lt_of_le (by decide : 1000000 < 2 ^ 20) (Nat.pow_le_pow_right (by decide) (by decide)))
theorem int_1900 {x : Int} (h : -(10 ^ 30) ≤ x ∧ x ≤ 10 ^ 30) : x.natAbs < 2 ^ 1900 :=
  Nat.lt_of_le_of_lt (by omega : _ ≤ 10 ^ 30) (Nat.lt_of_lt_of_le (by decide : 10 ^ 30 < 2 ^ 100) (Nat.pow_le_pow_right (by decide) (by decide)))
/-- numbers from -b to b -/
def Bd (b : Int) (r : List Int) : Prop := ∀ x ∈ r, -b ≤ x ∧ x ≤ b
def Bs (b : Int) (rs : List (List Int)) : Prop := ∀ r ∈ rs, Bd b r
theorem Bd.at {b : Int} {r : List Int} (h : Bd b r) (hb : 0 ≤ b) (i : Nat) : -b ≤ r.getD i 0 ∧ r.getD i 0 ≤ b := by
  by_cases hi : i < r.length
  · exact h _ (getD_mem hi)
  · rw [List.getD_eq_getElem?_getD, List.getElem?_eq_none (by omega)]
    show -b ≤ 0 ∧ 0 ≤ b
    omega
theorem Bs.at {b : Int} {rs : List (List Int)} (h : Bs b rs) (hb : 0 ≤ b) (i k : Nat) : -b ≤ ent rs i k ∧ ent rs i k ≤ b := by
  unfold ent
  by_cases hi : i < rs.length
  · exact (h _ (getD_mem hi)).at hb k
  · rw [List.getD_eq_getElem?_getD (l := rs), List.getElem?_eq_none (by omega)]
    show -b ≤ ([] : List Int).getD k 0 ∧ ([] : List Int).getD k 0 ≤ b
    rw [List.getD_nil]
    omega
theorem sum_bd {b : Int} : ∀ l : List Int, Bd b l → -(b * l.length) ≤ l.sum ∧ l.sum ≤ b * l.length
  | [], _ => by simp
  | x :: l, h => by
    have h1 := h x (List.mem_cons_self ..)
    have h2 := sum_bd l (fun y hy => h y (List.mem_cons_of_mem _ hy))
    rw [List.sum_cons, List.length_cons]
    have e : b * ((l.length + 1 : Nat) : Int) = b * (l.length : Int) + b := by
      rw [Int.natCast_succ, Int.mul_add, Int.mul_one]
    rw [e]
    omega
theorem mul_bd {a b x y : Int} (ha : 0 ≤ a) (hb : 0 ≤ b) (hx : -a ≤ x ∧ x ≤ a) (hy : -b ≤ y ∧ y ≤ b) :
    -(a * b) ≤ x * y ∧ x * y ≤ a * b := by
  have h1 : x.natAbs ≤ a.natAbs := by omega
  have h2 : y.natAbs ≤ b.natAbs := by omega
  have h3 : (x * y).natAbs ≤ (a * b).natAbs := by
    rw [Int.natAbs_mul, Int.natAbs_mul]
    exact Nat.mul_le_mul h1 h2
  have h4 : 0 ≤ a * b := Int.mul_nonneg ha hb
  omega
theorem mulRow_bd {a b : Int} {r : List Int} {w : Nat} {ts : List (List Int)} {m : Nat} (ha : 0 ≤ a) (hb : 0 ≤ b)
    (hr : Bd a r) (ht : Bs b ts) (hm : r.length ≤ m) : Bd (a * b * m) (mulRow r w ts) := by
  intro x hx
  obtain ⟨k, hk, rfl⟩ := List.mem_map.mp hx
  have h0 : 0 ≤ a * b := Int.mul_nonneg ha hb
  have h := sum_bd (b := a * b) ((List.range r.length).map fun i => r.getD i 0 * ent ts i k) (by
    intro y hy
    obtain ⟨i, hi, rfl⟩ := List.mem_map.mp hy
    exact mul_bd ha hb (hr.at ha i) (ht.at hb i k))
  rw [List.length_map, List.length_range] at h
  have h2 : a * b * (r.length : Int) ≤ a * b * (m : Int) := Int.mul_le_mul_of_nonneg_left (by omega) h0
  omega
theorem mulRow_len {r : List Int} {w : Nat} {ts : List (List Int)} : (mulRow r w ts).length = w := by
  unfold mulRow
  rw [List.length_map, List.length_range]
theorem OkT.bs {m wd : Nat} {rs : List (List Int)} (h : OkT m wd rs) : Bs 99 rs := fun r hr x hx => (h.2 r hr).2 x hx
theorem rr_bd {r : List Int} (hl : r.length ≤ 8) (h : Bd 1000000 r) : Rr r :=
  ⟨hl, fun x hx => int_1900 (by have := h x hx; omega)⟩
theorem Bd.mono {a b : Int} {r : List Int} (h : Bd a r) (e : a ≤ b) : Bd b r := fun x hx => by
  have := h x hx
  omega
theorem rk_ok {m wd : Nat} {rs : List (List Int)} (h : OkT m wd rs) (hm : m ≤ 8) (hw : wd ≤ 8) : Rk rs :=
  ⟨by rw [h.1]; exact hm, fun r hr => rr_bd (by rw [(h.2 r hr).1]; exact hw) (Bd.mono (h.bs r hr) (by decide))⟩
theorem rk_unit {n : Nat} (h : n ≤ 8) : Rk (unitR n) := by
  refine ⟨by simp [unitR, h], fun r hr => ?_⟩
  obtain ⟨k, hk, rfl⟩ := List.mem_map.mp hr
  refine rr_bd (by simp [unitRow, h]) ?_
  intro x hx
  obtain ⟨c, hc, rfl⟩ := List.mem_map.mp hx
  split <;> decide
end Gd
namespace Gd
open PySem PySem.Spec PyProof.Rows L2
/-! ### sums over places, products of tables -/
def sumR (n : Nat) (f : Nat → Int) : Int := ((List.range n).map f).sum
theorem sumR_zero (f : Nat → Int) : sumR 0 f = 0 := rfl
theorem sumR_succ (n : Nat) (f : Nat → Int) : sumR (n + 1) f = sumR n f + f n := by
  unfold sumR
  rw [List.range_succ, List.map_append, List.sum_append]
  simp
theorem sumR_congr {n : Nat} {f g : Nat → Int} (h : ∀ i, i < n → f i = g i) : sumR n f = sumR n g := by
  unfold sumR
  congr 1
  refine List.map_congr_left ?_
  intro i hi
  exact h i (List.mem_range.mp hi)
theorem sumR_add (n : Nat) (f g : Nat → Int) : sumR n (fun i => f i + g i) = sumR n f + sumR n g := by
  induction n with
  | zero => rfl
  | succ n ih => rw [sumR_succ, sumR_succ, sumR_succ, ih]; omega
theorem sumR_mulr (n : Nat) (f : Nat → Int) (c : Int) : sumR n (fun i => f i * c) = sumR n f * c := by
  induction n with
  | zero => rw [sumR_zero, sumR_zero, Int.zero_mul]
  | succ n ih => rw [sumR_succ, sumR_succ, ih, Int.add_mul]
theorem sumR_mull (n : Nat) (f : Nat → Int) (c : Int) : sumR n (fun i => c * f i) = c * sumR n f := by
  induction n with
  | zero => rw [sumR_zero, sumR_zero, Int.mul_zero]
  | succ n ih => rw [sumR_succ, sumR_succ, ih, Int.mul_add]
theorem sumR_nought (n : Nat) : sumR n (fun _ => 0) = 0 := by
  induction n with
  | zero => rfl
  | succ n ih => rw [sumR_succ, ih]; rfl
theorem sumR_comm (n m : Nat) (f : Nat → Nat → Int) :
    sumR n (fun i => sumR m (fun j => f i j)) = sumR m (fun j => sumR n (fun i => f i j)) := by
  induction n with
  | zero =>
    rw [sumR_zero]
    exact (sumR_nought m).symm
  | succ n ih =>
    rw [sumR_succ, ih, ← sumR_add]
    exact sumR_congr fun j _ => (sumR_succ n fun i => f i j).symm
theorem sumR_one {n k : Nat} (hk : k < n) (f : Nat → Int) (h : ∀ i, i < n → i ≠ k → f i = 0) : sumR n f = f k := by
  induction n with
  | zero => omega
  | succ n ih =>
    rw [sumR_succ]
    by_cases e : k = n
    · subst e
      rw [sumR_congr (g := fun _ => 0) (fun i hi => h i (by omega) (by omega)), sumR_nought]
      omega
    · rw [ih (by omega) (fun i hi ne => h i (by omega) ne), h n (by omega) (by omega)]
      omega
theorem getD_range {α : Type} {n i : Nat} {g : Nat → α} {d : α} (h : i < n) : ((List.range n).map g).getD i d = g i := by
  rw [List.getD_eq_getElem?_getD, List.getElem?_map, List.getElem?_range h]
  rfl
theorem range_getD {α β : Type} (l : List α) (d : α) (f : α → β) : (List.range l.length).map (fun i => f (l.getD i d)) = l.map f := by
  apply List.ext_getElem
  · simp
  · intro i h1 h2
    have hi : i < l.length := by simpa using h2
    simp only [List.getElem_map, List.getElem_range]
    rw [List.getD_eq_getElem?_getD, List.getElem?_eq_getElem hi]
    rfl
theorem mulRow_eq (r : List Int) (w : Nat) (rs : List (List Int)) :
    mulRow r w rs = (List.range w).map fun k => sumR r.length fun i => r.getD i 0 * ent rs i k := rfl
theorem mulR_eq (rs : List (List Int)) (w : Nat) (ts : List (List Int)) : mulR rs w ts = rs.map fun r => mulRow r w ts :=
  range_getD rs [] fun r => mulRow r w ts
theorem turnR_eq (w : Nat) (rs : List (List Int)) : turnR w rs = (List.range w).map fun k => rs.map fun r => r.getD k 0 := by
  unfold turnR ent
  refine List.map_congr_left ?_
  intro k _
  exact range_getD rs [] fun r => r.getD k 0
theorem mulR_len {rs : List (List Int)} {w : Nat} {ts : List (List Int)} : (mulR rs w ts).length = rs.length := by
  rw [mulR_eq, List.length_map]
theorem mulR_at {rs : List (List Int)} {w : Nat} {ts : List (List Int)} {i : Nat} (h : i < rs.length) :
    (mulR rs w ts).getD i [] = mulRow (rs.getD i []) w ts := by
  unfold mulR
  rw [getD_range h]
theorem mulRow_at {r : List Int} {w : Nat} {ts : List (List Int)} {k : Nat} (h : k < w) :
    (mulRow r w ts).getD k 0 = sumR r.length fun i => r.getD i 0 * ent ts i k := by
  rw [mulRow_eq, getD_range h]
theorem ent_mul {rs : List (List Int)} {w : Nat} {ts : List (List Int)} {i k : Nat} (hi : i < rs.length) (hk : k < w) :
    ent (mulR rs w ts) i k = sumR (rs.getD i []).length fun j => ent rs i j * ent ts j k := by
  unfold ent
  rw [mulR_at hi, mulRow_at hk]
  rfl
theorem ent_turn {w : Nat} {rs : List (List Int)} {i k : Nat} (hk : k < w) (hi : i < rs.length) : ent (turnR w rs) k i = ent rs i k := by
  have h : (turnR w rs).getD k [] = (List.range rs.length).map fun i => ent rs i k := by
    unfold turnR
    rw [getD_range hk]
  unfold ent at h ⊢
  rw [h, getD_range hi]
theorem ent_unit {n i k : Nat} (hi : i < n) (hk : k < n) : ent (unitR n) i k = if k = i then 1 else 0 := by
  unfold ent unitR
  rw [getD_range hi]
  unfold unitRow
  rw [getD_range hk]
theorem row_assoc {r : List Int} {w w' : Nat} {bs cs : List (List Int)} (hr : r.length = bs.length) (hb : Tb w bs) (hw : w = cs.length) :
    mulRow (mulRow r w bs) w' cs = mulRow r w' (mulR bs w' cs) := by
  show (List.range w').map (fun k => sumR (mulRow r w bs).length (fun j => (mulRow r w bs).getD j 0 * ent cs j k)) =
    (List.range w').map (fun k => sumR r.length (fun i => r.getD i 0 * ent (mulR bs w' cs) i k))
  refine List.map_congr_left ?_
  intro k hk
  have hk := List.mem_range.mp hk
  rw [mulRow_len]
  have e1 : sumR w (fun j => (mulRow r w bs).getD j 0 * ent cs j k) =
      sumR w (fun j => sumR r.length (fun i => r.getD i 0 * ent bs i j * ent cs j k)) := by
    refine sumR_congr fun j hj => ?_
    rw [mulRow_at hj, ← sumR_mulr]
  have e2 : sumR r.length (fun i => r.getD i 0 * ent (mulR bs w' cs) i k) =
      sumR r.length (fun i => sumR w (fun j => r.getD i 0 * ent bs i j * ent cs j k)) := by
    refine sumR_congr fun i hi => ?_
    rw [ent_mul (by omega) hk, hb.len (by omega), ← sumR_mull]
    exact sumR_congr fun j _ => (Int.mul_assoc _ _ _).symm
  rw [e1, e2, sumR_comm]
theorem mul_assoc {as bs cs : List (List Int)} {v w w' : Nat} (ha : Tb v as) (hv : v = bs.length) (hb : Tb w bs) (hw : w = cs.length) :
    mulR (mulR as w bs) w' cs = mulR as w' (mulR bs w' cs) := by
  rw [mulR_eq (mulR as w bs), mulR_eq as, mulR_eq as, List.map_map]
  refine List.map_congr_left ?_
  intro r hr
  exact row_assoc (by rw [ha.2.2 r hr, hv]) hb hw
theorem row_id (r : List Int) : (List.range r.length).map (fun k => r.getD k 0) = r := by
  have := range_getD r 0 id
  simpa using this
theorem rows_id (rs : List (List Int)) : (List.range rs.length).map (fun k => rs.getD k []) = rs := by
  have := range_getD rs [] id
  simpa using this
theorem unit_mul {rs : List (List Int)} {w : Nat} (h : Tb w rs) : mulR (unitR rs.length) w rs = rs := by
  conv => rhs; rw [← rows_id rs]
  rw [mulR_eq]
  unfold unitR
  rw [List.map_map]
  refine List.map_congr_left ?_
  intro i hi
  have hi := List.mem_range.mp hi
  show mulRow (unitRow rs.length i) w rs = rs.getD i []
  conv => rhs; rw [← row_id (rs.getD i [])]
  rw [h.len hi, mulRow_eq]
  refine List.map_congr_left ?_
  intro k hk
  have hl : (unitRow rs.length i).length = rs.length := by simp [unitRow]
  rw [hl, sumR_one hi]
  · unfold unitRow
    rw [getD_range hi, if_pos rfl, Int.one_mul]
    rfl
  · intro j hj ne
    unfold unitRow
    rw [getD_range hj, if_neg ne, Int.zero_mul]
theorem mul_unit {rs : List (List Int)} {w : Nat} (h : Tb w rs) : mulR rs w (unitR w) = rs := by
  conv => rhs; rw [← List.map_id rs]
  rw [mulR_eq]
  refine List.map_congr_left ?_
  intro r hr
  show mulRow r w (unitR w) = r
  have hl := h.2.2 r hr
  conv => rhs; rw [← row_id r]
  rw [hl, mulRow_eq]
  refine List.map_congr_left ?_
  intro k hk
  have hk := List.mem_range.mp hk
  rw [hl, sumR_one hk]
  · rw [ent_unit hk hk, if_pos rfl, Int.mul_one]
  · intro j hj ne
    rw [ent_unit hj hk, if_neg (fun z => ne z.symm), Int.mul_zero]
theorem turn_mul {as bs : List (List Int)} {v w : Nat} (ha : Tb v as) (hv : v = bs.length) :
    turnR w (mulR as w bs) = mulR (turnR w bs) as.length (turnR v as) := by
  have hl : (turnR w bs).length = w := by simp [turnR]
  have e : mulR (turnR w bs) as.length (turnR v as) = (List.range w).map fun k => mulRow ((turnR w bs).getD k []) as.length (turnR v as) := by
    unfold mulR
    rw [hl]
  rw [e]
  unfold turnR
  refine List.map_congr_left ?_
  intro k hk
  have hk := List.mem_range.mp hk
  rw [mulR_len]
  have ek : ((List.range w).map fun k => (List.range bs.length).map fun i => ent bs i k).getD k [] = (List.range bs.length).map fun i => ent bs i k := getD_range hk
  rw [ek, mulRow_eq, List.length_map, List.length_range]
  refine List.map_congr_left ?_
  intro i hi
  have hi := List.mem_range.mp hi
  rw [ent_mul hi hk, ha.len hi, hv]
  refine sumR_congr fun j hj => ?_
  rw [getD_range hj]
  have et : ent ((List.range v).map fun k => (List.range as.length).map fun i => ent as i k) j i = ent as i j := ent_turn (w := v) (by omega) hi
  rw [← hv, et, Int.mul_comm]
theorem stack_mul {as ms bs : List (List Int)} {w : Nat} : mulR (as ++ ms) w bs = mulR as w bs ++ mulR ms w bs := by
  rw [mulR_eq, mulR_eq, mulR_eq, List.map_append]
theorem turn_stack {as ms : List (List Int)} {w : Nat} :
    turnR w (as ++ ms) = (List.range w).map fun k => (turnR w as).getD k [] ++ (turnR w ms).getD k [] := by
  rw [turnR_eq]
  refine List.map_congr_left ?_
  intro k hk
  have hk := List.mem_range.mp hk
  rw [turnR_eq, turnR_eq, getD_range hk, getD_range hk, List.map_append]
theorem mul_tb {as bs : List (List Int)} {v w : Nat} (ha : as.length ≤ 1000) (hw : w ≤ 1000) : Tb w (mulR as w bs) :=
  ⟨by rw [mulR_len]; exact ha, hw, fun r hr => by
    rw [mulR_eq] at hr
    obtain ⟨x, _, rfl⟩ := List.mem_map.mp hr
    exact mulRow_len⟩
theorem turn_tb {rs : List (List Int)} {w : Nat} (hr : rs.length ≤ 1000) (hw : w ≤ 1000) : Tb rs.length (turnR w rs) := by
  refine ⟨by simp [turnR]; exact hw, hr, fun r h => ?_⟩
  obtain ⟨x, _, rfl⟩ := List.mem_map.mp h
  simp
theorem turn_len {rs : List (List Int)} {w : Nat} : (turnR w rs).length = w := by simp [turnR]
theorem unit_tb {n : Nat} (h : n ≤ 1000) : Tb n (unitR n) := by
  refine ⟨by simp [unitR]; exact h, h, fun r hr => ?_⟩
  obtain ⟨x, _, rfl⟩ := List.mem_map.mp hr
  simp [unitRow]
theorem bs_mul {a b : Int} {as bs : List (List Int)} {v w m : Nat} (h0 : 0 ≤ a) (h1 : 0 ≤ b) (ha : Bs a as) (hv : ∀ r ∈ as, r.length ≤ m) (hb : Bs b bs) :
    Bs (a * b * m) (mulR as w bs) := by
  intro r hr
  rw [mulR_eq] at hr
  obtain ⟨x, hx, rfl⟩ := List.mem_map.mp hr
  exact mulRow_bd h0 h1 (ha x hx) hb (hv x hx)
theorem bs_turn {a : Int} {rs : List (List Int)} {w : Nat} (h0 : 0 ≤ a) (ha : Bs a rs) : Bs a (turnR w rs) := by
  intro r hr
  obtain ⟨k, _, rfl⟩ := List.mem_map.mp hr
  intro x hx
  obtain ⟨i, _, rfl⟩ := List.mem_map.mp hx
  exact ha.at h0 i k
theorem bs_unit {n : Nat} : Bs 1 (unitR n) := by
  intro r hr
  obtain ⟨k, _, rfl⟩ := List.mem_map.mp hr
  intro x hx
  obtain ⟨c, _, rfl⟩ := List.mem_map.mp hx
  show -1 ≤ (if c = k then (1 : Int) else 0) ∧ (if c = k then (1 : Int) else 0) ≤ 1
  split <;> decide
theorem bs_sm {a : Int} {rs : List (List Int)} (h : Bs a rs) (ha : a < 2 ^ 64) : ∀ r ∈ rs, Sm r := fun r hr x hx => by
  have := h r hr x hx
  omega
/-! ### == of tables -/
mutual
theorem eqv_self : ∀ d : PyData, tupOnly d = true → PyData.eqv d d = true
  | .none, _ => by simp [PyData.eqv]
  | .bool b, _ => by simp [PyData.eqv]
  | .int i, _ => by simp [PyData.eqv]
  | .str x, _ => by simp [PyData.eqv]
  | .tuple ds, h => by
    simp only [PyData.eqv]
    exact eqvAll_self ds (by simpa [tupOnly] using h)
  | .list _, h => by simp [tupOnly] at h
  | .dict _, h => by simp [tupOnly] at h
theorem eqvAll_self : ∀ ds : List PyData, tupAll ds = true → PyData.eqvAll ds ds = true
  | [], _ => by simp [PyData.eqvAll]
  | d :: ds, h => by
    have h' : tupOnly d = true ∧ tupAll ds = true := by simpa [tupAll] using h
    simp only [PyData.eqvAll, eqv_self d h'.1, eqvAll_self ds h'.2, Bool.and_self]
end
/-- may be compared -/
def Shp (k : Nat) (d : PyData) : Prop := d.canLay0 = true ∧ d.depth ≤ k
theorem shp_int (i : Int) : Shp 0 (.int i) := ⟨by simp [PyData.canLay0], by simp [PyData.depth]⟩
theorem shp_all {k : Nat} : ∀ ds : List PyData, (∀ d ∈ ds, Shp k d) → PyData.canLayAll0 ds = true ∧ PyData.depthAll ds ≤ k
  | [], _ => ⟨by simp [PyData.canLayAll0], by simp [PyData.depthAll]⟩
  | d :: ds, h => by
    obtain ⟨a1, a2⟩ := h d (List.mem_cons_self ..)
    obtain ⟨b1, b2⟩ := shp_all ds (fun x hx => h x (List.mem_cons_of_mem _ hx))
    refine ⟨by simp [PyData.canLayAll0, a1, b1], ?_⟩
    simp only [PyData.depthAll]
    omega
theorem shp_tup {k : Nat} {ds : List PyData} (h : ∀ d ∈ ds, Shp k d) : Shp (k + 1) (.tuple ds) := by
  obtain ⟨h1, h2⟩ := shp_all ds h
  refine ⟨by simp [PyData.canLay0, h1], ?_⟩
  simp only [PyData.depth]
  omega
theorem Shp.mono {k m : Nat} {d : PyData} (h : Shp k d) (e : k ≤ m) : Shp m d := ⟨h.1, Nat.le_trans h.2 e⟩
theorem Shp.shaped {k : Nat} {d : PyData} (h : Shp k d) (hk : k ≤ 64) : SeqAt.shaped d = true := by
  show (d.canLay0 && decide (d.depth ≤ 64)) = true
  rw [Bool.and_eq_true]
  exact ⟨h.1, decide_eq_true (Nat.le_trans h.2 hk)⟩
theorem shp_row (r : List Int) : Shp 1 (rowD r) := shp_tup fun d hd => by
  obtain ⟨x, _, rfl⟩ := List.mem_map.mp hd
  exact shp_int x
theorem shp_rows (rs : List (List Int)) : Shp 2 (rowsD rs) := shp_tup fun d hd => by
  obtain ⟨x, _, rfl⟩ := List.mem_map.mp hd
  exact shp_row x
theorem shp_tab (w : Int) (rs : List (List Int)) : Shp 3 (tabD w rs) := shp_tup fun d hd => by
  simp only [List.mem_cons, List.not_mem_nil, or_false] at hd
  rcases hd with rfl | rfl
  · exact (shp_int w).mono (by decide)
  · exact shp_rows rs
theorem ne_dp {K : PySem.W.Frag} {H : Hp} {x y : V} {d : PyData} {k : Nat} {Q : VK} (hx : Dp K H x d) (hy : Dp K H y d)
    (hs : Shp k d) (hk : k ≤ 64) (ht : tupOnly d = true) (q : Q (.bl false) H) : rNeD K x y H Q := by
  refine ⟨d, d, hx, hy, hs.shaped hk, hs.shaped hk, ?_⟩
  rw [eqv_self d ht]
  exact q
theorem eq_dp {K : PySem.W.Frag} {H : Hp} {x y : V} {d : PyData} {k : Nat} {Q : VK} (hx : Dp K H x d) (hy : Dp K H y d)
    (hs : Shp k d) (hk : k ≤ 64) (ht : tupOnly d = true) (q : Q (.bl true) H) : rEqD K x y H Q := by
  refine ⟨d, d, hx, hy, hs.shaped hk, hs.shaped hk, ?_⟩
  rw [eqv_self d ht]
  exact q
end Gd
namespace Gd
open PySem PySem.Spec PyProof.Rows L2
open PySem.AutoSeq1 (wpAny_loadPart')
/-! ### enumerate(t), t a tuple -/
theorem enum_new_tup (l : Addr) (items : Array Value) (n : Nat) (dct : Option Addr)
    (sl : Array (Option Value)) :
    Meets (Builtin.«enumerate.__new__» ⟨[.type "enumerate", .ref l], []⟩) (fun _ R s =>
      s.heap.get? l = some { cls := .type "tuple", dict := dct, data := .seq items n, slots := sl } ∧
      R (.ok (.ret (.ref (s.heap.push { cls := .type "tuple_iterator", data := .fields #[.ref l, .int 0 0] }).objs.size)))
        { s with heap := ((s.heap.push { cls := .type "tuple_iterator", data := .fields #[.ref l, .int 0 0] }).push ({ cls := .type "enumerate", data := .fields #[.none, .bool false, .ref s.heap.objs.size, rawInt 0, .none, .none] } : Obj)) }) :=
  .of_wp fun prog w A R s h => by
    obtain ⟨hp, g, d, tk, os⟩ := s
    obtain ⟨hl, h⟩ := h
    have hsub := sub_enumerate
    have hL : Heap.IsTuple (Shared.heap ⟨hp, g, d, tk, os⟩) l items := ⟨_, hl, rfl, n, rfl⟩
    wp_walk using wpAny_loadPart' hl
    refine wpAny_stack_any fun st => wpAny_pure ?_
    split
    · rename_i c _ _ _ _ _
      cases (c == Value.type "enumerate") <;> (wp_walk using wpAny_loadPart' hl, wpAny_pyIter_tuple hL) <;> exact ⟨_, rfl, h⟩
    · wp_walk using wpAny_loadPart' hl, wpAny_pyIter_tuple hL
      exact ⟨_, rfl, h⟩
theorem call_enum_tup {prog : Program} {w : World} {A : Around} {E : Value → Shared → Prop} {s : Shared}
    {l : Addr} {items : Array Value} {Q : Value → Shared → Prop} (hL : s.heap.IsTuple l items)
    (h : ∀ h', IsEnum h' (s.heap.objs.size + 1) s.heap.objs.size 0 .none →
      h'.IsTupleIter s.heap.objs.size l 0 → h'.objs.size = s.heap.objs.size + 2 →
      (∀ b o, s.heap.get? b = some o → h'.get? b = some o) →
      Q (.ref (s.heap.objs.size + 1)) { s with heap := h' }) :
    wpAny (model prog w) A (call (.type "enumerate") [.ref l]) Q E s := by
  obtain ⟨⟨c, dct, dt, sl⟩, hl, hc, n, hd⟩ := hL
  simp only at hc hd
  subst hc hd
  refine callType_new F.called_enumerate (by decide) (F.typeCall_enumerate_1 _) (F.newCall_enumerate_1 _)
    (fun obj => F.args_object_init_2 obj _) F.entry_enumerate_new (enum_new_tup l items n dct sl) ⟨hl, ?_⟩
  have hz := Heap.size_push s.heap { cls := .type "tuple_iterator", data := .fields #[.ref l, .int 0 0] }
  have he := Heap.get?_push_size (s.heap.push { cls := .type "tuple_iterator", data := .fields #[.ref l, .int 0 0] })
    (o := { cls := .type "enumerate", data := .fields #[.none, .bool false, .ref s.heap.objs.size, rawInt 0, .none, .none] }) rfl
  show _ ∧ _
  rw [hz] at he ⊢
  refine ⟨⟨_, he, rfl⟩, h _ he ⟨_, Heap.get?_push_of_some _ (Heap.get?_push_size _ rfl), rfl, rfl⟩
    (by rw [Heap.size_push, hz]) ?_⟩
  intro b o x
  exact Heap.get?_push_of_some _ (Heap.get?_push_of_some _ x)
/-- the tuple at a, each item in a new pair with its place -/
def ItE (K : PySem.W.Frag) (a : Addr) : It :=
  ⟨fun i H => ∃ (xs : List V) (x : V), SqT K H a xs ∧ xs[i]? = some x,
    fun i H v H' => ∃ T x, v = .ref T ∧ H T = none ∧ H' = upd H T (.tup [.int (i : Nat), x]) ∧
      ∀ xs, SqT K H a xs → xs[i]? = some x,
    fun i H => ∃ xs : List V, SqT K H a xs ∧ xs.length = i⟩
theorem turn_enumT {P : Program} {w : World} {K : PySem.W.Frag} {elts : List Expr} {kk : Nat}
    {tpos : Pos} (a e it : Addr) :
    Turn P w K (.Tuple elts kk tpos) (ItE K a) [e, it] e (fun i h =>
      (∃ old, IsEnum h e it ((i : Nat) : Int) old) ∧ h.IsTupleIter it a i ∧ e ≠ it ∧ e ≠ a ∧ a ≠ it) where
  mem := List.mem_cons_self ..
  obj := by
    rintro i h ⟨⟨old, he⟩, ⟨o, ho, hc, hd⟩, _⟩ b hb
    rcases List.mem_cons.mp hb with z | z
    · rw [z]
      exact ⟨_, he, fun v q => nomatch q⟩
    · rw [List.mem_singleton.mp z]
      exact ⟨o, ho, fun v q => by rw [hd] at q; cases q⟩
  keep := by
    rintro i h h' ⟨⟨old, he⟩, hi, r⟩ k
    exact ⟨⟨old, k e (by simp) _ he⟩, hi.at (fun o q => k it (by simp) o q), r⟩
  item := by
    intro X hP hw hK hc i pins s σ H E I hf st hg
    subst hP hw hK
    obtain ⟨⟨old, he⟩, hit, hne, hea, hai⟩ := st
    obtain ⟨xs, x, hq, hx⟩ := hg
    obtain ⟨its, rv, p, hz⟩ := I.tuple hq
    obtain ⟨u, hu, ru⟩ := rv.get hx
    have hel : e < s.heap.objs.size := Heap.lt_size he
    have hil : it < s.heap.objs.size := by
      obtain ⟨_, q, _⟩ := hit
      exact Heap.lt_size q
    have hlt : i < its.toArray.size := by
      have := (List.getElem?_eq_some_iff.mp hu).1
      simpa using this
    have hef : e ∉ [it, a] := by simp [hne, hea]
    refine wpAny_pyNext_enum_itemC (Draws.tuple (A := X.A.in1) (I.ok.hd hc) it a hai its.toArray) he ⟨hit, p⟩ hlt hne hef ?_
    intro y h' tk hy ho hst hT hsz hk
    have ey : y = u := by
      have h1 : its[i]? = some y := by simpa using hy
      rw [hu] at h1
      exact (Option.some.inj h1).symm
    subst ey
    refine ⟨_, rfl, wpAny_letOwnedTupleGo_enum (s := { s with heap := h', toks := tk + 1 }) ho fun h'' he' sb => ?_⟩
    have hT2 : h''.get? s.heap.objs.size = some { cls := .type "tuple", data := .seq #[.int i tk, y] } :=
      (sb.2 _ (Nat.ne_of_gt hel)).trans hT
    have new : ObjOk X.prog X.w (upd H s.heap.objs.size (.tup [.int (i : Nat), x])) h'' s.heap.objs.size (.tup [.int (i : Nat), x]) :=
      ⟨by show 2 ≤ sizeLine; decide, [.int i tk, y], .cons ⟨_, rfl⟩ (.cons ru .nil), ⟨_, hT2, rfl, _, rfl⟩⟩
    have I1 : Inv X pins σ (upd H s.heap.objs.size (.tup [.int (i : Nat), x])) { s with heap := h'', toks := tk + 1 } := by
      refine I.turnedNew (ch := [e, it]) ?_ hf (Nat.le_refl _) new
      intro b ob hb q
      have b1 : b ≠ e := fun z => hb (by simp [z])
      have b2 : b ≠ it := fun z => hb (by simp [z])
      exact (sb.2 b b1).trans (hk b ob b1 b2 q)
    refine ⟨.ref s.heap.objs.size, _, I1, rfl, ⟨_, x, rfl, I.hok.fresh (Nat.le_refl _), rfl, ?_⟩, ⟨⟨y, ?_⟩, ?_, hne, hea, hai⟩, ?_⟩
    · intro ys hys
      rw [I.tuple_inj hys hq]
      exact hx
    · rw [show ((i + 1 : Nat) : Int) = (i : Int) + 1 from by omega]
      exact he'
    · exact hst.1.at fun o q => (sb.2 it (Ne.symm hne)).trans q
    · intro b hb
      have hb' : b < s.heap.objs.size := by
        rcases List.mem_cons.mp hb with z | z
        · rw [z]; exact hel
        · rw [List.mem_singleton.mp z]; exact hil
      rw [upd_ne (Nat.ne_of_lt hb')]
      exact (hf b hb).1
  done := by
    intro X hP hw hK hc i pins s σ H E I hf st hg
    subst hP hw hK
    obtain ⟨⟨old, he⟩, hit, hne, hea, hai⟩ := st
    obtain ⟨xs, hq, hx⟩ := hg
    obtain ⟨its, rv, p, hz⟩ := I.tuple hq
    obtain ⟨f0, f1, f2, f3, f4, f5⟩ := hf it (by simp)
    have hsz : i = its.toArray.size := by
      rw [List.size_toArray, ← rv.length, hx]
    refine wpAny_pyNext_enum_endD (Draws.tuple (A := X.A.in1) (I.ok.hd hc) it a hai its.toArray) he ⟨hsz ▸ hit, p⟩ ?_
    intro h' eb
    exact ⟨rfl, I.turned (t' := s.toks) (fun b o hb q => eb b o hb q) f0 f1 f3 f4 f5⟩
  self := fun A i s Q E st h => by
    obtain ⟨⟨_, he⟩, _⟩ := st
    exact wpAny_pyIter_enum he h
def iEnumT (K : PySem.W.Frag) (ta : TA) : TI := fun σ H R => ta σ H fun vs H1 =>
  ∃ a xs, vs = [.ref a] ∧ SqT K H1 a xs ∧ R (ItE K a) H1
theorem pi_enumK {X : Cx} {K : PySem.W.Frag} {e : Expr} {ta : TA} {p pos tpos : Pos} {elts : List Expr} {kk : Nat}
    (hK : X.K = K) (hg : Gl X "enumerate") (hm : X.mg "enumerate" = none) (ha : PA X [e] ta)
    (hs : starEach [e] X.env = [(false, eval e X.env)] := by rfl) :
    PI X (.Tuple elts kk tpos) (.Call (.Name "enumerate" p) [e] [] pos) (iEnumT K ta) := by
  subst hK
  constructor
  intro pins s σ H R I h
  refine Call_ (ld_blt I hg hm boot_enumerate (PyProof.Rows.callWith_type1 (thn (ha.run pos pins s σ H _ I h) ?_) hs rfl))
  rintro us s1 ⟨vs, H1, I1, r1, a, xs, rfl, hq, q⟩
  rw [Vals.ref1 r1]
  obtain ⟨its, rv, p', hz⟩ := I1.tuple hq
  have hal : a < s1.heap.objs.size := p'.lt
  refine call_enum_tup p' fun h' he hit hsz hk => wpAny_pyIter_enum he ?_
  have I2 : Inv X pins σ H1 { s1 with heap := h' } := I1.kept (t' := s1.toks) hk
  refine ⟨s1.heap.objs.size + 1, [s1.heap.objs.size + 1, s1.heap.objs.size], _, _, H1, rfl, I2,
    turn_enumT a (s1.heap.objs.size + 1) s1.heap.objs.size, ⟨⟨.none, he⟩, hit, Nat.succ_ne_self _, Nat.ne_of_gt (Nat.lt_succ_of_lt hal), Nat.ne_of_lt hal⟩, ?_, q⟩
  intro b hb
  have hle : s1.heap.objs.size ≤ b := by
    rcases List.mem_cons.mp hb with z | z
    · rw [z]; exact Nat.le_add_right _ _
    · rw [List.mem_singleton.mp z]; exact Nat.le_refl _
  exact I1.fpOk hle (I1.hok.fresh hle)
/-- for i, x in enumerate(t) -/
theorem for_enumT {K : PySem.W.Frag} {a : Addr} {xs : List V} {g : TG} {tb : TS} {D : Ends} {σ : L2.St} {H : Hp}
    (Pv : Nat → L2.St → Hp → Prop) (h0 : Pv 0 σ H) (hq : ∀ i σ H, Pv i σ H → SqT K H a xs)
    (hs : ∀ (i : Nat) (x : V) (T : Addr) (σ : L2.St) (H : Hp), xs[i]? = some x → Pv i σ H → H T = none →
      g (.ref T) σ (upd H T (.tup [.int (i : Nat), x])) fun σ2 H2 =>
        tb { D with nx := Pv (i + 1), ct := Pv (i + 1), bk := D.nx } σ2 H2)
    (hd : ∀ σ H, Pv xs.length σ H → D.nx σ H) :
    ∃ W : Nat → Nat → L2.St → Hp → Prop, (∃ m, W 0 m σ H) ∧ ∀ i m σ H, W i m σ H →
      ((ItE K a).stop i H ∧ D.nx σ H) ∨ ((ItE K a).go i H ∧ ∃ N : L2.St → Hp → Prop,
        (∀ σ' H', N σ' H' → ∃ m', m' < m ∧ W (i + 1) m' σ' H') ∧
        ∀ v H', (ItE K a).yld i H v H' → g v σ H' fun σ2 H2 =>
          tb { D with nx := N, ct := N, bk := D.nx } σ2 H2) := by
  refine ⟨fun i m σ H => m = xs.length - i ∧ i ≤ xs.length ∧ Pv i σ H, ⟨xs.length, rfl, Nat.zero_le _, h0⟩, ?_⟩
  rintro i m σ H ⟨rfl, hi, p⟩
  have qx := hq i σ H p
  by_cases hlt : i < xs.length
  · have hx : xs[i]? = some xs[i] := List.getElem?_eq_getElem hlt
    refine .inr ⟨⟨xs, _, qx, hx⟩, Pv (i + 1), fun σ' H' p' => ⟨xs.length - (i + 1), by omega, rfl, hlt, p'⟩, ?_⟩
    intro v H' y
    obtain ⟨T, x', rfl, hT, rfl, f1⟩ := y
    exact hs i x' T σ H (f1 xs qx) p hT
  · have e : i = xs.length := by omega
    subst e
    exact .inl ⟨⟨xs, qx, rfl⟩, hd σ H p⟩
end Gd
namespace Gd
open PySem PySem.Spec PyProof.Rows L2
theorem call_isiK {X : Cx} {K : PySem.W.Frag} (hK : X.K = K) : CallR X (.builtin "isinstance") (rIsi K) := by
  subst hK; exact call_isi
theorem sqt_ty {K : PySem.W.Frag} {H : Hp} {a : Addr} {xs : List V} (h : SqT K H a xs) : TyX K H (.ref a) (.type "tuple") := by
  rcases h with (h | ⟨o, h⟩) | h
  · exact .base (.tup h)
  · exact .fTuple h
  · obtain ⟨o, its, n, hk, hc, _⟩ := h
    exact .kTuple hk hc
/-! ### deeds -/
inductive Deed where
  | swap (i j : Nat) | turn (i : Nat) | add (i j : Nat) (k : Int)
def deedD : Deed → PyData
  | .swap i j => .tuple [.str "swap", .int i, .int j]
  | .turn i => .tuple [.str "turn", .int i]
  | .add i j k => .tuple [.str "add", .int i, .int j, .int k]
def OkD (m : Nat) (b : Int) : Deed → Prop
  | .swap i j => i < m ∧ j < m ∧ i ≠ j
  | .turn i => i < m
  | .add i j k => i < m ∧ j < m ∧ i ≠ j ∧ -b ≤ k ∧ k ≤ b
def deedsD (ds : List Deed) : PyData := .tuple (ds.map deedD)
theorem deedD_tup (d : Deed) : tupOnly (deedD d) = true := by cases d <;> simp [deedD, tupOnly, tupAll]
theorem deedsD_tup (ds : List Deed) : tupOnly (deedsD ds) = true := by
  simp only [deedsD, tupOnly, tupAll_iff]
  intro d hd
  obtain ⟨x, _, rfl⟩ := List.mem_map.mp hd
  exact deedD_tup x
def scaleR (r : List Int) (k : Int) : List Int := (List.range r.length).map fun c => k * r.getD c 0
def sumRow (r t : List Int) : List Int := (List.range r.length).map fun c => r.getD c 0 + t.getD c 0
def stepD (rs : List (List Int)) : Deed → List (List Int)
  | .swap i j => (rs.set i (rs.getD j [])).set j (rs.getD i [])
  | .turn i => rs.set i (scaleR (rs.getD i []) (-1))
  | .add i j k => rs.set i (sumRow (rs.getD i []) (scaleR (rs.getD j []) k))
theorem stepD_len (rs : List (List Int)) (d : Deed) : (stepD rs d).length = rs.length := by
  cases d <;> simp [stepD]
theorem mem_set {α : Type} {l : List α} {i : Nat} {x y : α} (h : y ∈ l.set i x) : y = x ∨ y ∈ l := by
  rcases List.mem_or_eq_of_mem_set h with h | h
  · exact Or.inr h
  · exact Or.inl h
theorem stepD_wide {rs : List (List Int)} {w : Nat} {d : Deed} {m : Nat} {b : Int} (h : ∀ r ∈ rs, r.length = w) (hm : rs.length = m) (hd : OkD m b d) :
    ∀ r ∈ stepD rs d, r.length = w := by
  intro r hr
  cases d with
  | swap i j =>
    obtain ⟨h1, h2, _⟩ := hd
    rcases mem_set hr with rfl | hr
    · exact h _ (getD_mem (by omega))
    · rcases mem_set hr with rfl | hr
      · exact h _ (getD_mem (by omega))
      · exact h r hr
  | turn i =>
    have h1 : i < m := hd
    rcases mem_set hr with rfl | hr
    · simp only [scaleR, List.length_map, List.length_range]
      exact h _ (getD_mem (by omega))
    · exact h r hr
  | add i j k =>
    obtain ⟨h1, h2, _⟩ := hd
    rcases mem_set hr with rfl | hr
    · simp only [sumRow, List.length_map, List.length_range]
      exact h _ (getD_mem (by omega))
    · exact h r hr
theorem dpa_set {K : PySem.W.Frag} {H : Hp} : ∀ (ds : List PyData) (xs : List V) (i : Nat) (v : V) (d : PyData),
    DpAll K H xs ds → Dp K H v d → DpAll K H (xs.set i v) (ds.set i d)
  | [], xs, i, v, d, h, e => by rw [dpa_nil h]; exact .nil
  | d0 :: ds, xs, i, v, d, h, e => by
    obtain ⟨x, vs, rfl, h1, h2⟩ := dpa_cons h
    cases i with
    | zero => exact .cons e h2
    | succ i => exact .cons h1 (dpa_set ds vs i v d h2 e)
theorem map_set {α β : Type} (f : α → β) (l : List α) (i : Nat) (x : α) : (l.set i x).map f = (l.map f).set i (f x) := List.map_set
/-- the greatest number grows by a deed -/
theorem stepD_bd {rs : List (List Int)} {d : Deed} {m : Nat} {b c : Int} (hb : 0 ≤ b) (hc : 1 ≤ c) (h : Bs b rs) (hm : rs.length = m) (hd : OkD m c d) :
    Bs (b * (c + 1)) (stepD rs d) := by
  have e : b * (c + 1) = b * c + b := by rw [Int.mul_add, Int.mul_one]
  have hbc : 0 ≤ b * c := Int.mul_nonneg hb (by omega)
  have hbb : b ≤ b * c := by
    have := Int.mul_le_mul_of_nonneg_left hc hb
    rw [Int.mul_one] at this
    exact this
  have up : ∀ r, Bd b r → Bd (b * (c + 1)) r := fun r hr x hx => by
    have := hr x hx
    rw [e]
    omega
  intro r hr
  cases d with
  | swap i j =>
    obtain ⟨h1, h2, _⟩ := hd
    rcases mem_set hr with rfl | hr
    · exact up _ (h _ (getD_mem (by omega)))
    · rcases mem_set hr with rfl | hr
      · exact up _ (h _ (getD_mem (by omega)))
      · exact up _ (h r hr)
  | turn i =>
    have h1 : i < m := hd
    rcases mem_set hr with rfl | hr
    · intro x hx
      obtain ⟨k, _, rfl⟩ := List.mem_map.mp hx
      have := (h _ (getD_mem (d := []) (show i < rs.length by omega))).at hb k
      rw [e]
      omega
    · exact up _ (h r hr)
  | add i j k =>
    obtain ⟨h1, h2, _, k1, k2⟩ := hd
    rcases mem_set hr with rfl | hr
    · intro x hx
      obtain ⟨n, hn, rfl⟩ := List.mem_map.mp hx
      have a1 := (h _ (getD_mem (d := []) (show i < rs.length by omega))).at hb n
      have a2 : -(b * c) ≤ (scaleR (rs.getD j []) k).getD n 0 ∧ (scaleR (rs.getD j []) k).getD n 0 ≤ b * c := by
        refine Bd.at ?_ hbc n
        intro y hy
        obtain ⟨q, _, rfl⟩ := List.mem_map.mp hy
        have a3 := (h _ (getD_mem (d := []) (show j < rs.length by omega))).at hb q
        have := mul_bd (by omega) hb ⟨k1, k2⟩ a3
        rw [Int.mul_comm c b] at this
        exact this
      rw [e]
      omega
    · exact up _ (h r hr)
end Gd
namespace Gd
open PySem PySem.Spec PyProof.Rows L2
theorem ixN_of {n i : Nat} (h : i < n) : ixN n (i : Int) = some i := by
  unfold ixN
  rw [if_pos (by omega), if_pos (by omega)]
  simp
end Gd
namespace Gd
open PySem PySem.Spec PyProof.Rows L2
/-- [e for x in l], l a list that stays -/
theorem lcl {K : PySem.W.Frag} {te : TE} {vs : List Nat} {σ : L2.St} {H : Hp} {D : Addr} {Qd : Hp → Prop} {j : Nat} {a : Addr} {xs : List V} (f : Nat → PyData) (hD : H D = none)
    (hx : SqL K H a xs) (hn : xs.length ≤ 50000)
    (ht : ∀ i, i < xs.length → tupOnly (f i) = true)
    (hw : ∀ x, wipe ((wipe σ vs).set j (some x)) vs = wipe σ vs)
    (hs : ∀ (i : Nat) (x : V) (H1 : Hp) (Q : VK), xs[i]? = some x → Same H H1 →
      (∀ y H2, Same H1 H2 → Dp K H2 y (f i) → Q y H2) →
      te ((wipe σ vs).set j (some x)) H1 Q)
    (hd : ∀ H' ys, Same H H' → H' D = some (.lst ys) → DpAll K H' ys ((List.range xs.length).map f) → Qd H') :
    ∃ W : Nat → Nat → Hp → Prop, (∃ m, W 0 m (upd H D (.lst []))) ∧ ∀ i m H, W i m H →
      ((Itl K a).stop i H ∧ Qd H) ∨ ((Itl K a).go i H ∧ ∃ Nx : Hp → Prop,
        (∀ H', Nx H' → ∃ m', m' < m ∧ W (i + 1) m' H') ∧
        ∀ x H', (Itl K a).yld i H x H' → gName j x (wipe σ vs) H' fun σ2 H2 =>
          wipe σ2 vs = wipe σ vs ∧ tYes σ2 H2 fun b H3 =>
            if b = true then te σ2 H3 fun y H4 => ∃ acc, H4 D = some (.lst acc) ∧
              acc.length < sizeLine ∧ Nx (upd H4 D (.lst (acc ++ [y]))) else Nx H3) := by
  refine lc_list (xs := xs) (Lw K H f D) (Lw.start hD) (fun i H' _ p => sql_same p.1 hx) ?_ ?_
  · intro i x H' hi p
    have hlt := (List.getElem?_eq_some_iff.mp hi).1
    refine ⟨hw _, ?_⟩
    unfold tYes
    dsimp only
    rw [if_pos rfl]
    exact hs i x H' _ hi p.1 fun y H2 e hy => Lw.turn hD (tupOnly_le ht hlt) p e hy (by omega)
  · rintro H' ⟨h0, ys, h1, h2⟩
    exact hd H' ys h0 h1 h2
/-! ### a list of lists of numbers, one's own -/
def NLp (H0 H : Hp) (D : Addr) (rs : List (List Int)) (ps : List Addr) : Prop :=
  H D = some (.lst (ps.map V.ref)) ∧ ps.length = rs.length ∧ D ∉ ps ∧ H0 D = none ∧ (∀ p ∈ ps, H0 p = none) ∧
  (∀ (i j : Nat) (p : Addr), ps[i]? = some p → ps[j]? = some p → i = j) ∧
  (∀ (i : Nat) (p : Addr), ps[i]? = some p → H p = some (.lst ((rs.getD i []).map V.int))) ∧ Same H0 H
def NL (H0 H : Hp) (D : Addr) (rs : List (List Int)) : Prop := ∃ ps, NLp H0 H D rs ps
theorem NL.start {H : Hp} {D : Addr} (h : H D = none) : NL H (upd H D (.lst [])) D [] :=
  ⟨[], upd_same, rfl, List.not_mem_nil, h, (fun p hp => nomatch hp), (fun i j p e => nomatch e), (fun i p e => nomatch e), Same.new h⟩
theorem NL.same {H0 H H' : Hp} {D : Addr} {rs : List (List Int)} (h : NL H0 H D rs) (e : Same H H') : NL H0 H' D rs := by
  obtain ⟨ps, a1, a2, a3, a4, a5, a6, a7, a8⟩ := h
  exact ⟨ps, e _ _ a1, a2, a3, a4, a5, a6, fun i p hp => e _ _ (a7 i p hp), a8.trans e⟩
theorem NL.base {H0 H : Hp} {D : Addr} {rs : List (List Int)} (h : NL H0 H D rs) : Same H0 H := by
  obtain ⟨ps, _, _, _, _, _, _, _, a8⟩ := h
  exact a8
/-- one more row behind -/
theorem NL.push {H0 H : Hp} {D l : Addr} {rs : List (List Int)} {r : List Int} (h : NL H0 H D rs) (nl : H l = none) :
    ∃ ps : List Addr, upd H l (.lst (r.map V.int)) D = some (.lst (ps.map V.ref)) ∧ ps.length = rs.length ∧
      NL H0 (upd (upd H l (.lst (r.map V.int))) D (.lst (ps.map V.ref ++ [.ref l]))) D (rs ++ [r]) := by
  obtain ⟨ps, a1, a2, a3, a4, a5, a6, a7, a8⟩ := h
  have hDl : D ≠ l := ne_of_none a1 nl
  have l0 : H0 l = none := a8.free nl
  have lps : ∀ (i : Nat) (p : Addr), ps[i]? = some p → p ≠ l := fun i p hp => ne_of_none (a7 i p hp) nl
  refine ⟨ps, by rw [upd_ne hDl]; exact a1, a2, ps ++ [l], ?_, ?_, ?_, a4, ?_, ?_, ?_, ?_⟩
  · rw [upd_same, List.map_append]
    rfl
  · rw [List.length_append, List.length_append, a2]
    rfl
  · intro hm
    rcases List.mem_append.mp hm with h | h
    · exact a3 h
    · exact hDl (List.mem_singleton.mp h)
  · intro p hp
    rcases List.mem_append.mp hp with h | h
    · exact a5 p h
    · rw [List.mem_singleton.mp h]
      exact l0
  · have at_ : ∀ (i : Nat) (p : Addr), (ps ++ [l])[i]? = some p → (i < ps.length ∧ ps[i]? = some p) ∨ (i = ps.length ∧ p = l) := by
      intro i p hp
      by_cases hi : i < ps.length
      · rw [List.getElem?_append_left hi] at hp
        exact Or.inl ⟨hi, hp⟩
      · rw [List.getElem?_append_right (by omega)] at hp
        have : i - ps.length = 0 := by
          cases hq : i - ps.length with
          | zero => rfl
          | succ n => rw [hq] at hp; simp at hp
        rw [this] at hp
        simp at hp
        exact Or.inr ⟨by omega, hp.symm⟩
    intro i j p hi hj
    rcases at_ i p hi with ⟨b1, b2⟩ | ⟨b1, b2⟩ <;> rcases at_ j p hj with ⟨c1, c2⟩ | ⟨c1, c2⟩
    · exact a6 i j p b2 c2
    · exact absurd c2 (lps i p b2)
    · exact absurd b2 (lps j p c2)
    · omega
  · intro i p hp
    by_cases hi : i < ps.length
    · rw [List.getElem?_append_left hi] at hp
      have hne : p ≠ D := fun z => a3 (z ▸ List.mem_of_getElem? hp)
      rw [upd_ne hne, upd_ne (lps i p hp), a7 i p hp, List.getD_eq_getElem?_getD, List.getD_eq_getElem?_getD, List.getElem?_append_left (by omega)]
    · rw [List.getElem?_append_right (by omega)] at hp
      have e0 : i - ps.length = 0 := by
        cases hq : i - ps.length with
        | zero => rfl
        | succ n => rw [hq] at hp; simp at hp
      rw [e0] at hp
      simp at hp
      subst hp
      rw [upd_ne hDl.symm, upd_same, List.getD_eq_getElem?_getD, List.getElem?_append_right (by omega)]
      have e1 : i - rs.length = 0 := by omega
      rw [e1]
      rfl
  · exact Same.mut (Same.mut a8 l0) a4
theorem NL.row {H0 H : Hp} {D : Addr} {rs : List (List Int)} {i : Nat} (h : NL H0 H D rs) (hi : i < rs.length) :
    ∃ (ps : List Addr) (p : Addr), H D = some (.lst (ps.map V.ref)) ∧ ps.length = rs.length ∧ (ps.map V.ref)[i]? = some (.ref p) ∧ H p = some (.lst ((rs.getD i []).map V.int)) ∧
      ∀ (z : Int) (k : Nat), NL H0 (upd H p (.lst (((rs.getD i []).map V.int).set k (.int z)))) D (rs.set i ((rs.getD i []).set k z)) := by
  obtain ⟨ps, a1, a2, a3, a4, a5, a6, a7, a8⟩ := h
  have hlt : i < ps.length := by omega
  have ep : ps[i]? = some ps[i] := List.getElem?_eq_getElem hlt
  have hp0 := a5 _ (List.getElem_mem hlt)
  have hDp : D ≠ ps[i] := fun z => a3 (z ▸ List.getElem_mem hlt)
  refine ⟨ps, ps[i], a1, a2, by rw [List.getElem?_map, ep]; rfl, a7 i _ ep, ?_⟩
  intro z k
  refine ⟨ps, by rw [upd_ne hDp]; exact a1, by rw [List.length_set]; exact a2, a3, a4, a5, a6, ?_, Same.mut a8 hp0⟩
  intro j q hq
  by_cases hij : j = i
  · subst hij
    have eq : q = ps[j] := Option.some.inj (hq.symm.trans ep)
    rw [eq, upd_same, List.getD_eq_getElem?_getD (l := rs.set _ _), List.getElem?_set_self hi, ← List.map_set]
    rfl
  · have hne : q ≠ ps[i] := fun e => hij (a6 j i q hq (by rw [e]; exact ep))
    rw [upd_ne hne, a7 j q hq, List.getD_eq_getElem?_getD, List.getD_eq_getElem?_getD, List.getElem?_set_ne (fun e => hij e.symm)]
theorem NL.swap {H0 H : Hp} {D : Addr} {rs : List (List Int)} {i j : Nat} (h : NL H0 H D rs) (hi : i < rs.length) (hj : j < rs.length) (hij : i ≠ j) :
    ∃ (ps : List Addr) (p q : Addr), H D = some (.lst (ps.map V.ref)) ∧ ps.length = rs.length ∧ (ps.map V.ref)[i]? = some (.ref p) ∧ (ps.map V.ref)[j]? = some (.ref q) ∧
      ∀ o, NL H0 (upd (upd H D o) D (.lst (((ps.map V.ref).set i (.ref q)).set j (.ref p)))) D ((rs.set i (rs.getD j [])).set j (rs.getD i [])) := by
  obtain ⟨ps, a1, a2, a3, a4, a5, a6, a7, a8⟩ := h
  have hli : i < ps.length := by omega
  have hlj : j < ps.length := by omega
  have ei : ps[i]? = some ps[i] := List.getElem?_eq_getElem hli
  have ej : ps[j]? = some ps[j] := List.getElem?_eq_getElem hlj
  refine ⟨ps, ps[i], ps[j], a1, a2, by rw [List.getElem?_map, ei]; rfl, by rw [List.getElem?_map, ej]; rfl, ?_⟩
  intro o
  have at_ : ∀ (k : Nat) (p : Addr), ((ps.set i ps[j]).set j ps[i])[k]? = some p → (k = j ∧ p = ps[i]) ∨ (k = i ∧ k ≠ j ∧ p = ps[j]) ∨ (k ≠ i ∧ k ≠ j ∧ ps[k]? = some p) := by
    intro k p hk
    by_cases kj : k = j
    · subst kj
      rw [List.getElem?_set_self (by rw [List.length_set]; omega)] at hk
      exact Or.inl ⟨rfl, (Option.some.inj hk).symm⟩
    · rw [List.getElem?_set_ne (fun e => kj e.symm)] at hk
      by_cases ki : k = i
      · subst ki
        rw [List.getElem?_set_self (by omega)] at hk
        exact Or.inr (Or.inl ⟨rfl, kj, (Option.some.inj hk).symm⟩)
      · rw [List.getElem?_set_ne (fun e => ki e.symm)] at hk
        exact Or.inr (Or.inr ⟨ki, kj, hk⟩)
  have mem_ : ∀ p ∈ (ps.set i ps[j]).set j ps[i], p ∈ ps := by
    intro p hp
    rcases List.mem_or_eq_of_mem_set hp with h | h
    · rcases List.mem_or_eq_of_mem_set h with h | h
      · exact h
      · rw [h]
        exact List.getElem_mem hlj
    · rw [h]
      exact List.getElem_mem hli
  refine ⟨(ps.set i ps[j]).set j ps[i], ?_, by simp [a2], fun hm => a3 (mem_ D hm), a4, fun p hp => a5 p (mem_ p hp), ?_, ?_, Same.mut (Same.mut a8 a4) a4⟩
  · rw [upd_same, List.map_set, List.map_set]
  · intro k l p hk hl
    rcases at_ k p hk with ⟨b1, b2⟩ | ⟨b1, b0, b2⟩ | ⟨b1, b0, b2⟩ <;> rcases at_ l p hl with ⟨c1, c2⟩ | ⟨c1, c0, c2⟩ | ⟨c1, c0, c2⟩
    · omega
    · have := a6 i j p (by rw [b2]; exact ei) (by rw [c2]; exact ej)
      omega
    · have := a6 i l p (by rw [b2]; exact ei) c2
      omega
    · have := a6 i j p (by rw [c2]; exact ei) (by rw [b2]; exact ej)
      omega
    · omega
    · have := a6 j l p (by rw [b2]; exact ej) c2
      omega
    · have := a6 i k p (by rw [c2]; exact ei) b2
      omega
    · have := a6 j k p (by rw [c2]; exact ej) b2
      omega
    · exact a6 k l p b2 c2
  · intro k p hk
    have hne : p ≠ D := fun z => a3 (z ▸ mem_ p (List.mem_of_getElem? hk))
    rw [upd_ne hne, upd_ne hne]
    rcases at_ k p hk with ⟨b1, b2⟩ | ⟨b1, b0, b2⟩ | ⟨b1, b0, b2⟩
    · rw [b2, a7 i _ ei, b1, List.getD_eq_getElem?_getD (l := List.set _ _ _), List.getElem?_set_self (by rw [List.length_set]; omega)]
      rfl
    · rw [b2, a7 j _ ej, List.getD_eq_getElem?_getD (l := List.set _ _ _), List.getElem?_set_ne (fun e => b0 e.symm), b1, List.getElem?_set_self (by omega)]
      rfl
    · rw [a7 k p b2, List.getD_eq_getElem?_getD, List.getD_eq_getElem?_getD, List.getElem?_set_ne (fun e => b0 e.symm), List.getElem?_set_ne (fun e => b1 e.symm)]
end Gd
namespace Gd
open PySem PySem.Spec PyProof.Rows L2
theorem ixN_of0 {n i : Nat} (h : i < n) : ixN n (0 + (i : Int)) = some i := by
  rw [Int.zero_add]
  exact ixN_of h
def mix (old new : Nat → Int) (w c : Nat) : List Int := (List.range w).map fun k => if k < c then new k else old k
theorem mix_len {old new : Nat → Int} {w c : Nat} : (mix old new w c).length = w := by simp [mix]
theorem mix_zero {r : List Int} {new : Nat → Int} {w : Nat} (h : r.length = w) : mix (fun k => r.getD k 0) new w 0 = r := by
  subst h
  unfold mix
  conv => rhs; rw [← row_id r]
  refine List.map_congr_left ?_
  intro k _
  rw [if_neg (by omega)]
theorem mix_full {old new : Nat → Int} {w : Nat} : mix old new w w = (List.range w).map new := by
  unfold mix
  refine List.map_congr_left ?_
  intro k hk
  rw [if_pos (List.mem_range.mp hk)]
theorem mix_set {old new : Nat → Int} {w c : Nat} (h : c < w) : (mix old new w c).set c (new c) = mix old new w (c + 1) := by
  apply List.ext_getElem
  · simp [mix]
  · intro k h1 h2
    rw [List.getElem_set]
    simp only [mix, List.getElem_map, List.getElem_range]
    split
    · rename_i e
      subst e
      rw [if_pos (by omega)]
    · rename_i e
      by_cases hk : k < c
      · rw [if_pos hk, if_pos (by omega)]
      · rw [if_neg hk, if_neg (by omega)]
theorem mix_at {old new : Nat → Int} {w c k : Nat} (h : k < w) : (mix old new w c).getD k 0 = if k < c then new k else old k := by
  unfold mix
  rw [getD_range h]
theorem getD_set_self {rs : List (List Int)} {i : Nat} {r : List Int} (h : i < rs.length) : (rs.set i r).getD i [] = r := by
  rw [List.getD_eq_getElem?_getD, List.getElem?_set_self h]
  rfl
theorem getD_set_ne {rs : List (List Int)} {i j : Nat} {r : List Int} (h : i ≠ j) : (rs.set i r).getD j [] = rs.getD j [] := by
  rw [List.getD_eq_getElem?_getD, List.getElem?_set_ne h, List.getD_eq_getElem?_getD]
theorem set_self {rs : List (List Int)} {i : Nat} (h : i < rs.length) : rs.set i (rs.getD i []) = rs := by
  apply List.ext_getElem
  · simp
  · intro k h1 h2
    rw [List.getElem_set]
    split
    · rename_i e
      subst e
      rw [List.getD_eq_getElem?_getD, List.getElem?_eq_getElem h]
      rfl
    · rfl
end Gd
namespace Gd
open PySem PySem.Spec PyProof.Rows L2
/-! ### reversed(t), t a tuple -/
section
variable {X : Cx} {K : PySem.W.Frag}
theorem pi_revK {tg e : Expr} {te : TE} {p pos : Pos} (hK : X.K = K) (hg : Gl X "reversed") (hm : X.mg "reversed" = none) (he : PE X e te)
    (hs : starEach [e] X.env = (false, eval e X.env) :: starEach [] X.env := by rfl) :
    PI X tg (.Call (.Name "reversed" p) [e] [] pos) (RT.iRevA K te) := by
  subst hK; exact RT.pi_revA hg hm he hs
end
section
variable {K : PySem.W.Frag} {te : TE} {vs : List Nat} {σ : L2.St} {H : Hp} {D : Addr} {Qd : Hp → Prop}
/-- [e for x in reversed(t)], t a tuple -/
theorem lctR {j : Nat} {a : Addr} {xs : List V} (f : Nat → PyData) (hD : H D = none)
    (hx : SqT K H a xs) (hn : xs.length ≤ 50000)
    (ht : ∀ i, i < xs.length → tupOnly (f i) = true)
    (hw : ∀ x, wipe ((wipe σ vs).set j (some x)) vs = wipe σ vs)
    (hs : ∀ (i : Nat) (x : V) (H1 : Hp) (Q : VK), i < xs.length → xs[xs.length - 1 - i]? = some x → Same H H1 →
      (∀ y H2, Same H1 H2 → Dp K H2 y (f i) → Q y H2) →
      te ((wipe σ vs).set j (some x)) H1 Q)
    (hd : ∀ H' ys, Same H H' → H' D = some (.lst ys) → DpAll K H' ys ((List.range xs.length).map f) → Qd H') :
    ∃ W : Nat → Nat → Hp → Prop, (∃ m, W 0 m (upd H D (.lst []))) ∧ ∀ i m H, W i m H →
      ((RT.ItvT K a xs.length).stop i H ∧ Qd H) ∨ ((RT.ItvT K a xs.length).go i H ∧ ∃ Nx : Hp → Prop,
        (∀ H', Nx H' → ∃ m', m' < m ∧ W (i + 1) m' H') ∧
        ∀ x H', (RT.ItvT K a xs.length).yld i H x H' → gName j x (wipe σ vs) H' fun σ2 H2 =>
          wipe σ2 vs = wipe σ vs ∧ tYes σ2 H2 fun b H3 =>
            if b = true then te σ2 H3 fun y H4 => ∃ acc, H4 D = some (.lst acc) ∧
              acc.length < sizeLine ∧ Nx (upd H4 D (.lst (acc ++ [y]))) else Nx H3) := by
  refine ⟨fun i m H' => m = xs.length - i ∧ i ≤ xs.length ∧ Lw K H f D i H',
    ⟨xs.length, rfl, Nat.zero_le _, Lw.start hD⟩, ?_⟩
  rintro i m H' ⟨rfl, hi, p⟩
  have qx := sqt_same p.1 hx
  by_cases hlt : i < xs.length
  · have hj : xs.length - 1 - i < xs.length := by omega
    have e1 : xs[xs.length - 1 - i]? = some xs[xs.length - 1 - i] := List.getElem?_eq_getElem hj
    refine .inr ⟨⟨hlt, xs, _, qx, e1⟩, Lw K H f D (i + 1),
      fun H2 p2 => ⟨xs.length - (i + 1), by omega, rfl, hlt, p2⟩, ?_⟩
    intro v H2 hy
    obtain ⟨rfl, f1⟩ := hy
    refine ⟨hw _, ?_⟩
    unfold tYes
    dsimp only
    rw [if_pos rfl]
    refine hs i v _ _ hlt (f1 xs qx) p.1 ?_
    intro y H3 e hy
    exact Lw.turn hD (tupOnly_le ht hlt) p e hy (by omega)
  · have e : i = xs.length := by omega
    subst e
    obtain ⟨h0, ys, h1, h2⟩ := p
    exact .inl ⟨Nat.le_refl _, hd H' ys h0 h1 h2⟩
end
/-! ### contrary deeds -/
def conD : Deed → Deed
  | .swap i j => .swap i j
  | .turn i => .turn i
  | .add i j k => .add i j (-k)
def backD (ds : List Deed) : List Deed := ds.reverse.map conD
theorem conD_con (d : Deed) : conD (conD d) = d := by cases d <;> simp [conD]
theorem backD_back (ds : List Deed) : backD (backD ds) = ds := by
  unfold backD
  rw [← List.map_reverse, List.reverse_reverse, List.map_map]
  conv => rhs; rw [← List.map_id ds]
  refine List.map_congr_left ?_
  intro d _
  exact conD_con d
theorem conD_ok {m : Nat} {b : Int} {d : Deed} (h : OkD m b d) : OkD m b (conD d) := by
  cases d with
  | swap i j => exact h
  | turn i => exact h
  | add i j k => exact ⟨h.1, h.2.1, h.2.2.1, by have := h.2.2.2; omega, by have := h.2.2.2; omega⟩
theorem backD_ok {m : Nat} {b : Int} {ds : List Deed} (h : ∀ d ∈ ds, OkD m b d) : ∀ d ∈ backD ds, OkD m b d := by
  intro d hd
  obtain ⟨x, hx, rfl⟩ := List.mem_map.mp hd
  exact conD_ok (h x (List.mem_reverse.mp hx))
theorem backD_len (ds : List Deed) : (backD ds).length = ds.length := by simp [backD]
theorem deed_at {ds : List Deed} {i : Nat} {x : Deed} (h : ds[i]? = some x) {e : Deed} : ds.getD i e = x := by
  rw [List.getD_eq_getElem?_getD, h]
  rfl
theorem backD_range (ds : List Deed) : (List.range ds.length).map (fun i => deedD (conD (ds.getD (ds.length - 1 - i) (.turn 0)))) = (backD ds).map deedD := by
  unfold backD
  apply List.ext_getElem
  · simp
  · intro i h1 h2
    have hi : i < ds.length := by simpa using h1
    simp only [List.getElem_map, List.getElem_range, List.getElem_reverse]
    rw [List.getD_eq_getElem?_getD, List.getElem?_eq_getElem (by omega)]
    rfl
end Gd
namespace Gd
open PySem PySem.Spec PyProof.Rows L2
/-! ### is of truths; all; xs[::-1] -/
section
variable {X : Cx} {K : PySem.W.Frag}
theorem op_isB : OpR X (compareOp .Is) (fun x y H Q => ∃ m n, x = .bl m ∧ y = .bl n ∧ Q (.bl (decide (m = n))) H) := by
  intro pins s σ H x y v u Q I rx ry h
  obtain ⟨m, n, rfl, rfl, q⟩ := h
  cases (show v = Value.bool m from rx)
  cases (show u = Value.bool n from ry)
  by_cases e : m = n
  · subst e
    exact wpAny_is_self rfl ⟨.bl true, H, I, rfl, by simpa using q⟩
  · exact wpAny_is_other rfl (fun z => e (Value.bool.inj z)) ⟨.bl false, H, I, rfl, by simpa [e] using q⟩
theorem op_isNotB : OpR X (compareOp .IsNot) (fun x y H Q => ∃ m n, x = .bl m ∧ y = .bl n ∧ Q (.bl (!decide (m = n))) H) := by
  intro pins s σ H x y v u Q I rx ry h
  obtain ⟨m, n, rfl, rfl, q⟩ := h
  cases (show v = Value.bool m from rx)
  cases (show u = Value.bool n from ry)
  by_cases e : m = n
  · subst e
    exact wpAny_isNot_self rfl ⟨.bl false, H, I, rfl, by simpa using q⟩
  · exact wpAny_isNot_other rfl (fun z => e (Value.bool.inj z)) ⟨.bl true, H, I, rfl, by simpa [e] using q⟩
theorem call_allK (hK : X.K = K) (hc : X.calm = true) : CallR X (.builtin "all") (rAll K) := by
  subst hK; exact cr_all hc
theorem pe_revLK {e : Expr} {te : TE} {k : Nat} {p1 p2 p3 pos : Pos} (hK : X.K = K) (he : PE X e te) :
    PE X (.Subscript e (.Slice none none (some (.UnaryOp .USub (.Constant (.int 1) k p1) p2)) p3) pos) (tRevL K te) := by
  subst hK; exact pe_revL he
end
end Gd
namespace Gd
open PySem PySem.Spec PyProof.Rows L2
/-! ### deeds and products -/
theorem ext_getD {α : Type} {l t : List α} (d : α) (hl : l.length = t.length) (h : ∀ k, k < l.length → l.getD k d = t.getD k d) : l = t := by
  apply List.ext_getElem hl
  intro k h1 h2
  have e := h k h1
  rw [List.getD_eq_getElem?_getD, List.getD_eq_getElem?_getD, List.getElem?_eq_getElem h1, List.getElem?_eq_getElem h2] at e
  exact e
theorem getD_set {α : Type} {l : List α} {i k : Nat} {x d : α} (hi : i < l.length) : (l.set i x).getD k d = if k = i then x else l.getD k d := by
  rw [List.getD_eq_getElem?_getD, List.getD_eq_getElem?_getD]
  by_cases h : k = i
  · subst h
    rw [List.getElem?_set_self hi, if_pos rfl]
    rfl
  · rw [List.getElem?_set_ne (fun e => h e.symm), if_neg h]
theorem getD_out {α : Type} {l : List α} {k : Nat} {d : α} (h : l.length ≤ k) : l.getD k d = d := by
  rw [List.getD_eq_getElem?_getD, List.getElem?_eq_none h]
  rfl
theorem scaleR_len {r : List Int} {k : Int} : (scaleR r k).length = r.length := by simp [scaleR]
theorem sumRow_len {r t : List Int} : (sumRow r t).length = r.length := by simp [sumRow]
theorem scaleR_at {r : List Int} {k : Int} {c : Nat} : (scaleR r k).getD c 0 = k * r.getD c 0 := by
  by_cases h : c < r.length
  · unfold scaleR
    rw [getD_range h]
  · rw [getD_out (by rw [scaleR_len]; omega), getD_out (by omega), Int.mul_zero]
theorem sumRow_at {r t : List Int} {c : Nat} (h : c < r.length) : (sumRow r t).getD c 0 = r.getD c 0 + t.getD c 0 := by
  unfold sumRow
  rw [getD_range h]
theorem scaleR_twice {r : List Int} : scaleR (scaleR r (-1)) (-1) = r := by
  refine ext_getD 0 (by rw [scaleR_len, scaleR_len]) fun k _ => ?_
  rw [scaleR_at, scaleR_at]
  omega
theorem sum_back {r t : List Int} {k : Int} : sumRow (sumRow r (scaleR t k)) (scaleR t (-k)) = r := by
  refine ext_getD 0 (by rw [sumRow_len, sumRow_len]) fun c hc => ?_
  rw [sumRow_len, sumRow_len] at hc
  rw [sumRow_at (by rw [sumRow_len]; exact hc), sumRow_at hc, scaleR_at, scaleR_at, Int.neg_mul]
  omega
theorem mulRow_scale {r : List Int} {w : Nat} {ts : List (List Int)} {k : Int} : mulRow (scaleR r k) w ts = scaleR (mulRow r w ts) k := by
  refine ext_getD 0 (by rw [scaleR_len, mulRow_len, mulRow_len]) fun c hc => ?_
  rw [mulRow_len] at hc
  rw [scaleR_at, mulRow_at hc, mulRow_at hc, scaleR_len, ← sumR_mull]
  refine sumR_congr fun i _ => ?_
  rw [scaleR_at, Int.mul_assoc]
theorem mulRow_sum {r t : List Int} {w : Nat} {ts : List (List Int)} (h : r.length = t.length) : mulRow (sumRow r t) w ts = sumRow (mulRow r w ts) (mulRow t w ts) := by
  refine ext_getD 0 (by rw [sumRow_len, mulRow_len, mulRow_len]) fun c hc => ?_
  rw [mulRow_len] at hc
  rw [sumRow_at (by rw [mulRow_len]; exact hc), mulRow_at hc, mulRow_at hc, mulRow_at hc, sumRow_len, ← h, ← sumR_add]
  refine sumR_congr fun i hi => ?_
  rw [sumRow_at hi, Int.add_mul]
theorem stepD_mul {as ts : List (List Int)} {n w m : Nat} {b : Int} {d : Deed} (hw : ∀ r ∈ as, r.length = n) (hm : as.length = m) (hd : OkD m b d) :
    mulR (stepD as d) w ts = stepD (mulR as w ts) d := by
  cases d with
  | swap i j =>
    obtain ⟨h1, h2, _⟩ := hd
    simp only [stepD]
    rw [mulR_at (by omega), mulR_at (by omega), mulR_eq, mulR_eq, List.map_set, List.map_set]
  | turn i =>
    have h1 : i < m := hd
    simp only [stepD]
    rw [mulR_at (by omega), mulR_eq, mulR_eq, List.map_set, mulRow_scale]
  | add i j k =>
    obtain ⟨h1, h2, _⟩ := hd
    simp only [stepD]
    rw [mulR_at (by omega), mulR_at (by omega), mulR_eq, mulR_eq, List.map_set, mulRow_sum, mulRow_scale]
    rw [scaleR_len, hw _ (getD_mem (by omega)), hw _ (getD_mem (by omega))]
theorem stepD_con {rs : List (List Int)} {m : Nat} {b : Int} {d : Deed} (hm : rs.length = m) (hd : OkD m b d) : stepD (stepD rs d) (conD d) = rs := by
  cases d with
  | swap i j =>
    obtain ⟨h1, h2, h3⟩ := hd
    simp only [conD, stepD]
    have e1 : ((rs.set i (rs.getD j [])).set j (rs.getD i [])).getD j [] = rs.getD i [] := by
      rw [getD_set (by rw [List.length_set]; omega), if_pos rfl]
    have e2 : ((rs.set i (rs.getD j [])).set j (rs.getD i [])).getD i [] = rs.getD j [] := by
      rw [getD_set (by rw [List.length_set]; omega), if_neg h3, getD_set (by omega), if_pos rfl]
    rw [e1, e2]
    refine ext_getD [] (by simp) fun k hk => ?_
    rw [getD_set (by simp; omega)]
    by_cases e1 : k = j
    · subst e1
      rw [if_pos rfl]
    · rw [if_neg e1, getD_set (by simp; omega)]
      by_cases e2 : k = i
      · subst e2
        rw [if_pos rfl]
      · rw [if_neg e2, getD_set (by rw [List.length_set]; omega), if_neg e1, getD_set (by omega), if_neg e2]
  | turn i =>
    have h1 : i < m := hd
    simp only [conD, stepD]
    have e1 : (rs.set i (scaleR (rs.getD i []) (-1))).getD i [] = scaleR (rs.getD i []) (-1) := by
      rw [getD_set (by omega), if_pos rfl]
    rw [e1, scaleR_twice]
    refine ext_getD [] (by simp) fun k hk => ?_
    rw [getD_set (by simp; omega)]
    by_cases e : k = i
    · subst e
      rw [if_pos rfl]
    · rw [if_neg e, getD_set (by omega), if_neg e]
  | add i j n =>
    obtain ⟨h1, h2, h3, _⟩ := hd
    simp only [conD, stepD]
    have e1 : (rs.set i (sumRow (rs.getD i []) (scaleR (rs.getD j []) n))).getD i [] = sumRow (rs.getD i []) (scaleR (rs.getD j []) n) := by
      rw [getD_set (by omega), if_pos rfl]
    have e2 : (rs.set i (sumRow (rs.getD i []) (scaleR (rs.getD j []) n))).getD j [] = rs.getD j [] := by
      rw [getD_set (by omega), if_neg (fun e => h3 e.symm)]
    rw [e1, e2, sum_back]
    refine ext_getD [] (by simp) fun k hk => ?_
    rw [getD_set (by simp; omega)]
    by_cases e : k = i
    · subst e
      rw [if_pos rfl]
    · rw [if_neg e, getD_set (by omega), if_neg e]
theorem turn_turn {rs : List (List Int)} {w : Nat} (h : Tb w rs) : turnR rs.length (turnR w rs) = rs := by
  refine ext_getD [] (by rw [turn_len]) fun k hk => ?_
  rw [turn_len] at hk
  refine ext_getD 0 ?_ fun c hc => ?_
  · rw [turnR_eq, getD_range hk, List.length_map, turn_len, h.len hk]
  · rw [turnR_eq, getD_range hk, List.length_map, turn_len] at hc
    show ent (turnR rs.length (turnR w rs)) k c = ent rs k c
    rw [ent_turn hk (by rw [turn_len]; exact hc), ent_turn hc hk]
theorem unit_turn_ne {n i : Nat} (hi : i < n) : stepD (unitR n) (.turn i) ≠ unitR n := by
  intro e
  have hl : (unitR n).length = n := by simp [unitR]
  have h1 : ent (stepD (unitR n) (.turn i)) i i = -1 := by
    unfold ent
    simp only [stepD]
    rw [getD_set (by omega), if_pos rfl, scaleR_at]
    have := ent_unit hi hi
    unfold ent at this
    rw [this, if_pos rfl]
    rfl
  rw [e, ent_unit hi hi, if_pos rfl] at h1
  omega
theorem unit_add_ne {n i j : Nat} (hi : i < n) (hj : j < n) (hij : i ≠ j) : stepD (unitR n) (.add i j 1) ≠ unitR n := by
  intro e
  have hl : (unitR n).length = n := by simp [unitR]
  have hr : ((unitR n).getD i []).length = n := by
    unfold unitR
    rw [getD_range hi]
    simp [unitRow]
  have h1 : ent (stepD (unitR n) (.add i j 1)) i j = 1 := by
    have a1 := ent_unit hi hj
    have a2 := ent_unit hj hj
    unfold ent at a1 a2 ⊢
    simp only [stepD]
    rw [getD_set (by omega), if_pos rfl, sumRow_at (by omega), scaleR_at, a1, a2, if_pos rfl, if_neg (fun z => hij z.symm)]
    rfl
  rw [e, ent_unit hi hj, if_neg (fun z => hij z.symm)] at h1
  omega
end Gd
namespace Gd
open PySem PySem.Spec PyProof.Rows L2
/-! ### truth > int -/
theorem sub_int_bool : isSubtype (.type "int") (.type "bool") = pure false := by rw [isSubtype_type]; kernel_rfl
theorem gives_gt_bi (p : Bool) (j : Int) (u : Tok) : Gives (Builtin.«int.__gt__» ⟨[.bool p, .int j u], []⟩) (.val (Value.bool (decide ((if p = true then (1 : Int) else 0) > j)))) :=
  .of_wp fun M A E s Q h => by obtain ⟨hp, g, d, tk, os⟩ := s; wp_walk; exact ⟨_, rfl, h⟩
theorem gt_bi {prog : Program} {w : World} {A : Around} {E : Value → Shared → Prop} {s : Shared} {p : Bool} {j : Int} {u : Tok} {Q : Value → Shared → Prop}
    (h : Q (.bool (decide ((if p = true then (1 : Int) else 0) > j))) s) : wpAny (model prog w) A (compareOp .Gt (.bool p) (.int j u)) Q E s := by
  show wpAny (model prog w) A (richCompare .Gt (.bool p) (.int j u)) Q E s
  have ha := typeIs_bool' s p
  have hb := typeIs_int s j u
  simp only [richCompare, ha.oneThing_none, cmpInfo]
  try with_reducible refine wpAny_holding ?_
  refine wpAny_bind (wpAny_cRoomFor_or (.inl rfl) ?_)
  refine wpAny_bind (wpAny_typeOf ha (wpAny_bind (wpAny_typeOf hb ?_)))
  rw [if_pos (by decide)]
  refine wpAny_bind (wpAny_of_eq sub_int_bool ?_)
  simp only [Bool.false_eq_true, if_false, pure_bind]
  refine wpAny_bind (wpAny_tryCompare_slot ha F.slot_bool_gt ?_)
  exact call_gives F.slot_bool_gt ha F.entry_int_gt (F.args_int_gt_2 _ _) (gives_gt_bi p j u) ⟨(fun hq => nomatch hq), wpAny_pure h⟩
section
variable {X : Cx} {K : PySem.W.Frag}
/-- x > j, x an int or a truth -/
def rGtN : R2 := fun x y H Q => (∃ i j, x = .int i ∧ y = .int j ∧ Q (.bl (decide (j < i))) H) ∨ ∃ p j, x = .bl p ∧ y = .int j ∧ Q (.bl (decide (j < if p = true then (1 : Int) else 0))) H
theorem op_gtN : OpR X (compareOp .Gt) rGtN := by
  intro pins s σ H x y v u Q I rx ry h
  rcases h with h | ⟨p, j, rfl, rfl, q⟩
  · exact op_gt pins s σ H x y v u Q I rx ry h
  · cases (show v = Value.bool p from rx)
    obtain ⟨t, rfl⟩ := ry
    exact gt_bi ⟨.bl _, H, I, rfl, q⟩
end
/-! ### t[::-1], t a tuple -/
theorem adjust_rev (n : Nat) : Builtin.Slice.sliceAdjust none none (-1) (n : Int) = ((n : Int) - 1, -1) := by
  unfold Builtin.Slice.sliceAdjust
  simp
theorem places_rev (n : Nat) : Builtin.Slice.slicePlaces ((n : Int) - 1) (-1) (-1) = n := by
  unfold Builtin.Slice.slicePlaces
  have h1 : ¬ ((-1 : Int) > 0) := by omega
  simp only [h1, if_false]
  split <;> simp <;> omega
theorem pick_rev (xs : Array Value) : ((List.range xs.size).filterMap fun (m : Nat) => xs[(((xs.size : Nat) : Int) - 1 + (m : Int) * -1).toNat]?).toArray = xs.toList.reverse.toArray := by
  congr 1
  have e : (List.range xs.size).filterMap (fun (m : Nat) => xs[(((xs.size : Nat) : Int) - 1 + (m : Int) * -1).toNat]?) = (List.range xs.size).map (fun m => xs.toList.getD (xs.size - 1 - m) .none) := by
    have key : ∀ l : List Nat, (∀ m ∈ l, m < xs.size) → l.filterMap (fun (m : Nat) => xs[(((xs.size : Nat) : Int) - 1 + (m : Int) * -1).toNat]?) = l.map (fun m => xs.toList.getD (xs.size - 1 - m) .none) := by
      intro l
      induction l with
      | nil => intro _; rfl
      | cons m l ih =>
        intro hl
        have hm := hl m (List.mem_cons_self ..)
        have e1 : (((xs.size : Nat) : Int) - 1 + (m : Int) * -1).toNat = xs.size - 1 - m := by omega
        rw [List.filterMap_cons, List.map_cons, ih (fun z hz => hl z (List.mem_cons_of_mem _ hz)), e1, List.getD_eq_getElem?_getD, Array.getElem?_toList, Array.getElem?_eq_getElem (by omega)]
        rfl
    exact key _ fun m hm => List.mem_range.mp hm
  rw [e]
  apply List.ext_getElem
  · simp
  · intro i h1 h2
    have hi : i < xs.size := by simpa using h1
    simp only [List.getElem_map, List.getElem_range, List.getElem_reverse]
    rw [List.getD_eq_getElem?_getD, List.getElem?_eq_getElem (by rw [Array.length_toList]; omega)]
    simp
theorem getItem_rev {prog : Program} {w : World} {A : Around} {E : Value → Shared → Prop} {s : Shared} {t sl : Addr} {items : Array Value} {vl vu vs : Value} {Q : Value → Shared → Prop}
    (ht : IsTup s.heap t items) (hs : s.heap.IsSliceOf sl vl vu vs) (pl : IsPart vl none) (pu : IsPart vu none) (ps : IsPart vs (some (-1)))
    (h : Q (.ref s.heap.objs.size) { s with heap := s.heap.push { cls := .type "tuple", data := .seq items.toList.reverse.toArray } })
    (hsz : items.size ≤ sizeLine) : wpAny (model prog w) A (getItem (.ref t) (.ref sl)) Q E s := by
  have hok : sizeOk (.seq items.toList.reverse.toArray) := by
    show items.toList.reverse.toArray.size ≤ sizeLine
    simpa using hsz
  obtain ⟨os, hos, hcs, hds⟩ := id hs
  have hTs : s.TypeIs (.ref sl) "slice" := ⟨os, hos, hcs⟩
  unfold getItem
  try with_reducible refine wpAny_holding ?_
  first | refine wpAny_bind (wpAny_pure ?_) | skip
  refine wpAny_bind (wpAny_sequenceKey ht.typeIs (by decide) ?_)
  refine wpAny_bind (wpAny_callSpecial?_slot (name := Str.ofString "__getitem__") ht.typeIs PyProof.Rows.slot_tuple_getitem (wpAny_call_entry PyProof.Rows.slot_tuple_getitem ht.typeIs entry_tuple_getitem ?_ (args_tuple_getitem _ _)))
  show wpAny _ _ (Builtin.Tuple.tupleItemsOf (.ref t) >>= _) _ _ s
  refine wpAny_bind (tupleItemsOf_ ht ?_)
  refine wpAny_bind (wpAny_typeOf hTs ?_)
  rw [if_pos (by decide)]
  refine wpAny_bind ?_
  unfold Builtin.Slice.sliceApplied Builtin.Slice.sliceFields
  refine wpAny_bind (wpAny_bind (wpAny_field hos hds (x := vl) rfl (wpAny_bind (wpAny_field hos hds (x := vu) rfl (wpAny_bind (wpAny_field hos hds (x := vs) rfl (wpAny_pure ?_)))))))
  refine wpAny_bind (HT.slicePart_ ps ?_)
  show wpAny _ _ (if ((-1 : Int) == 0) = true then _ else _) _ _ s
  rw [if_neg (by decide)]
  refine wpAny_bind (HT.slicePart_ pl (wpAny_bind (HT.slicePart_ pu (wpAny_bind (wpAny_pure ?_)))))
  show wpAny _ _ (match Builtin.Slice.sliceAdjust none none (-1) (items.size : Int) with | (lo, hi) => pure (lo, (-1 : Int), Builtin.Slice.slicePlaces lo hi (-1))) _ _ s
  rw [adjust_rev]
  show wpAny _ _ (pure ((items.size : Int) - 1, (-1 : Int), Builtin.Slice.slicePlaces ((items.size : Int) - 1) (-1) (-1))) _ _ s
  rw [places_rev]
  refine wpAny_pure ?_
  show wpAny _ _ (if ((items.size : Int) - 1 == 0 && (-1 : Int) == 1 && items.size == items.size) = true then _ else _) _ _ s
  rw [if_neg (by simp), pick_rev]
  first
    | exact wpAny_bind (m := Builtin.Tuple.tupleExact _) (wpAny_newObj_type (wpAny_pure ⟨_, rfl, wpAny_pure h⟩) hok)
    | exact wpAny_bind (m := Builtin.Tuple.tupleExact _) (wpAny_newObj_type (wpAny_bind (wpAny_pure (wpAny_pure ⟨_, rfl, wpAny_pure h⟩))) hok)
    | exact wpAny_bind (wpAny_bind (m := Builtin.Tuple.tupleExact _) (wpAny_newObj_type (wpAny_pure (wpAny_pure ⟨_, rfl, wpAny_pure h⟩)) hok))
    | exact wpAny_bind (wpAny_bind (m := Builtin.Tuple.tupleExact _) (wpAny_newObj_type (wpAny_pure ⟨_, rfl, wpAny_pure h⟩) hok))
def tRevT (K : PySem.W.Frag) (te : TE) : TE := fun σ H Q => te σ H fun x H1 => ∃ a xs, x = .ref a ∧ SqT K H1 a xs ∧ ∀ p, H1 p = none → Q (.ref p) (upd H1 p (.tup xs.reverse))
theorem pe_revT {X : Cx} {e : Expr} {te : TE} {k : Nat} {p1 p2 p3 pos : Pos} (he : PE X e te) :
    PE X (.Subscript e (.Slice none none (some (.UnaryOp .USub (.Constant (.int 1) k p1) p2)) p3) pos) (tRevT X.K te) := by
  refine ⟨fun pins s σ H Q I h => Subscript_ (thn (he.run pins s σ H _ I h) fun v s1 hx => ?_)⟩
  obtain ⟨x, H1, I1, r1, a, xs, rfl, hq, q⟩ := hx
  cases r1
  have hm : PO X (some (.UnaryOp .USub (.Constant (.int 1) k p1) p2)) (tPart (tUn (rU fun i => .int (-i)) (tC (.int 1)))) := po_some (pe_un un_neg pe_int)
  refine wpAny_Slice (thn (po_none.run pins s1 σ H1 (fun o G => o = none ∧ G = H1) I1 ⟨rfl, rfl⟩) fun vl s2 hl => ?_)
  obtain ⟨o2, G2, I2, pl, eo, eG⟩ := hl
  subst eo eG
  refine thn (po_none.run pins s2 σ _ (fun o G => o = none ∧ G = G2) I2 ⟨rfl, rfl⟩) fun vu s3 hu => ?_
  obtain ⟨o3, G3, I3, pu, eo, eG⟩ := hu
  subst eo eG
  refine thn (hm.run pins s3 σ _ (fun o G => o = some (-1) ∧ G = G3) I3 ⟨1, rfl, -1, rfl, rfl, rfl⟩) fun vs s4 hv => ?_
  obtain ⟨o4, G4, I4, ps, eo, eG⟩ := hv
  subst eo eG
  have I5 : Inv X pins σ G4 { s4 with heap := s4.heap.push { cls := .type "slice", data := .fields #[vl, vu, vs] } } := I4.kept (t' := s4.toks) fun b o z => Heap.get?_push_of_some _ z
  obtain ⟨its, r, ht, hz⟩ := I5.tuple hq
  have hn := r.length
  refine tail_any (ops := [.ref a, .ref s4.heap.objs.size]) ht.typeIs (PyProof.Rows.slot_tuple_getitem.lookup) ?_ (by with_unfolding_all rfl)
  refine getItem_rev ht (Heap.IsSliceOf.new _ vl vu vs) pl pu ps ?_ (by rw [List.size_toArray]; omega)
  refine ⟨.ref _, _, I5.laid (t' := s4.toks) (o := .tup xs.reverse) (fun b o z => Heap.get?_push_of_some _ z) (Nat.le_refl _) ?_, rfl, q _ (I5.hok.fresh (Nat.le_refl _))⟩
  exact ⟨by rw [List.length_reverse]; omega, _, r.reverse, IsTup.new _ _⟩
theorem pe_revTK {X : Cx} {K : PySem.W.Frag} {e : Expr} {te : TE} {k : Nat} {p1 p2 p3 pos : Pos} (hK : X.K = K) (he : PE X e te) :
    PE X (.Subscript e (.Slice none none (some (.UnaryOp .USub (.Constant (.int 1) k p1) p2)) p3) pos) (tRevT K te) := by
  subst hK; exact pe_revT he
end Gd
namespace Gd
open PySem PySem.Spec PyProof.Rows L2
section
variable {X : Cx} {K : PySem.W.Frag}
theorem call_anyK (hK : X.K = K) (hc : X.calm = true) : CallR X (.builtin "any") (rAny K) := by
  subst hK; exact cr_any hc
theorem op_in_seqK (hK : X.K = K) : OpR X (compareOp .In) (rIn K false) := by subst hK; exact op_in_seq
theorem op_notIn_seqK (hK : X.K = K) : OpR X (compareOp .NotIn) (rIn K true) := by subst hK; exact op_notIn_seq
end
end Gd
namespace Gd
open PySem PySem.Spec PyProof.Rows L2
/-! ### a heap without one object -/
def hid (a : Addr) (H : Hp) : Hp := fun b => if b = a then none else H b
theorem hid_le {a : Addr} {H : Hp} : Same (hid a H) H := fun b o h => by
  unfold hid at h
  by_cases z : b = a
  · rw [if_pos z] at h; cases h
  · rw [if_neg z] at h; exact h
theorem hid_sb {a : Addr} {H H' : Hp} (e : Sb a H H') : Same (hid a H) (hid a H') := fun b o h => by
  unfold hid at h ⊢
  by_cases z : b = a
  · rw [if_pos z] at h; cases h
  · rw [if_neg z] at h ⊢; exact e b o z h
theorem hid_of {a : Addr} {H H' : Hp} (e : Same H H') : Same (hid a H) (hid a H') := hid_sb (Sb.of e)
theorem hid_upd {a p : Addr} {H : Hp} {o : HO} (h : p ≠ a) : hid a (upd H p o) = upd (hid a H) p o := by
  funext b
  unfold hid
  by_cases z : b = p
  · subst z
    rw [if_neg h, upd_same, upd_same]
  · rw [upd_ne z, upd_ne z]
theorem hid_none {a p : Addr} {H : Hp} (h : H p = none) : hid a H p = none := by
  unfold hid
  split
  · rfl
  · exact h
theorem hid_at {a p : Addr} {H : Hp} {o : HO} (h : H p = some o) (n : p ≠ a) : hid a H p = some o := by
  unfold hid
  rw [if_neg n]
  exact h
section
variable {K : PySem.W.Frag} {H : Hp} {a p : Addr} {xs : List V} {ds es : List PyData} {Q : VK} {x y v : V} {d : PyData}
theorem new_ne (na : H a ≠ none) (np : H p = none) : p ≠ a := fun z => na (z ▸ np)
theorem Fd.nn {s : Addr} {n : Nat} (f : Fd H a s n) : H a ≠ none := by
  obtain ⟨ys, h⟩ := f.at
  rw [h]
  exact Option.some_ne_none _
/-- data that don't hang on a -/
abbrev Dq (K : PySem.W.Frag) (a : Addr) (H : Hp) (v : V) (d : PyData) : Prop := Dp K (hid a H) v d
abbrev DqAll (K : PySem.W.Frag) (a : Addr) (H : Hp) (xs : List V) (ds : List PyData) : Prop := DpAll K (hid a H) xs ds
theorem Dq.dp (h : Dq K a H v d) : Dp K H v d := Dp.same hid_le _ _ h
theorem DqAll.dp (h : DqAll K a H xs ds) : DpAll K H xs ds := DpAll.same hid_le _ _ h
theorem Dq.sb {H' : Hp} (h : Dq K a H v d) (e : Sb a H H') : Dq K a H' v d := Dp.same (hid_sb e) _ _ h
theorem DqAll.sb {H' : Hp} (h : DqAll K a H xs ds) (e : Sb a H H') : DqAll K a H' xs ds := DpAll.same (hid_sb e) _ _ h
theorem Dq.same {H' : Hp} (h : Dq K a H v d) (e : Same H H') : Dq K a H' v d := Dp.same (hid_of e) _ _ h
theorem DqAll.same {H' : Hp} (h : DqAll K a H xs ds) (e : Same H H') : DqAll K a H' xs ds := DpAll.same (hid_of e) _ _ h
theorem tupQ (na : H a ≠ none) (np : H p = none) (ha : DqAll K a H xs ds) : ∃ H', upd H p (.tup xs) = H' ∧ Same H H' ∧ Dq K a H' (.ref p) (.tuple ds) := by
  refine ⟨_, rfl, Same.new np, ?_⟩
  show Dp K (hid a (upd H p (.tup xs))) (.ref p) (.tuple ds)
  rw [hid_upd (new_ne na np)]
  exact .tup (SqT.of upd_same) (DpAll.same (Same.new (hid_none np)) _ _ ha)
theorem lstQ (na : H a ≠ none) (np : H p = none) (ha : DqAll K a H xs ds) : ∃ H', upd H p (.lst xs) = H' ∧ Same H H' ∧ H' p = some (.lst xs) ∧ p ≠ a ∧ DqAll K a H' xs ds := by
  refine ⟨_, rfl, Same.new np, upd_same, new_ne na np, ?_⟩
  show DpAll K (hid a (upd H p (.lst xs))) xs ds
  rw [hid_upd (new_ne na np)]
  exact DpAll.same (Same.new (hid_none np)) _ _ ha
theorem Dq.lst (h : H p = some (.lst xs)) (n : p ≠ a) (ha : DqAll K a H xs ds) : Dq K a H (.ref p) (.list ds) := L2.Dp.lst (SqL.of (hid_at h n)) ha
theorem dpa_take : ∀ (n : Nat) (ds : List PyData) (xs : List V), DpAll K H xs ds → DpAll K H (xs.take n) (ds.take n)
  | 0, ds, xs, _ => by rw [List.take_zero, List.take_zero]; exact .nil
  | n + 1, [], xs, h => by rw [dpa_nil h]; exact .nil
  | n + 1, d :: ds, xs, h => by
    obtain ⟨v, vs, rfl, h1, h2⟩ := dpa_cons h
    exact .cons h1 (dpa_take n ds vs h2)
theorem dpa_drop : ∀ (n : Nat) (ds : List PyData) (xs : List V), DpAll K H xs ds → DpAll K H (xs.drop n) (ds.drop n)
  | 0, ds, xs, h => h
  | n + 1, [], xs, h => by rw [dpa_nil h]; exact .nil
  | n + 1, d :: ds, xs, h => by
    obtain ⟨v, vs, rfl, h1, h2⟩ := dpa_cons h
    exact dpa_drop n ds vs h2
theorem dpa_reverse : ∀ (ds : List PyData) (xs : List V), DpAll K H xs ds → DpAll K H xs.reverse ds.reverse
  | [], xs, h => by rw [dpa_nil h]; exact .nil
  | d :: ds, xs, h => by
    obtain ⟨v, vs, rfl, h1, h2⟩ := dpa_cons h
    rw [List.reverse_cons, List.reverse_cons]
    exact dpa_snoc _ _ _ _ (dpa_reverse ds vs h2) h1
theorem cat_dq (na : H a ≠ none) (hx : Dq K a H x (.tuple ds)) (hy : Dq K a H y (.tuple es)) (hl : ds.length + es.length ≤ 100000)
    (k : ∀ v H', Same H H' → Dq K a H' v (.tuple (ds ++ es)) → Q v H') : rCatA K x y H Q := by
  obtain ⟨b, xs, rfl, hs, ha⟩ := dp_tup hx
  obtain ⟨c, ys, rfl, hs2, hb⟩ := dp_tup hy
  have l1 := dpa_len _ _ ha
  have l2 := dpa_len _ _ hb
  refine ⟨b, c, xs, ys, rfl, rfl, sqt_same hid_le hs, sqt_same hid_le hs2, Nat.le_trans (by omega : _ ≤ 100000) (by decide), ?_, ?_, ?_⟩
  · intro h
    subst h
    have e : ds = [] := List.eq_nil_of_length_eq_zero (by rw [← l1]; rfl)
    subst e
    exact k _ _ (Same.refl H) hy
  · intro _ h
    subst h
    have e : es = [] := List.eq_nil_of_length_eq_zero (by rw [← l2]; rfl)
    subst e
    exact k _ _ (Same.refl H) (by rw [List.append_nil]; exact hx)
  · intro _ _ p np
    obtain ⟨H', e', e1, h1⟩ := tupQ na np (dpa_append _ _ _ _ ha hb)
    rw [e']
    exact k _ _ e1 h1
theorem sl_dq {lo hi : Option Int} {i j : Nat} (na : H a ≠ none) (hx : Dq K a H x (.tuple ds)) (hi1 : HT.sIx ds.length 0 lo = i) (hj1 : HT.sIx ds.length ds.length hi = j)
    (k : ∀ v H', Same H H' → Dq K a H' v (.tuple ((ds.drop i).take (j - i))) → Q v H') : rSlA K x lo hi H Q := by
  obtain ⟨b, xs, rfl, hs, ha⟩ := dp_tup hx
  have l1 := dpa_len _ _ ha
  refine ⟨b, xs, rfl, sqt_same hid_le hs, ?_, ?_⟩
  · rintro ⟨h1, h2⟩
    rw [l1] at h1 h2
    have e0 : i = 0 := by omega
    have e1 : j = ds.length := by omega
    have := k (.ref b) H (Same.refl H)
    rw [e0, e1, List.drop_zero, Nat.sub_zero, List.take_length] at this
    exact this hx
  · intro _ p np
    have e : cutV xs lo hi = (xs.drop i).take (j - i) := by
      unfold cutV
      rw [l1, hi1, hj1]
    rw [e]
    obtain ⟨H', e', e1, h1⟩ := tupQ na np (dpa_take (j - i) _ _ (dpa_drop i _ _ ha))
    rw [e']
    exact k _ _ e1 h1
theorem rev_dq (na : H a ≠ none) (hx : Dq K a H x (.tuple ds)) (k : ∀ v H', Same H H' → Dq K a H' v (.tuple ds.reverse) → Q v H') :
    ∃ b xs, x = .ref b ∧ SqT K H b xs ∧ ∀ p, H p = none → Q (.ref p) (upd H p (.tup xs.reverse)) := by
  obtain ⟨b, xs, rfl, hs, ha⟩ := dp_tup hx
  refine ⟨b, xs, rfl, sqt_same hid_le hs, fun p np => ?_⟩
  obtain ⟨H', e', e1, h1⟩ := tupQ na np (dpa_reverse _ _ ha)
  rw [e']
  exact k _ _ e1 h1
theorem ix_dq {i : Nat} (hx : Dq K a H x (.tuple ds)) (hi : ds[i]? = some d) (k : ∀ v, Dq K a H v d → Q v H) : rIxT K x (.int (i : Int)) H Q := by
  obtain ⟨b, xs, rfl, hs, ha⟩ := dp_tup hx
  obtain ⟨v, hv, hd⟩ := dpa_at _ _ i d ha hi
  exact ⟨b, xs, _, v, rfl, rfl, sqt_same hid_le hs, atI_nat hv, k v hd⟩
theorem listT_dq (na : H a ≠ none) (hx : Dq K a H x (.tuple ds))
    (k : ∀ l H', H l = none → Same H H' → Dq K a H' (.ref l) (.list ds) → Q (.ref l) H') : rListK K [x] H Q := by
  obtain ⟨b, xs, rfl, hs, ha⟩ := dp_tup hx
  refine ⟨b, xs, rfl, .inr (sqt_same hid_le hs), fun l nl => ?_⟩
  obtain ⟨H', e', e1, h1, h2, h3⟩ := lstQ na nl ha
  rw [e']
  exact k l _ nl e1 (Dq.lst h1 h2 h3)
end
/-! ### kinds of data -/
def tyN : PyData → String
  | .none => "NoneType" | .bool _ => "bool" | .int _ => "int" | .str _ => "str" | .list _ => "list" | .tuple _ => "tuple" | .dict _ => "dict"
def isT : PyData → Bool
  | .tuple _ => true | _ => false
def isB : PyData → Bool
  | .bool _ => true | _ => false
def isI : PyData → Bool
  | .int _ | .bool _ => true | _ => false
def isNum : PyData → Bool
  | .int _ => true | _ => false
theorem sql_ty {K : PySem.W.Frag} {H : Hp} {a : Addr} {xs : List V} (h : SqL K H a xs) : TyX K H (.ref a) (.type "list") := by
  rcases h with (h | ⟨o, h⟩) | h
  · exact .base (.lst h)
  · exact .base (.frz h)
  · obtain ⟨o, its, n, hk, hc, _⟩ := h
    exact .kList hk hc
section
variable {K : PySem.W.Frag} {H : Hp} {v : V} {d : PyData} {Q : VK}
theorem ty_dp (h : Dp K H v d) : TyX K H v (.type (tyN d)) := by
  cases h with
  | non => exact .base .non
  | bl b => exact .base (.bl b)
  | int i => exact .base (.int i)
  | str x => exact .base (.str x)
  | lst hs _ => exact sql_ty hs
  | tup hs _ => exact sqt_ty hs
theorem isi_dp {c : String} {b : Bool} (h : Dp K H v d) (hk : kitB (tyN d) c = some b) (q : Q (.bl b) H) : rIsi K [v, .ty c] H Q :=
  ⟨_, _, _, _, b, rfl, .ty c, ty_dp h, kit_ty hk, q⟩
theorem isi_tuple (h : Dp K H v d) (q : Q (.bl (isT d)) H) : rIsi K [v, .ty "tuple"] H Q := by
  refine isi_dp h ?_ q
  cases d <;> first | (simp only [tyN, isT]; decide +kernel) | cases h
theorem isi_int (h : Dp K H v d) (q : Q (.bl (isI d)) H) : rIsi K [v, .ty "int"] H Q := by
  refine isi_dp h ?_ q
  cases d <;> first | (simp only [tyN, isI]; decide +kernel) | cases h
theorem isi_bool (h : Dp K H v d) (q : Q (.bl (isB d)) H) : rIsi K [v, .ty "bool"] H Q := by
  refine isi_dp h ?_ q
  cases d <;> first | (simp only [tyN, isB]; decide +kernel) | cases h
end
/-! ### data of bounded numbers, depth and size -/
mutual
def fz : PyData → Nat
  | .none | .bool _ | .int _ => 1
  | .str x => 1 + x.length
  | .list ds | .tuple ds => 1 + fzAll ds
  | .dict _ => 1
def fzAll : List PyData → Nat
  | [] => 0
  | d :: ds => fz d + fzAll ds
end
mutual
def fok (M : Nat) : PyData → Bool
  | .none | .bool _ => true
  | .int i => decide (i.natAbs ≤ M)
  | .str x => PyData.strOk x
  | .list ds | .tuple ds => fokAll M ds
  | .dict _ => false
def fokAll (M : Nat) : List PyData → Bool
  | [] => true
  | d :: ds => fok M d && fokAll M ds
end
structure Fn (M k n : Nat) (d : PyData) : Prop where
  ok : fok M d = true
  dep : d.depth ≤ k
  sz : fz d ≤ n
mutual
theorem fok_mono {M M' : Nat} (hM : M ≤ M') : ∀ d : PyData, fok M d = true → fok M' d = true
  | .none, _ => by simp only [fok]
  | .bool _, _ => by simp only [fok]
  | .int i, h => by simp only [fok, decide_eq_true_eq] at h ⊢; omega
  | .str x, h => by simpa only [fok] using h
  | .list ds, h => by simp only [fok] at h ⊢; exact fokAll_mono hM ds h
  | .tuple ds, h => by simp only [fok] at h ⊢; exact fokAll_mono hM ds h
  | .dict _, h => by simp [fok] at h
theorem fokAll_mono {M M' : Nat} (hM : M ≤ M') : ∀ ds : List PyData, fokAll M ds = true → fokAll M' ds = true
  | [], _ => by simp only [fokAll]
  | d :: ds, h => by
    simp only [fokAll, Bool.and_eq_true] at h ⊢
    exact ⟨fok_mono hM d h.1, fokAll_mono hM ds h.2⟩
end
theorem Fn.mono {M k n M' k' n' : Nat} {d : PyData} (h : Fn M k n d) (hM : M ≤ M') (hk : k ≤ k') (hn : n ≤ n') : Fn M' k' n' d :=
  ⟨fok_mono hM d h.ok, Nat.le_trans h.dep hk, Nat.le_trans h.sz hn⟩
theorem fokAll_iff {M : Nat} : ∀ ds : List PyData, fokAll M ds = true ↔ ∀ d ∈ ds, fok M d = true
  | [] => by simp [fokAll]
  | d :: ds => by simp only [fokAll, Bool.and_eq_true, fokAll_iff ds, List.mem_cons, forall_eq_or_imp]
theorem depthAll_iff {k : Nat} : ∀ ds : List PyData, PyData.depthAll ds ≤ k ↔ ∀ d ∈ ds, d.depth ≤ k
  | [] => by simp [PyData.depthAll]
  | d :: ds => by
    simp only [PyData.depthAll, List.mem_cons, forall_eq_or_imp, ← depthAll_iff ds]
    omega
theorem fzAll_app : ∀ ds es : List PyData, fzAll (ds ++ es) = fzAll ds + fzAll es
  | [], es => by simp [fzAll]
  | d :: ds, es => by simp only [List.cons_append, fzAll, fzAll_app ds es]; omega
theorem fz_pos : ∀ d : PyData, 1 ≤ fz d
  | .none | .bool _ | .int _ | .dict _ => by simp [fz]
  | .str x => by simp only [fz]; omega
  | .list ds | .tuple ds => by simp only [fz]; omega
theorem fzAll_len : ∀ ds : List PyData, ds.length ≤ fzAll ds
  | [] => by simp [fzAll]
  | d :: ds => by
    have := fz_pos d
    have := fzAll_len ds
    simp only [fzAll, List.length_cons]
    omega
theorem fzAll_mem : ∀ {ds : List PyData} {d : PyData}, d ∈ ds → fz d ≤ fzAll ds
  | e :: ds, d, h => by
    simp only [fzAll]
    rcases List.mem_cons.mp h with rfl | h
    · omega
    · have := fzAll_mem h
      omega
/-- a tuple or list of such -/
theorem fn_tup {M k n : Nat} {ds : List PyData} : Fn M (k + 1) n (.tuple ds) ↔ (∀ d ∈ ds, fok M d = true ∧ d.depth ≤ k) ∧ 1 + fzAll ds ≤ n := by
  constructor
  · rintro ⟨h1, h2, h3⟩
    simp only [fok] at h1
    simp only [PyData.depth] at h2
    simp only [fz] at h3
    have h2 : PyData.depthAll ds ≤ k := by omega
    exact ⟨fun d hd => ⟨(fokAll_iff ds).mp h1 d hd, (depthAll_iff ds).mp h2 d hd⟩, h3⟩
  · rintro ⟨h1, h3⟩
    refine ⟨?_, ?_, ?_⟩
    · simp only [fok]
      exact (fokAll_iff ds).mpr fun d hd => (h1 d hd).1
    · simp only [PyData.depth]
      have := (depthAll_iff (k := k) ds).mpr fun d hd => (h1 d hd).2
      omega
    · simpa only [fz] using h3
theorem fn_lst {M k n : Nat} {ds : List PyData} (h : Fn M k n (.tuple ds)) : Fn M k n (.list ds) := by
  refine ⟨?_, ?_, ?_⟩
  · simpa only [fok] using h.ok
  · simpa only [PyData.depth] using h.dep
  · simpa only [fz] using h.sz
/-! ### what repr and == ask -/
mutual
theorem fok_sh {M : Nat} (hM : M < 2 ^ 1900) : ∀ d : PyData, fok M d = true → d.showable = true ∧ d.hasDict = false ∧ d.canLay0 = true ∧ d.shown.length + 3 ≤ 1910 * fz d
  | .none, _ => ⟨by simp [PyData.showable], by simp [PyData.hasDict], by simp [PyData.canLay0], by simp only [PyData.shown, fz]; decide +kernel⟩
  | .bool b, _ => by
    refine ⟨by simp [PyData.showable], by simp [PyData.hasDict], by simp [PyData.canLay0], ?_⟩
    simp only [PyData.shown, fz]
    cases b <;> decide +kernel
  | .int i, h => by
    simp only [fok, decide_eq_true_eq] at h
    have s := Sh.int (i := i) (by omega)
    refine ⟨s.1, s.2.1, by simp [PyData.canLay0], ?_⟩
    have := s.2.2.2
    simp only [fz]
    omega
  | .str x, h => by
    simp only [fok] at h
    refine ⟨by simp [PyData.showable], by simp [PyData.hasDict], by simpa [PyData.canLay0] using h, ?_⟩
    have hx : ∀ c ∈ x.cps.toList, c < 16 ^ 8 := by
      intro c hc
      unfold PyData.strOk at h
      rw [Array.all_eq_true_iff_forall_mem] at h
      have := of_decide_eq_true (h c (by simpa using hc))
      omega
    have := PySem.StrLaws.reprText_len x hx
    simp only [PyData.shown, fz]
    omega
  | .list ds, h => by
    simp only [fok] at h
    obtain ⟨h1, h2, h3, h4, h5⟩ := fokAll_sh hM ds h
    refine ⟨by simpa only [PyData.showable] using h1, by simpa only [PyData.hasDict] using h2, by simpa only [PyData.canLay0] using h3, ?_⟩
    have e := PySem.listText_len_le (PyData.shownAll ds)
    simp only [PyData.shown, fz]
    omega
  | .tuple ds, h => by
    simp only [fok] at h
    obtain ⟨h1, h2, h3, h4, h5⟩ := fokAll_sh hM ds h
    refine ⟨by simpa only [PyData.showable] using h1, by simpa only [PyData.hasDict] using h2, by simpa only [PyData.canLay0] using h3, ?_⟩
    have e := PySem.tupleText_len_le (PyData.shownAll ds)
    simp only [PyData.shown, fz]
    omega
  | .dict _, h => by simp [fok] at h
theorem fokAll_sh {M : Nat} (hM : M < 2 ^ 1900) : ∀ ds : List PyData, fokAll M ds = true → PyData.showableAll ds = true ∧ PyData.hasDictAll ds = false ∧ PyData.canLayAll0 ds = true ∧
    ((PyData.shownAll ds).map (·.length)).sum + 3 * ds.length ≤ 1910 * fzAll ds ∧ (PyData.shownAll ds).length = ds.length
  | [], _ => ⟨by simp [PyData.showableAll], by simp [PyData.hasDictAll], by simp [PyData.canLayAll0], by simp [PyData.shownAll, fzAll], by simp [PyData.shownAll]⟩
  | d :: ds, h => by
    simp only [fokAll, Bool.and_eq_true] at h
    obtain ⟨a1, a2, a3, a4⟩ := fok_sh hM d h.1
    obtain ⟨b1, b2, b3, b4, b5⟩ := fokAll_sh hM ds h.2
    refine ⟨by simp only [PyData.showableAll, a1, b1, Bool.and_self], by simp only [PyData.hasDictAll, a2, b2, Bool.or_self], by simp only [PyData.canLayAll0, a3, b3, Bool.and_self], ?_, by simp only [PyData.shownAll, List.length_cons, b5]⟩
    simp only [PyData.shownAll, List.map_cons, List.sum_cons, fzAll, List.length_cons]
    omega
end
theorem Fn.sh {M k n : Nat} {d : PyData} (h : Fn M k n d) (hM : M < 2 ^ 1900) (hn : n ≤ 8000) : Sh k 15300000 d := by
  obtain ⟨h1, h2, _, h4⟩ := fok_sh hM d h.ok
  have := h.sz
  exact ⟨h1, h2, h.dep, by omega⟩
theorem Fn.shaped {M k n : Nat} {d : PyData} (h : Fn M k n d) (hM : M < 2 ^ 1900) (hk : k ≤ 64) : SeqAt.shaped d = true := by
  obtain ⟨_, _, h3, _⟩ := fok_sh hM d h.ok
  show (d.canLay0 && decide (d.depth ≤ 64)) = true
  rw [Bool.and_eq_true]
  exact ⟨h3, decide_eq_true (Nat.le_trans h.dep hk)⟩
theorem strOk_of (t : String) : PyData.strOk (Str.ofString t) = true := by
  rw [Str.ofString_eq_toList]
  unfold PyData.strOk
  rw [Array.all_eq_true_iff_forall_mem]
  intro c hc
  simp only [List.mem_toArray, List.mem_map] at hc
  obtain ⟨x, _, rfl⟩ := hc
  refine decide_eq_true ?_
  have hv := x.valid
  unfold UInt32.isValidChar Nat.isValidChar at hv
  show x.val.toNat < 1114112
  omega
end Gd
namespace Gd
open PySem PySem.Spec PyProof.Rows L2
theorem tup_or (d : PyData) : isT d = false ∨ ∃ ds, d = .tuple ds := by
  cases d <;> first | exact Or.inl rfl | exact Or.inr ⟨_, rfl⟩
theorem hid_self {D : Addr} {H : Hp} {o : HO} : hid D (upd H D o) = hid D H := by
  funext b
  unfold hid
  by_cases z : b = D
  · rw [if_pos z, if_pos z]
  · rw [if_neg z, if_neg z, upd_ne z]
theorem hid_new {D : Addr} {H H' : Hp} (e : Same H H') (n : H D = none) : Same H (hid D H') := fun b o h => by
  unfold hid
  rw [if_neg (ne_of_none h n)]
  exact e b o h
/-- what a comprehension has got so far -/
def Ac (K : PySem.W.Frag) (D : Addr) (H H' : Hp) (es : List PyData) : Prop := Same H H' ∧ ∃ ys, H' D = some (.lst ys) ∧ DqAll K D H' ys es
theorem Ac.start {K : PySem.W.Frag} {D : Addr} {H : Hp} (h : H D = none) : Ac K D H (upd H D (.lst [])) [] := ⟨Same.new h, [], upd_same, .nil⟩
theorem Ac.keep {K : PySem.W.Frag} {D : Addr} {H H1 H2 : Hp} {es : List PyData} (h : Ac K D H H1 es) (e : Same H1 H2) : Ac K D H H2 es := by
  obtain ⟨h0, ys, h1, h2⟩ := h
  exact ⟨h0.trans e, ys, e _ _ h1, h2.same e⟩
theorem Ac.push {K : PySem.W.Frag} {D : Addr} {H H1 H2 : Hp} {es : List PyData} {y : V} {d : PyData} (hD : H D = none) (h : Ac K D H H1 es) (e : Same H1 H2) (hy : Dp K (hid D H2) y d) (hl : es.length < 60000) :
    ∃ acc, H2 D = some (.lst acc) ∧ acc.length < sizeLine ∧ Ac K D H (upd H2 D (.lst (acc ++ [y]))) (es ++ [d]) := by
  obtain ⟨h0, ys, h1, h2⟩ := h.keep e
  refine ⟨ys, h1, ?_, Same.mut h0 hD, _, upd_same, ?_⟩
  · rw [dpa_len _ _ h2]
    exact Nat.lt_trans hl (by decide)
  · show DpAll K (hid D (upd H2 D (.lst (ys ++ [y])))) (ys ++ [y]) (es ++ [d])
    rw [hid_self]
    exact dpa_snoc _ _ _ _ h2 hy
section
variable {K : PySem.W.Frag} {te : TE} {tt : TT} {vs : List Nat} {σ : L2.St} {H : Hp} {D : Addr} {Qd : Hp → Prop}
/-- [x for x in t if c], t a tuple of data -/
theorem lctP {j : Nat} {a : Addr} {xs : List V} {ds : List PyData} (p : PyData → Bool) (hD : H D = none) (hx : SqT K H a xs) (ha : DpAll K H xs ds) (hn : ds.length ≤ 50000)
    (hw : ∀ x, wipe ((wipe σ vs).set j (some x)) vs = wipe σ vs)
    (hs : ∀ (x : V) (d : PyData) (H1 : Hp) (R : Bool → Hp → Prop), d ∈ ds → Dp K H1 x d → Same H H1 → (∀ H2, Same H1 H2 → R (p d) H2) → tt ((wipe σ vs).set j (some x)) H1 R)
    (he : ∀ (x : V) (H1 : Hp) (Q : VK), Q x H1 → te ((wipe σ vs).set j (some x)) H1 Q)
    (hd : ∀ H' ys, Same H H' → H' D = some (.lst ys) → DpAll K H' ys (ds.filter p) → Qd H') :
    ∃ W : Nat → Nat → Hp → Prop, (∃ m, W 0 m (upd H D (.lst []))) ∧ ∀ i m H, W i m H →
      ((Itt K a).stop i H ∧ Qd H) ∨ ((Itt K a).go i H ∧ ∃ Nx : Hp → Prop,
        (∀ H', Nx H' → ∃ m', m' < m ∧ W (i + 1) m' H') ∧
        ∀ x H', (Itt K a).yld i H x H' → gName j x (wipe σ vs) H' fun σ2 H2 =>
          wipe σ2 vs = wipe σ vs ∧ tt σ2 H2 fun b H3 =>
            if b = true then te σ2 H3 fun y H4 => ∃ acc, H4 D = some (.lst acc) ∧
              acc.length < sizeLine ∧ Nx (upd H4 D (.lst (acc ++ [y]))) else Nx H3) := by
  have hl : xs.length = ds.length := dpa_len _ _ ha
  refine lc_tup (xs := xs) (fun i H' => Ac K D H H' ((ds.take i).filter p)) (Ac.start hD) (fun i H' _ q => sqt_same q.1 hx) ?_ ?_
  · intro i x H' hi q
    obtain ⟨d, hd1, hd2⟩ := dpa_get _ _ i x ha hi
    have hlt := (List.getElem?_eq_some_iff.mp hd1).1
    have et : ds.take (i + 1) = ds.take i ++ [d] := by rw [List.take_succ, hd1]; rfl
    refine ⟨hw _, hs x d H' _ (List.mem_of_getElem? hd1) (Dp.same q.1 _ _ hd2) q.1 fun H2 e2 => ?_⟩
    by_cases hp : p d = true
    · rw [if_pos hp]
      refine he _ _ _ ?_
      rw [et, List.filter_append]
      have e3 : [d].filter p = [d] := by simp [hp]
      rw [e3]
      refine Ac.push hD q e2 (Dp.same (hid_new (q.1.trans e2) hD) _ _ hd2) ?_
      have h1 := List.length_filter_le p (ds.take i)
      rw [List.length_take] at h1
      omega
    · rw [if_neg hp, et, List.filter_append]
      have e3 : [d].filter p = [] := by simp [hp]
      rw [e3, List.append_nil]
      exact q.keep e2
  · rintro H' ⟨h0, ys, h1, h2⟩
    rw [hl, List.take_length] at h2
    exact hd H' ys h0 h1 h2.dp
end
/-! ### looks -/
def isRowD (w : Int) : PyData → Bool
  | .tuple ds => decide ((ds.length : Int) = w) && ds.all isNum
  | _ => false
def isTabD : PyData → Bool
  | .tuple [.int w, .tuple rows] => decide (0 ≤ w) && rows.all (isRowD w)
  | _ => false
def isUnitD : PyData → Bool
  | .tuple [.int w, .tuple rows] => isTabD (.tuple [.int w, .tuple rows]) && decide ((rows.length : Int) = w) && PyData.eqv (.tuple [.int w, .tuple rows]) (tabD w (unitR w.toNat))
  | _ => false
end Gd
namespace Gd
open PySem PySem.Spec PyProof.Rows L2
section
variable {K : PySem.W.Frag} {te : TE} {tt : TT} {vs : List Nat} {σ : L2.St} {H : Hp} {D : Addr} {Qd : Hp → Prop}
/-- [i for i in range(n) if c] -/
theorem lcrP {j n : Nat} (p : Nat → Bool) (hD : H D = none) (hn : n ≤ 50000)
    (hw : ∀ x, wipe ((wipe σ vs).set j (some x)) vs = wipe σ vs)
    (hs : ∀ (i : Nat) (H1 : Hp) (R : Bool → Hp → Prop), i < n → Same H H1 → (∀ H2, Same H1 H2 → R (p i) H2) → tt ((wipe σ vs).set j (some (.int (0 + (i : Int))))) H1 R)
    (he : ∀ (x : V) (H1 : Hp) (Q : VK), Q x H1 → te ((wipe σ vs).set j (some x)) H1 Q)
    (hd : ∀ H' ys, Same H H' → H' D = some (.lst ys) → DpAll K H' ys ((((List.range n).filter p).map fun (i : Nat) => (0 + (i : Int))).map PyData.int) → Qd H') :
    ∃ W : Nat → Nat → Hp → Prop, (∃ m, W 0 m (upd H D (.lst []))) ∧ ∀ i m H, W i m H →
      ((Itr 0 n).stop i H ∧ Qd H) ∨ ((Itr 0 n).go i H ∧ ∃ Nx : Hp → Prop,
        (∀ H', Nx H' → ∃ m', m' < m ∧ W (i + 1) m' H') ∧
        ∀ x H', (Itr 0 n).yld i H x H' → gName j x (wipe σ vs) H' fun σ2 H2 =>
          wipe σ2 vs = wipe σ vs ∧ tt σ2 H2 fun b H3 =>
            if b = true then te σ2 H3 fun y H4 => ∃ acc, H4 D = some (.lst acc) ∧
              acc.length < sizeLine ∧ Nx (upd H4 D (.lst (acc ++ [y]))) else Nx H3) := by
  refine lc_range (lo := 0) (n := n) (fun i H' => Ac K D H H' ((((List.range i).filter p).map fun (i : Nat) => (0 + (i : Int))).map PyData.int)) (Ac.start hD) ?_ ?_
  · intro i H' hi q
    refine ⟨hw _, hs i H' _ hi q.1 fun H2 e2 => ?_⟩
    by_cases hp : p i = true
    · rw [if_pos hp]
      refine he _ _ _ ?_
      have e3 : (List.range (i + 1)).filter p = (List.range i).filter p ++ [i] := by
        rw [List.range_succ, List.filter_append]
        simp [hp]
      rw [e3, List.map_append, List.map_append]
      refine Ac.push hD q e2 (.int _) ?_
      have h1 := List.length_filter_le p (List.range i)
      rw [List.length_map, List.length_map]
      rw [List.length_range] at h1
      omega
    · rw [if_neg hp]
      have e3 : (List.range (i + 1)).filter p = (List.range i).filter p := by
        rw [List.range_succ, List.filter_append]
        simp [hp]
      rw [e3]
      exact q.keep e2
  · rintro H' ⟨h0, ys, h1, h2⟩
    exact hd H' ys h0 h1 h2.dp
end
/-! ### tables among data -/
theorem tab_true {d : PyData} (h : isTabD d = true) : ∃ (n : Nat) (rs : List (List Int)), d = tabD n rs ∧ ∀ r ∈ rs, r.length = n := by
  unfold isTabD at h
  split at h
  · rename_i wd rows
    rw [Bool.and_eq_true] at h
    obtain ⟨h0, h1⟩ := h
    have h0 := of_decide_eq_true h0
    obtain ⟨n, rfl⟩ := Int.eq_ofNat_of_zero_le h0
    have row : ∀ d : PyData, isRowD (n : Int) d = true → ∃ r : List Int, d = rowD r ∧ r.length = n := by
      intro d hd
      unfold isRowD at hd
      split at hd
      · rename_i ds
        rw [Bool.and_eq_true] at hd
        obtain ⟨k0, k1⟩ := hd
        have k0 := of_decide_eq_true k0
        have key : ∀ ds : List PyData, ds.all isNum = true → ∃ r : List Int, ds = r.map PyData.int := by
          intro ds
          induction ds with
          | nil => intro _; exact ⟨[], rfl⟩
          | cons d ds ih =>
            intro hk
            rw [List.all_cons, Bool.and_eq_true] at hk
            obtain ⟨r, rfl⟩ := ih hk.2
            cases d with
            | int i => exact ⟨i :: r, rfl⟩
            | _ => cases hk.1
        obtain ⟨r, rfl⟩ := key ds k1
        refine ⟨r, rfl, ?_⟩
        rw [List.length_map] at k0
        omega
      · cases hd
    have all : ∀ rows : List PyData, rows.all (isRowD (n : Int)) = true → ∃ rs : List (List Int), rows = rs.map rowD ∧ ∀ r ∈ rs, r.length = n := by
      intro rows
      induction rows with
      | nil => intro _; exact ⟨[], rfl, fun r hr => by cases hr⟩
      | cons d ds ih =>
        intro hk
        rw [List.all_cons, Bool.and_eq_true] at hk
        obtain ⟨rs, rfl, hrs⟩ := ih hk.2
        obtain ⟨r, rfl, hr⟩ := row d hk.1
        refine ⟨r :: rs, rfl, fun x hx => ?_⟩
        rcases List.mem_cons.mp hx with rfl | hx
        · exact hr
        · exact hrs x hx
    obtain ⟨rs, rfl, hrs⟩ := all rows h1
    exact ⟨n, rs, rfl, hrs⟩
  · cases h
theorem unit_of_tab {d : PyData} (h : isTabD d = false) : isUnitD d = false := by
  unfold isUnitD
  split
  · rw [h]
    rfl
  · rfl
theorem tab_of {n : Nat} {rs : List (List Int)} (h : ∀ r ∈ rs, r.length = n) : isTabD (tabD n rs) = true := by
  unfold tabD rowsD
  simp only [isTabD, Bool.and_eq_true, decide_eq_true_eq, List.all_map, List.all_eq_true]
  refine ⟨by omega, fun r hr => ?_⟩
  simp only [Function.comp, rowD, isRowD, Bool.and_eq_true, decide_eq_true_eq, List.length_map, List.all_map, List.all_eq_true]
  refine ⟨by have := h r hr; omega, fun i _ => rfl⟩
end Gd
namespace Gd
open PySem PySem.Spec PyProof.Rows L2
section
variable {K : PySem.W.Frag} {H : Hp} {a : Addr} {ds : List PyData} {Q : VK} {x : V}
theorem sl_to {i : Nat} {z : Int} (hz : z = (i : Int)) (na : H a ≠ none) (hx : Dq K a H x (.tuple ds)) (k : ∀ v H', Same H H' → Dq K a H' v (.tuple (ds.take i)) → Q v H') : rSlA K x none (some z) H Q := by
  subst hz
  refine sl_dq na hx (i := 0) (j := min i ds.length) rfl (HT.sIx_nat _ _ _) fun v H' e h => k v H' e ?_
  have : (ds.drop 0).take (min i ds.length - 0) = ds.take i := by
    rw [List.drop_zero, Nat.sub_zero]
    by_cases hi : i ≤ ds.length
    · rw [Nat.min_eq_left hi]
    · rw [Nat.min_eq_right (by omega), List.take_length, List.take_of_length_le (by omega)]
  rw [this] at h
  exact h
theorem sl_from {i : Nat} {z : Int} (hz : z = (i : Int)) (na : H a ≠ none) (hx : Dq K a H x (.tuple ds)) (k : ∀ v H', Same H H' → Dq K a H' v (.tuple (ds.drop i)) → Q v H') : rSlA K x (some z) none H Q := by
  subst hz
  refine sl_dq na hx (i := min i ds.length) (j := ds.length) (HT.sIx_nat _ _ _) rfl fun v H' e h => k v H' e ?_
  have : (ds.drop (min i ds.length)).take (ds.length - min i ds.length) = ds.drop i := by
    rw [List.take_of_length_le (by rw [List.length_drop]; omega)]
    by_cases hi : i ≤ ds.length
    · rw [Nat.min_eq_left hi]
    · rw [Nat.min_eq_right (by omega), List.drop_length, List.drop_of_length_le (by omega)]
  rw [this] at h
  exact h
end
theorem fz_split : ∀ {ds : List PyData} {i : Nat} {x : PyData}, ds[i]? = some x → fzAll ds = fzAll (ds.take i) + fz x + fzAll (ds.drop (i + 1))
  | [], i, x, h => by simp at h
  | d :: ds, 0, x, h => by
    simp at h
    subst h
    simp [fzAll]
  | d :: ds, i + 1, x, h => by
    have := fz_split (ds := ds) (i := i) (x := x) (by simpa using h)
    simp only [List.take_succ_cons, List.drop_succ_cons, fzAll]
    omega
theorem fz_take (ds : List PyData) (i : Nat) : fzAll (ds.take i) + fzAll (ds.drop i) = fzAll ds := by
  rw [← fzAll_app, List.take_append_drop]
theorem fz_drop1 (ds : List PyData) (i : Nat) : fzAll (ds.drop (i + 1)) ≤ fzAll (ds.drop i) := by
  have := fz_take (ds.drop i) 1
  rw [List.drop_drop] at this
  have e : i + 1 = 1 + i := by omega
  first
    | omega
    | (rw [e]; omega)
theorem fz_rev : ∀ ds : List PyData, fzAll ds.reverse = fzAll ds
  | [] => rfl
  | d :: ds => by
    rw [List.reverse_cons, fzAll_app, fz_rev ds]
    simp only [fzAll]
    omega
theorem eqv_nilT (ds : List PyData) : PyData.eqv (.tuple ds) (.tuple []) = decide (ds = []) := by
  cases ds <;> simp [PyData.eqv, PyData.eqvAll]
end Gd
namespace Gd
open PySem PySem.Spec PyProof.Rows L2
theorem Same.nn {H H' : Hp} {a : Addr} (e : Same H H') (h : H a ≠ none) : H' a ≠ none := by
  cases q : H a with
  | none => exact absurd q h
  | some o =>
    rw [e a o q]
    exact Option.some_ne_none _
section
variable {X : Cx} {k : Nat} {ps : List Str} {sp : Sp} {x : Str} {p pos : Pos}
theorem pe_has0 (F : Has X.prog X.w X.K X.mg X.base x k ps sp) (hr : Room k X.A) (hg : Gl X x) (hdb : (x == ("__debug__" : Str)) = false := by decide) :
    PE X (.Call (.Name x p) [] [] pos) (tCall sp [] E0 tNil) := by
  obtain ⟨f, fd, G, hm, kp, hb⟩ := F
  exact pe_call0 G hr hg hm kp hb .nil pass0 hdb
end
section
variable {K : PySem.W.Frag} {te : TE} {tt : TT} {vs : List Nat} {σ : L2.St} {H : Hp} {D : Addr} {Qd : Hp → Prop}
/-- [truth for x in t], t a tuple -/
theorem lctB {j : Nat} {a : Addr} {xs : List V} (hD : H D = none) (hx : SqT K H a xs) (hn : xs.length ≤ 50000)
    (hw : ∀ x, wipe ((wipe σ vs).set j (some x)) vs = wipe σ vs)
    (hs : ∀ (i : Nat) (x : V) (H1 : Hp) (Q : VK), xs[i]? = some x → Same H H1 → (∀ b H2, Same H1 H2 → Q (.bl b) H2) → te ((wipe σ vs).set j (some x)) H1 Q)
    (hd : ∀ H' (bs : List Bool), Same H H' → H' D = some (.lst (bs.map V.bl)) → Qd H') :
    ∃ W : Nat → Nat → Hp → Prop, (∃ m, W 0 m (upd H D (.lst []))) ∧ ∀ i m H, W i m H →
      ((Itt K a).stop i H ∧ Qd H) ∨ ((Itt K a).go i H ∧ ∃ Nx : Hp → Prop,
        (∀ H', Nx H' → ∃ m', m' < m ∧ W (i + 1) m' H') ∧
        ∀ x H', (Itt K a).yld i H x H' → gName j x (wipe σ vs) H' fun σ2 H2 =>
          wipe σ2 vs = wipe σ vs ∧ tYes σ2 H2 fun b H3 =>
            if b = true then te σ2 H3 fun y H4 => ∃ acc, H4 D = some (.lst acc) ∧
              acc.length < sizeLine ∧ Nx (upd H4 D (.lst (acc ++ [y]))) else Nx H3) := by
  refine lc_tup (xs := xs) (fun i H' => Same H H' ∧ ∃ bs : List Bool, bs.length = i ∧ H' D = some (.lst (bs.map V.bl))) ⟨Same.new hD, [], rfl, upd_same⟩ (fun i H' _ q => sqt_same q.1 hx) ?_ ?_
  · rintro i x H' hi ⟨e, bs, hb, h1⟩
    have hlt := (List.getElem?_eq_some_iff.mp hi).1
    refine ⟨hw _, ?_⟩
    unfold tYes
    dsimp only
    rw [if_pos rfl]
    refine hs i x H' _ hi e fun b H2 e2 => ?_
    refine ⟨_, e2 _ _ h1, ?_, Same.mut (e.trans e2) hD, bs ++ [b], ?_, ?_⟩
    · rw [List.length_map, hb]
      exact Nat.lt_of_lt_of_le (show i < 50000 by omega) (by decide)
    · rw [List.length_append, hb]
      rfl
    · rw [upd_same, List.map_append]
      rfl
  · rintro H' ⟨e, bs, _, h1⟩
    exact hd H' bs e h1
/-- [True for x in l if c], l a list that stays -/
theorem lclT {j : Nat} {a : Addr} {xs : List V} (hD : H D = none) (hx : SqL K H a xs) (hn : xs.length ≤ 50000)
    (hw : ∀ x, wipe ((wipe σ vs).set j (some x)) vs = wipe σ vs)
    (ht : ∀ (i : Nat) (x : V) (H1 : Hp) (R : Bool → Hp → Prop), xs[i]? = some x → Same H H1 → (∀ b H2, Same H1 H2 → R b H2) → tt ((wipe σ vs).set j (some x)) H1 R)
    (hs : ∀ (i : Nat) (x : V) (H1 : Hp) (Q : VK), xs[i]? = some x → Same H H1 → (∀ H2, Same H1 H2 → Q (.bl true) H2) → te ((wipe σ vs).set j (some x)) H1 Q)
    (hd : ∀ H' (n : Nat), Same H H' → H' D = some (.lst ((List.replicate n true).map V.bl)) → Qd H') :
    ∃ W : Nat → Nat → Hp → Prop, (∃ m, W 0 m (upd H D (.lst []))) ∧ ∀ i m H, W i m H →
      ((Itl K a).stop i H ∧ Qd H) ∨ ((Itl K a).go i H ∧ ∃ Nx : Hp → Prop,
        (∀ H', Nx H' → ∃ m', m' < m ∧ W (i + 1) m' H') ∧
        ∀ x H', (Itl K a).yld i H x H' → gName j x (wipe σ vs) H' fun σ2 H2 =>
          wipe σ2 vs = wipe σ vs ∧ tt σ2 H2 fun b H3 =>
            if b = true then te σ2 H3 fun y H4 => ∃ acc, H4 D = some (.lst acc) ∧
              acc.length < sizeLine ∧ Nx (upd H4 D (.lst (acc ++ [y]))) else Nx H3) := by
  refine lc_list (xs := xs) (fun i H' => Same H H' ∧ ∃ n : Nat, n ≤ i ∧ H' D = some (.lst ((List.replicate n true).map V.bl))) ⟨Same.new hD, 0, Nat.le_refl _, upd_same⟩ (fun i H' _ q => sql_same q.1 hx) ?_ ?_
  · rintro i x H' hi ⟨e, n, hb, h1⟩
    have hlt := (List.getElem?_eq_some_iff.mp hi).1
    refine ⟨hw _, ht i x H' _ hi e fun b H2 e2 => ?_⟩
    cases b with
    | false => exact iteF ⟨e.trans e2, n, by omega, e2 _ _ h1⟩
    | true =>
      refine iteT (hs i x H2 _ hi (e.trans e2) fun H3 e3 => ?_)
      refine ⟨_, (e2.trans e3) _ _ h1, ?_, Same.mut ((e.trans e2).trans e3) hD, n + 1, by omega, ?_⟩
      · rw [List.length_map, List.length_replicate]
        exact Nat.lt_of_lt_of_le (show n < 50000 by omega) (by decide)
      · rw [upd_same, List.replicate_succ', List.map_append]
        rfl
  · rintro H' ⟨e, n, _, h1⟩
    exact hd H' n e h1
/-- [True for k in range(m)], where each draws -/
theorem lcrT {j m n c : Nat} {a s : Addr} (hD : H D = none) (hf : Fd H a s n) (hm : m ≤ 50000)
    (hw : ∀ x, wipe ((wipe σ vs).set j (some x)) vs = wipe σ vs)
    (hs : ∀ (i : Nat) (H1 : Hp) (Q : VK), i < m → Sb a H H1 → Fd H1 a s (n + c * i) →
      (∀ (H2 : Hp), Sb a H1 H2 → Fd H2 a s (n + c * (i + 1)) → Q (.bl true) H2) →
      te ((wipe σ vs).set j (some (.int (0 + (i : Int))))) H1 Q)
    (hd : ∀ (H' : Hp), Sb a H H' → Fd H' a s (n + c * m) → H' D = some (.lst ((List.replicate m true).map V.bl)) → Qd H') :
    ∃ W : Nat → Nat → Hp → Prop, (∃ m, W 0 m (upd H D (.lst []))) ∧ ∀ i k H, W i k H →
      ((Itr 0 m).stop i H ∧ Qd H) ∨ ((Itr 0 m).go i H ∧ ∃ Nx : Hp → Prop,
        (∀ H', Nx H' → ∃ k', k' < k ∧ W (i + 1) k' H') ∧
        ∀ x H', (Itr 0 m).yld i H x H' → gName j x (wipe σ vs) H' fun σ2 H2 =>
          wipe σ2 vs = wipe σ vs ∧ tYes σ2 H2 fun b H3 =>
            if b = true then te σ2 H3 fun y H4 => ∃ acc, H4 D = some (.lst acc) ∧
              acc.length < sizeLine ∧ Nx (upd H4 D (.lst (acc ++ [y]))) else Nx H3) := by
  obtain ⟨dA, dS⟩ := hf.apart hD
  refine lc_range (lo := 0) (n := m) (fun i H' => Sb a H H' ∧ Fd H' a s (n + c * i) ∧ H' D = some (.lst ((List.replicate i true).map V.bl))) ?_ ?_ ?_
  · exact ⟨Sb.new hD, (hf.upd dA dS).mono (by omega), upd_same⟩
  · rintro i H' hi ⟨sb, f, h1⟩
    refine ⟨hw _, ?_⟩
    unfold tYes
    dsimp only
    rw [if_pos rfl]
    refine hs i H' _ hi sb f fun H2 sb2 f2 => ?_
    refine ⟨_, sb2 _ _ dA h1, ?_, (Sb.trans sb sb2).mut hD, f2.upd dA dS, ?_⟩
    · rw [List.length_map, List.length_replicate]
      exact Nat.lt_of_lt_of_le (show i < 50000 by omega) (by decide)
    · rw [upd_same, List.replicate_succ', List.map_append]
      rfl
  · rintro H' ⟨sb, f, h1⟩
    exact hd H' sb f h1
end
end Gd
namespace Gd
open PySem PySem.Spec PyProof.Rows L2
section
variable {X : Cx} {K : PySem.W.Frag}
/-- repr of data of any kind -/
def rReprD (K : PySem.W.Frag) : List V → Hp → VK → Prop := fun vs H Q =>
  ∃ (v : V) (d : PyData), vs = [v] ∧ Dp K H v d ∧ d.showable = true ∧ d.hasDict = false ∧ d.depth ≤ 60 ∧ d.shown.length ≤ sizeLine ∧ Q (.str d.shown) H
theorem call_reprD (hG : X.A.guards = some []) (hu : X.A.units + 64 < cLine) : CallR X (.builtin "repr") (rReprD X.K) := by
  intro pins s σ H xs us Q I r h
  obtain ⟨v, d, rfl, hd, hs, hn, hdp, hz, q⟩ := h
  have refs : ∀ a : Addr, v = .ref a → wpAny (model X.prog X.w) X.A (call (.builtin "repr") us) (EP X pins σ Q) X.xe s := by
    intro a ha
    subst ha
    exact call_repr hG hu pins s σ H [.ref a] us Q I r ⟨a, d, rfl, hd, hs, hn, hdp, hz, q⟩
  cases hd with
  | lst _ _ => exact refs _ rfl
  | tup _ _ => exact refs _ rfl
  | non =>
    obtain ⟨u, rfl, hu1⟩ := vals1 r
    cases (show u = Value.none from hu1)
    exact PySem.P.repr_of_none ⟨.str "None", H, I.tok _, ⟨_, rfl⟩, by simpa only [PyData.shown] using q⟩
  | bl b =>
    obtain ⟨u, rfl, hu1⟩ := vals1 r
    cases (show u = Value.bool b from hu1)
    exact PySem.P.repr_of_bool ⟨.str (if b then "True" else "False"), H, I.tok _, ⟨_, rfl⟩, by simpa only [PyData.shown] using q⟩
  | int i =>
    obtain ⟨u, rfl, t, rfl⟩ := vals1 r
    simp only [PyData.showable, decide_eq_true_eq] at hs
    exact PySem.P.repr_of_int hs ⟨.str (toString i), H, I.tok _, ⟨_, rfl⟩, by simpa only [PyData.shown] using q⟩
  | str x =>
    obtain ⟨u, rfl, t, rfl⟩ := vals1 r
    refine PySem.P.repr_of_str ⟨.str (reprText x), H, I.tok _, ⟨_, rfl⟩, by simpa only [PyData.shown] using q⟩ ?_
    simpa only [PyData.shown] using hz
theorem call_reprDK (hK : X.K = K) (hG : X.A.guards = some []) (hu : X.A.units + 64 < cLine) : CallR X (.builtin "repr") (rReprD K) := by
  subst hK; exact call_reprD hG hu
end
theorem reprD {K : PySem.W.Frag} {H : Hp} {v : V} {d : PyData} {k n : Nat} {Q : VK} {S : Str} (hd : Dp K H v d) (hs : Sh k n d) (hk : k ≤ 60) (hn : n ≤ 16000000) (e : d.shown = S) (q : Q (.str S) H) : rReprD K [v] H Q := by
  subst e
  exact ⟨v, d, rfl, hd, hs.1, hs.2.1, Nat.le_trans hs.2.2.1 hk, Nat.le_trans hs.2.2.2 (Nat.le_trans hn (by decide)), q⟩
theorem tk_hid {H : Hp} {a : Addr} {xs : List V} (h : H a = some (.lst xs)) : Tk H (hid a H) := fun b o no hb => by
  unfold hid
  rw [if_neg ?_]
  · exact hb
  · rintro rfl
    rw [h] at hb
    cases hb
    exact no _ rfl
theorem Dp.q {K : PySem.W.Frag} {H : Hp} {a s : Addr} {n : Nat} {v : V} {d : PyData} (f : Fd H a s n) (ht : tupOnly d = true) (h : Dp K H v d) : Dq K a H v d := by
  obtain ⟨xs, hx⟩ := f.at
  exact Dp.tk (tk_hid hx) _ _ ht h
theorem dpa_rep {K : PySem.W.Frag} {H : Hp} {v : V} {d : PyData} (h : Dp K H v d) : ∀ n : Nat, DpAll K H (List.replicate n v) (List.replicate n d)
  | 0 => .nil
  | n + 1 => .cons h (dpa_rep h n)
theorem flat_rep {v : V} : ∀ n : Nat, (List.replicate n [v]).flatten = List.replicate n v
  | 0 => rfl
  | n + 1 => by rw [List.replicate_succ, List.replicate_succ, List.flatten_cons, flat_rep n]; rfl
/-- (x,) * n -/
theorem rep1_dp {K : PySem.W.Frag} {H : Hp} {x v : V} {d : PyData} {p : Addr} {k : Int} {Q : VK} (hx : SqT K H p [v]) (hv : Dp K H v d) (h1 : -1000 ≤ k) (h2 : k ≤ 1000)
    (q : ∀ u H', Same H H' → Dp K H' u (.tuple (List.replicate k.toNat d)) → Q u H') : rRepA K (.ref p) (.int k) H Q := by
  refine ⟨p, k, _, rfl, rfl, hx, (by simp), h1, h2, (by simp), ?_⟩
  intro p2 H2 e h
  rw [flat_rep] at h
  exact q _ _ e (.tup h (dpa_rep (Dp.same e _ _ hv) _))
end Gd
namespace Gd
open PySem PySem.Spec PyProof.Rows L2
/-! ### dicts with tuples as keys: a comprehension, a display of one -/
/-- a key and its value come into a dict that a comprehension or a display makes -/
theorem put_tup {X : Cx} {pins : List (Addr × Obj)} {σ : L2.St} {H : Hp} {s : Shared} {A : Around} {E : Value → Shared → Prop} {D b : Addr} {kvs : List (List L2.Key × V)} {k : List L2.Key} {v : V} {u r : Value}
    {Q : Unit → Shared → Prop} (room : A.units < cLine) (I : Inv X pins σ H s) (hD : H D = some (.dT kvs)) (fits : kvs.length < sizeLine) (hb : H b = some (.tup (k.map kV)))
    (ru : RelV (.ref b) u) (rv : RelV v r) (go : ∀ s', Inv X pins σ (upd H D (.dT (putK kvs k v))) s' → Q () s') : wpAny (model X.prog X.w) A (dictSet D u r) Q E s := by
  have hu : u = Value.ref b := ru
  subst hu
  obtain ⟨z, hne, es, rel, dd⟩ := dt_of I.hok hD
  have len := Paired.length rel
  have more := length_putK kvs k v
  refine wpAny_dictSet_heap (knd := tupleKind (mixKind X.prog X.w)) (hsz := by omega) room (key_of I.hok hb) dd fun h' dd' sb => go _ ?_
  obtain ⟨q, xs, ep, g1, g2, g3, g4, _, g5⟩ := dd'
  have keep : ∀ c ys, H c = some (.tup ys) → upd H D (.dT (putK kvs k v)) c = some (.tup ys) := fun c ys hc => by
    rw [upd_ne (ne_of hc hD (fun e => nomatch e))]
    exact hc
  exact d_write I (by rw [hD]; trivial) sb ⟨q, g1⟩ ⟨by omega, hne, _, (rel.put k hb rv).keeps keep, q, xs, ep, g1, g2, g3, g4, g5⟩
section
variable {X : Cx}
/-- {k: v for target in iter if ..}, the keys tuples of numbers and texts -/
def tDcT (wi : TI) (g : TG) (tt : TT) (tk tv : TE) (own : List Nat) : TE := fun σ H Q => wi σ H fun J H1 => ∀ D, H1 D = none →
  ∃ W : Nat → Nat → Hp → Prop, (∃ m, W 0 m (upd H1 D (.dT []))) ∧ ∀ i m H, W i m H → (J.stop i H ∧ Q (.ref D) H) ∨
    (J.go i H ∧ ∃ Nx : Hp → Prop, (∀ H', Nx H' → ∃ m', m' < m ∧ W (i + 1) m' H') ∧
      ∀ x H', J.yld i H x H' → g x (wipe σ own) H' fun σ2 H2 => wipe σ2 own = wipe σ own ∧ tt σ2 H2 fun yes H3 =>
        if yes = true then tk σ2 H3 fun y H4 => tv σ2 H4 fun z H5 => ∃ kvs k b, y = .ref b ∧ H5 b = some (.tup (k.map kV)) ∧ H5 D = some (.dT kvs) ∧ kvs.length < sizeLine ∧ Nx (upd H5 D (.dT (putK kvs k z)))
        else Nx H3)
theorem pe_dcT {kx vx tg iter : Expr} {ifs : List Expr} {scope : Scope} {own : List (Str × Nat)} {pos : Pos} {wi : TI} {g : TG} {tt : TT} {tk tv : TE} (room : X.A.units < cLine) (calm : X.calm = true) (nd : X.N.Nodup)
    (hi : PI X tg iter wi) (ok : BlkOk X.N X.env.scope scope own)
    (hg : ∀ s H C cl fp, PG (X.blk s H scope (compEnvC scope cl C X.env) fp) tg g) (ht : ∀ s H C cl fp, PTs (X.blk s H scope (compEnvC scope cl C X.env) fp) ifs tt)
    (hk : ∀ s H C cl fp, PE (X.blk s H scope (compEnvC scope cl C X.env) fp) kx tk) (he : ∀ s H C cl fp, PE (X.blk s H scope (compEnvC scope cl C X.env) fp) vx tv)
    (fold : ∀ x, foldedSetIterable iter X.env x = pure x := by intro _; rfl) : PE X (.DictComp kx vx [⟨tg, iter, ifs, 0⟩] scope pos) (tDcT wi g tt tk tv (own.map (·.2))) := by
  refine ⟨fun pins s σ H Q I want => ?_⟩
  rw [arm_eval_DictComp]
  have cells : closureFor scope X.env = pure (cloFrom X.env.cells scope.names []) := closure_ok fun y hy e => (ok.free y hy e).elim (fun q => I.ok.has _ (.inl q)) (fun q => I.ok.has _ (.inr q))
  refine wpAny_comprehension_free rfl fold cells ok.kind (fun y hy e => by rw [ok.uniq y hy, e]) (thn (hi.run pins s σ H _ I want) fun xv s1 hx => thn hx fun itv s2 hit => ?_)
  obtain ⟨it, fp, tn, J, H2, rfl, I2, T, st2, f2, rest⟩ := hit
  refine wpAny_newObj_type (newEnv_comp ?_)
  obtain ⟨D, hD⟩ : ∃ D, s2.heap.objs.size = D := ⟨_, rfl⟩
  rw [hD]
  have new : H2 D = none := I2.hok.fresh (Nat.le_of_eq hD)
  obtain ⟨W, ⟨m0, w0⟩, turn⟩ := rest D new
  have small : ∀ b ∈ fp, b < s2.heap.objs.size := fun b hb => let ⟨_, e, _⟩ := T.obj _ _ st2 b hb; Heap.lt_size e
  -- the state with the new dict
  obtain ⟨s3, hs3⟩ : ∃ s3 : Shared, s3 = { s2 with heap := s2.heap.push { cls := .type "dict", data := .dict #[] } } := ⟨_, rfl⟩
  have up3 : s3.heap = s2.heap.push { cls := .type "dict", data := .dict #[] } := by rw [hs3]
  obtain ⟨H3, hH3⟩ : ∃ H3, H3 = upd H2 D (.dT []) := ⟨_, rfl⟩
  have I3 : Inv X pins σ H3 s3 := by
    rw [hs3, hH3]
    refine I2.laid (t' := s2.toks) (fun b o e => Heap.get?_push_of_some _ e) (Nat.le_of_eq hD) ?_
    rw [← hD]
    exact dt_empty s2.heap I2.big
  have f3 : ∀ b ∈ fp, FpOk X pins H3 b ∧ b < s3.heap.objs.size := fun b hb => by
    have lt := small b hb
    have off : H3 b = H2 b := by rw [hH3, upd_ne (Nat.ne_of_lt (hD ▸ lt))]
    exact ⟨⟨by rw [off]; exact (f2 b hb).1, (f2 b hb).2⟩, by rw [up3, Heap.size_push]; exact Nat.lt_succ_of_lt lt⟩
  have st3 : tn 0 s3.heap := T.keep _ _ _ st2 fun b _ o e => by rw [up3]; exact Heap.get?_push_of_some _ e
  have off3 : ∀ b ∈ fp, H3 b = none := fun b hb => (f3 b hb).1.1
  rw [← hH3] at w0
  -- the block
  have I4 := block_start I3 ok nd f3
  obtain ⟨ce, hce⟩ : ∃ ce, compEnvC scope (cellsFrom (s3.heap.objs.size + 1) scope.names (cloFrom X.env.cells scope.names [])) s3.heap.objs.size X.env = ce := ⟨_, rfl⟩
  have pg := hg s3 H3 s3.heap.objs.size (cellsFrom (s3.heap.objs.size + 1) scope.names (cloFrom X.env.cells scope.names [])) fp
  have pt := ht s3 H3 s3.heap.objs.size (cellsFrom (s3.heap.objs.size + 1) scope.names (cloFrom X.env.cells scope.names [])) fp
  have pk := hk s3 H3 s3.heap.objs.size (cellsFrom (s3.heap.objs.size + 1) scope.names (cloFrom X.env.cells scope.names [])) fp
  have pv := he s3 H3 s3.heap.objs.size (cellsFrom (s3.heap.objs.size + 1) scope.names (cloFrom X.env.cells scope.names [])) fp
  rw [hce] at I4 pg pt pk pv
  have loc : ce.locals = s3.heap.objs.size := by rw [← hce]; rfl
  obtain ⟨s4, hs4⟩ : ∃ s4 : Shared, { s3 with heap := pushCells (s3.heap.push { cls := .type "dict", data := .dict #[] }) scope.names } = s4 := ⟨_, rfl⟩
  rw [hs4] at I4
  have st4 : tn 0 s4.heap := T.keep _ _ _ st3 fun b _ o e => by rw [← hs4]; exact pushCells_keeps _ _ _ _ (Heap.get?_push_of_some _ e)
  obtain ⟨R, hR⟩ : ∃ R : Result → Shared → Prop, R = compPost (model X.prog X.w) X.A X.xe none (EP X pins σ Q) (.ref D) s3.heap.objs.size := ⟨_, rfl⟩
  have free : ∀ {σ' : L2.St} {H' : Hp} {s' : Shared}, Inv (X.blk s3 H3 scope ce fp) [] σ' H' s' → (∀ b ∈ fp, H' b = none) → ∀ b ∈ fp, FpOk (X.blk s3 H3 scope ce fp) [] H' b := fun J' off b hb =>
    ⟨off b hb, (J'.ok.exf b hb).1, J'.ok.exfs b hb, .inl hb, (J'.ok.exf b hb).2, fun p hp => absurd (show p ∈ ([] : List (Addr × Obj)) ++ [] from hp) (by simp)⟩
  have loop : codeAny (model X.prog X.w) X.A (.compLoop (.DictComp kx vx [⟨tg, iter, ifs, 0⟩] scope pos) 0 (.ref it) (.ref D) ce) R s4 := by
    refine compLoop_anyD (fun n s' => ∃ i H', Inv (X.blk s3 H3 scope ce fp) [] (wipe σ (own.map (·.2))) H' s' ∧ tn i s'.heap ∧ (∀ b ∈ fp, H' b = none) ∧ W i n H') ?_ m0 ⟨0, H3, I4, st4, off3, w0⟩
    rintro n s5 ⟨i, H5, I5, st5, off5, w5⟩
    rcases turn i n H5 w5 with ⟨halt, told⟩ | ⟨more, Nx, hNx, step⟩
    · refine thnF (T.done (X.blk s3 H3 scope ce fp) rfl rfl rfl calm i [] s5 _ H5 (fun _ _ => False) I5 (free I5 off5) st5 halt) fun r s6 hr => ?_
      obtain ⟨rfl, I6⟩ := hr
      have back : Inv X pins σ H5 s6 := I3.call' (ch := fp) I6.os I6.base I6.hok I6.bare fun b hb => let z := (f3 b hb).1; ⟨z.2.2.2.1, z.2.1, z.2.2.2.2.1, z.2.2.2.2.2⟩
      have fr : H5 s3.heap.objs.size = none := loc ▸ (I6.free : H5 ce.locals = none)
      obtain ⟨m, ns, _⟩ := I6.loc
      have ns : s6.heap.Ns s3.heap.objs.size m := loc ▸ (ns : s6.heap.Ns ce.locals m)
      obtain ⟨z0, z1, z2, z3, z4, z5⟩ := I3.fpOk (Nat.le_refl _) fr
      rw [hR]
      exact ⟨m, ns, fun h' sb => ⟨.ref D, H5, back.turned (t' := s6.toks) (fun b o hb e => (sb.2 b hb).trans e) z0 z1 z3 z4 z5, rfl, told⟩⟩
    · refine thnF (T.item (X.blk s3 H3 scope ce fp) rfl rfl rfl calm i [] s5 _ H5 (fun _ _ => False) I5 (free I5 off5) st5 more) fun r s6 hr => ?_
      obtain ⟨u, rfl, h6⟩ := hr
      refine thnF h6 fun _ s7 h7 => ?_
      obtain ⟨x, H7, I7, r7, y7, st7, off7⟩ := h7
      have pin := I7.pinned (free I7 off7) (T.obj _ _ st7)
      refine thnF (pg.run _ s7 _ H7 x u _ pin r7 (step x H7 y7)) fun _ s8 h8 => ?_
      obtain ⟨σ8, H8, I8, hw8, q8⟩ := h8
      have last : ∀ {s' : Shared} {H' : Hp}, Inv (X.blk s3 H3 scope ce fp) ([] ++ pinsAt fp s7.heap) σ8 H' s' → Nx H' →
          ∃ m, m < n ∧ ∃ i H', Inv (X.blk s3 H3 scope ce fp) [] (wipe σ (own.map (·.2))) H' s' ∧ tn i s'.heap ∧ (∀ b ∈ fp, H' b = none) ∧ W i m H' := fun {s' H'} J' nx => by
        obtain ⟨m', lt, w'⟩ := hNx H' nx
        have stay : ∀ b ∈ fp, ∀ o, s7.heap.get? b = some o → s'.heap.get? b = some o ∧ H' b = none := fun b hb o e =>
          have z := J'.pin (b, o) (List.mem_append_right _ (List.mem_append_right _ (mem_pinsAt hb e)))
          ⟨z.1, z.2.1⟩
        refine ⟨m', lt, i + 1, H', (J'.unpinned (pins := [])).weak (by rw [← hw8, wipe_length]) (fun j v e => (wipe_some (by rw [hw8]; exact e)).1), T.keep _ _ _ st7 fun b hb o e => (stay b hb o e).1, fun b hb => ?_, w'⟩
        obtain ⟨o, e, _⟩ := T.obj _ _ st7 b hb
        exact (stay b hb o e).2
      refine thnF (pt.run _ s8 σ8 H8 _ I8 q8) fun yes s9 h9 => ?_
      obtain ⟨H9, I9, q9⟩ := h9
      cases yes with
      | false =>
        rw [if_neg (by decide)] at q9 ⊢
        exact last I9 q9
      | true =>
        rw [if_pos rfl] at q9 ⊢
        refine thnF (pk.run _ s9 σ8 H9 _ I9 q9) fun z1 s10 h10 => ?_
        obtain ⟨yk, H10, I10, r10, q10⟩ := h10
        refine thnF (pv.run _ s10 σ8 H10 _ I10 q10) fun z2 s11 h11 => ?_
        obtain ⟨yv, H11, I11, r11, kvs, k, b, rfl, hb, hD11, fits, nx⟩ := h11
        exact put_tup (X := X.blk s3 H3 scope ce fp) room I11 hD11 fits hb r10 r11 fun s12 I12 => last I12 nx
  have start := codeAny_compStart_dict loop (T.self X.A 0 _ _ _ st4 loop)
  rw [hR, ← hs4, ← hce] at start
  subst hs3
  exact start
/-- {k: v}, k a tuple -/
def tDisp1T (tk tv : TE) : TE := fun σ H Q => ∀ p, H p = none → tPairs [(tk, tv)] σ (upd H p (.dT [])) fun ps H2 => ∃ k b z, ps = [(V.ref b, z)] ∧ H2 b = some (.tup (k.map kV)) ∧ H2 p = some (.dT []) ∧ Q (.ref p) (upd H2 p (.dT [(k, z)]))
theorem pe_disp1T {pos : Pos} {kx vx : Expr} {tk tv : TE} (room : X.A.units < cLine) (hk : PE X kx tk) (hv : PE X vx tv) : PE X (.Dict [some kx] [vx] pos) (tDisp1T tk tv) := by
  refine ⟨fun pins s σ H Q I want => ?_⟩
  have new := I.hok.fresh (Nat.le_refl s.heap.objs.size)
  have I1 := I.laid (a := s.heap.objs.size) (o := .dT []) (h' := s.heap.push { cls := .type "dict", data := .dict #[] }) (t' := s.toks) (fun _ _ q => Heap.get?_push_of_some _ q) (Nat.le_refl _) (dt_empty s.heap I.big)
  have pairs : PPs X pos [some kx] [vx] [(tk, tv)] := pps_cons hk hv pps_nil
  refine wpAny_Dict_any rfl rfl (by simp) (by simp) (thn (pairs.run pins _ σ _ _ I1 (want s.heap.objs.size new)) fun vs s2 h2 => ?_)
  obtain ⟨ps, H2, I2, rel, k, b, z, rfl, hb, hD, q⟩ := h2
  cases rel with
  | cons r1 r2 =>
    cases r2
    rename_i w
    unfold storeAll
    rw [List.forIn_cons]
    refine wpAny_bind (wpAny_bind (put_tup room I2 hD (by decide) hb r1.1 r1.2 fun s3 I3 => wpAny_pure ?_))
    dsimp only
    rw [List.forIn_nil]
    exact wpAny_pure ⟨.ref s.heap.objs.size, _, I3, rfl, q⟩
end
end Gd
namespace Gd
open PySem PySem.Spec PyProof.Rows L2
/-! ### tuples of row numbers, own ones, as keys -/
def nV (c : List Nat) : List V := c.map fun (n : Nat) => V.int (n : Int)
def kc (c : List Nat) : List L2.Key := c.map fun (n : Nat) => Sum.inl (n : Int)
theorem kc_map (c : List Nat) : (kc c).map kV = nV c := by
  unfold kc nV
  rw [List.map_map]
  rfl
theorem kc_inj : ∀ {c d : List Nat}, kc c = kc d → c = d
  | [], [], _ => rfl
  | [], _ :: _, h => by simp [kc] at h
  | _ :: _, [], h => by simp [kc] at h
  | a :: c, b :: d, h => by
    simp only [kc, List.map_cons, List.cons.injEq, Sum.inl.injEq] at h
    have e1 : a = b := by omega
    have e2 : c = d := kc_inj h.2
    rw [e1, e2]
inductive Tts (H : Hp) : List V → List (List Nat) → Prop
  | nil : Tts H [] []
  | cons {b : Addr} {xs : List V} {c : List Nat} {cs : List (List Nat)} (h : H b = some (.tup (nV c))) (t : Tts H xs cs) : Tts H (.ref b :: xs) (c :: cs)
theorem Tts.tk {H H' : Hp} {xs : List V} {cs : List (List Nat)} (t : Tts H xs cs) (e : Tk H H') : Tts H' xs cs := by
  induction t with
  | nil => exact .nil
  | cons h _ ih => exact .cons (e _ _ (fun _ z => by cases z) h) ih
theorem Tts.len {H : Hp} {xs : List V} {cs : List (List Nat)} (t : Tts H xs cs) : xs.length = cs.length := by
  induction t with
  | nil => rfl
  | cons _ _ ih => simp [ih]
theorem Tts.get {H : Hp} {xs : List V} {cs : List (List Nat)} (t : Tts H xs cs) : ∀ {i : Nat} {x : V}, xs[i]? = some x → ∃ b c, x = .ref b ∧ cs[i]? = some c ∧ H b = some (.tup (nV c)) := by
  induction t with
  | nil => intro i x h; simp at h
  | @cons b xs c cs h _ ih =>
    intro i x hx
    cases i with
    | zero =>
      simp at hx
      subst hx
      exact ⟨b, c, rfl, rfl, h⟩
    | succ i => exact ih (by simpa using hx)
theorem Tts.snoc {H : Hp} {xs : List V} {cs : List (List Nat)} {b : Addr} {c : List Nat} (t : Tts H xs cs) (h : H b = some (.tup (nV c))) : Tts H (xs ++ [.ref b]) (cs ++ [c]) := by
  induction t with
  | nil => exact .cons h .nil
  | cons h' _ ih => exact .cons h' ih
/-! ### choices -/
def lastN (c : List Nat) : Nat := c.getD (c.length - 1) 0
def goN (size : Nat) (c : List Nat) (n : Nat) : Bool := decide (size = 0) || decide (lastN c < n)
def extM (many size : Nat) (c : List Nat) : List (List Nat) := ((List.range many).filter (goN size c)).map fun n => c ++ [n]
def choicesM (many : Nat) : Nat → List (List Nat)
  | 0 => [[]]
  | k + 1 => (choicesM many k).flatMap (extM many k)
theorem choices_mem {many : Nat} : ∀ {k : Nat} {c : List Nat}, c ∈ choicesM many k → c.length = k ∧ ∀ n ∈ c, n < many
  | 0, c, h => by
    simp [choicesM] at h
    subst h
    exact ⟨rfl, fun n hn => by cases hn⟩
  | k + 1, c, h => by
    obtain ⟨d, hd, hc⟩ := List.mem_flatMap.mp h
    obtain ⟨n, hn, rfl⟩ := List.mem_map.mp hc
    obtain ⟨h1, h2⟩ := choices_mem hd
    have hn := List.mem_range.mp (List.mem_filter.mp hn).1
    refine ⟨by rw [List.length_append, h1]; rfl, fun x hx => ?_⟩
    rcases List.mem_append.mp hx with h | h
    · exact h2 x h
    · rw [List.mem_singleton.mp h]
      exact hn
theorem ext_len (many size : Nat) (c : List Nat) : (extM many size c).length ≤ many := by
  unfold extM
  rw [List.length_map]
  have := List.length_filter_le (goN size c) (List.range many)
  rw [List.length_range] at this
  exact this
theorem flat_len {many size : Nat} : ∀ cs : List (List Nat), (cs.flatMap (extM many size)).length ≤ cs.length * many
  | [] => by simp
  | c :: cs => by
    have h1 := ext_len many size c
    have h2 := flat_len (many := many) (size := size) cs
    rw [List.flatMap_cons, List.length_append, List.length_cons, Nat.add_mul]
    omega
def er (c : List Nat) (p : Nat) : List Nat := c.take p ++ c.drop (p + 1)
theorem choice_facts : ∀ w < 8, ∀ k < 8, (choicesM w k).Nodup ∧ (choicesM w k).length ≤ 35 := by decide +kernel
theorem choice_erase0 : ∀ w < 8, ∀ k < 7, ∀ c ∈ choicesM w (k + 1), ∀ p < k + 1, er c p ∈ choicesM w k := by decide +kernel
theorem choice_full : ∀ w < 8, List.range w ∈ choicesM w w := by decide +kernel
/-! ### corners by the first row -/
def sgnT (p : Nat) (x : Int) : Int := if p % 2 = 0 then x else -x
def rowM (r : List Int) (c : List Nat) (f : List Nat → Int) (j : Nat) : Int := sumR j fun p => sgnT p (r.getD (c.getD p 0) 0 * f (er c p))
def detM : List (List Int) → List Nat → Int
  | [], _ => 1
  | r :: rs, c => rowM r c (detM rs) c.length
/-! ### a dict told by a list -/
theorem val_map {cs : List (List Nat)} {v : List Nat → V} {c : List Nat} (h : c ∈ cs) : valV (cs.map fun c => (kc c, v c)) (kc c) = some (v c) := by
  induction cs with
  | nil => cases h
  | cons d cs ih =>
    unfold valV
    rw [List.map_cons, List.find?_cons]
    by_cases e : d = c
    · subst e
      simp
    · have ne : decide (kc d = kc c) = false := decide_eq_false fun z => e (kc_inj z)
      simp only [ne]
      have hc : c ∈ cs := by
        rcases List.mem_cons.mp h with z | z
        · exact absurd z.symm e
        · exact z
      exact ih hc
theorem put_new {kvs : List (List L2.Key × V)} {k : List L2.Key} {v : V} (h : ∀ kv ∈ kvs, kv.1 ≠ k) : putK kvs k v = kvs ++ [(k, v)] := by
  unfold putK
  rw [if_neg]
  rw [List.any_eq_true]
  rintro ⟨kv, hkv, e⟩
  exact h kv hkv (of_decide_eq_true e)
end Gd
namespace Gd
open PySem PySem.Spec PyProof.Rows L2
/-! ### own tuples of numbers -/
theorem nV_app (c d : List Nat) : nV (c ++ d) = nV c ++ nV d := List.map_append ..
theorem nV_len (c : List Nat) : (nV c).length = c.length := List.length_map ..
theorem nV_take (c : List Nat) (i : Nat) : nV (c.take i) = (nV c).take i := by unfold nV; rw [List.map_take]
theorem nV_drop (c : List Nat) (i : Nat) : nV (c.drop i) = (nV c).drop i := by unfold nV; rw [List.map_drop]
theorem nV_nil {c : List Nat} (h : nV c = []) : c = [] := List.map_eq_nil_iff.mp h
theorem nV_get {c : List Nat} {i : Nat} (h : i < c.length) : (nV c)[i]? = some (.int (c.getD i 0 : Nat)) := by
  unfold nV
  rw [List.getElem?_map, List.getElem?_eq_getElem h, List.getD_eq_getElem?_getD, List.getElem?_eq_getElem h]
  rfl
section
variable {K : PySem.W.Frag} {H : Hp} {Q : VK} {a b : Addr} {c d : List Nat}
theorem own_cat (ha : H a = some (.tup (nV c))) (hb : H b = some (.tup (nV d))) (hl : c.length + d.length ≤ 1000)
    (k : ∀ p H', Same H H' → H' p = some (.tup (nV (c ++ d))) → Q (.ref p) H') : rCatA K (.ref a) (.ref b) H Q := by
  refine ⟨a, b, nV c, nV d, rfl, rfl, SqT.of ha, SqT.of hb, ?_, ?_, ?_, ?_⟩
  · rw [nV_len, nV_len]
    exact Nat.le_trans hl (by decide)
  · intro h
    rw [nV_nil h] at k
    exact k b H (Same.refl H) hb
  · intro _ h
    rw [nV_nil h, List.append_nil] at k
    exact k a H (Same.refl H) ha
  · intro _ _ p np
    exact k p _ (Same.new np) (by rw [nV_app]; exact upd_same)
theorem own_sl {lo hi : Option Int} {i j : Nat} (ha : H a = some (.tup (nV c))) (hi1 : HT.sIx c.length 0 lo = i) (hj1 : HT.sIx c.length c.length hi = j)
    (k : ∀ p H', Same H H' → H' p = some (.tup (nV ((c.drop i).take (j - i)))) → Q (.ref p) H') : rSlA K (.ref a) lo hi H Q := by
  refine ⟨a, nV c, rfl, SqT.of ha, ?_, ?_⟩
  · rintro ⟨h1, h2⟩
    rw [nV_len] at h1 h2
    have e0 : i = 0 := by omega
    have e1 : j = c.length := by omega
    rw [e0, e1, List.drop_zero, Nat.sub_zero, List.take_length] at k
    exact k a H (Same.refl H) ha
  · intro _ p np
    have e : cutV (nV c) lo hi = nV ((c.drop i).take (j - i)) := by
      unfold cutV
      rw [nV_len, hi1, hj1, nV_take, nV_drop]
    rw [e]
    exact k p _ (Same.new np) upd_same
theorem own_to {i : Nat} {z : Int} (hz : z = (i : Int)) (ha : H a = some (.tup (nV c)))
    (k : ∀ p H', Same H H' → H' p = some (.tup (nV (c.take i))) → Q (.ref p) H') : rSlA K (.ref a) none (some z) H Q := by
  subst hz
  refine own_sl ha (i := 0) (j := min i c.length) rfl (HT.sIx_nat _ _ _) fun v H' e h => k v H' e ?_
  have : (c.drop 0).take (min i c.length - 0) = c.take i := by
    rw [List.drop_zero, Nat.sub_zero]
    by_cases hi : i ≤ c.length
    · rw [Nat.min_eq_left hi]
    · rw [Nat.min_eq_right (by omega), List.take_length, List.take_of_length_le (by omega)]
  rw [this] at h
  exact h
theorem own_from {i : Nat} {z : Int} (hz : z = (i : Int)) (ha : H a = some (.tup (nV c)))
    (k : ∀ p H', Same H H' → H' p = some (.tup (nV (c.drop i))) → Q (.ref p) H') : rSlA K (.ref a) (some z) none H Q := by
  subst hz
  refine own_sl ha (i := min i c.length) (j := c.length) (HT.sIx_nat _ _ _) rfl fun v H' e h => k v H' e ?_
  have : (c.drop (min i c.length)).take (c.length - min i c.length) = c.drop i := by
    rw [List.take_of_length_le (by rw [List.length_drop]; omega)]
    by_cases hi : i ≤ c.length
    · rw [Nat.min_eq_left hi]
    · rw [Nat.min_eq_right (by omega), List.drop_length, List.drop_of_length_le (by omega)]
  rw [this] at h
  exact h
theorem own_ix {i : Int} {j : Nat} (hz : i = (j : Int)) (ha : H a = some (.tup (nV c))) (hj : j < c.length)
    (k : Q (.int (c.getD j 0 : Nat)) H) : rIxT K (.ref a) (.int i) H Q :=
  ⟨a, nV c, i, _, rfl, rfl, SqT.of ha, by rw [hz]; exact atI_nat (nV_get hj), k⟩
end
/-! ### loops over a list and over numbers, the body as it comes -/
theorem lcG {K : PySem.W.Frag} {a : Addr} {xs : List V} {Bd : V → Hp → (Hp → Prop) → Prop} {H1 : Hp} {Qd : Hp → Prop} (Pv : Nat → Hp → Prop) (h0 : Pv 0 H1) (hl : ∀ i H, i ≤ xs.length → Pv i H → SqL K H a xs)
    (hs : ∀ i x H, xs[i]? = some x → Pv i H → Bd x H (Pv (i + 1))) (hd : ∀ H, Pv xs.length H → Qd H) :
    ∃ W : Nat → Nat → Hp → Prop, (∃ m, W 0 m H1) ∧ ∀ i m H, W i m H →
      ((Itl K a).stop i H ∧ Qd H) ∨ ((Itl K a).go i H ∧ ∃ Nx : Hp → Prop, (∀ H', Nx H' → ∃ m', m' < m ∧ W (i + 1) m' H') ∧ ∀ x H', (Itl K a).yld i H x H' → Bd x H' Nx) := by
  refine ⟨fun i m H => m = xs.length - i ∧ i ≤ xs.length ∧ Pv i H, ⟨xs.length, by simp, Nat.zero_le _, h0⟩, ?_⟩
  rintro i m H ⟨rfl, hi, p⟩
  have q := hl i H hi p
  by_cases hlt : i < xs.length
  · refine .inr ⟨⟨xs, _, q, List.getElem?_eq_getElem hlt⟩, Pv (i + 1), fun H' p' => ⟨xs.length - (i + 1), by omega, rfl, hlt, p'⟩, fun x H' y => ?_⟩
    obtain ⟨e, y⟩ := y
    subst e
    exact hs i x _ (y xs q) p
  · have e : i = xs.length := by omega
    subst e
    exact .inl ⟨⟨xs, q, Nat.le_refl _⟩, hd H p⟩
theorem lcGr {lo : Int} {n : Nat} {Bd : V → Hp → (Hp → Prop) → Prop} {H1 : Hp} {Qd : Hp → Prop} (Pv : Nat → Hp → Prop) (h0 : Pv 0 H1)
    (hs : ∀ i H, i < n → Pv i H → Bd (.int (lo + i)) H (Pv (i + 1))) (hd : ∀ H, Pv n H → Qd H) :
    ∃ W : Nat → Nat → Hp → Prop, (∃ m, W 0 m H1) ∧ ∀ i m H, W i m H →
      ((Itr lo n).stop i H ∧ Qd H) ∨ ((Itr lo n).go i H ∧ ∃ Nx : Hp → Prop, (∀ H', Nx H' → ∃ m', m' < m ∧ W (i + 1) m' H') ∧ ∀ x H', (Itr lo n).yld i H x H' → Bd x H' Nx) := by
  refine ⟨fun i m H => m = n - i ∧ i ≤ n ∧ Pv i H, ⟨n, by simp, Nat.zero_le _, h0⟩, ?_⟩
  rintro i m H ⟨rfl, hi, p⟩
  by_cases hlt : i < n
  · refine .inr ⟨hlt, Pv (i + 1), fun H' p' => ⟨n - (i + 1), by omega, rfl, hlt, p'⟩, fun x H' y => ?_⟩
    obtain ⟨e, y⟩ := y
    subst e y
    exact hs i _ hlt p
  · have e : i = n := by omega
    subst e
    exact .inl ⟨Nat.le_refl _, hd H p⟩
theorem Tk.put {H : Hp} {D : Addr} {ys zs : List V} (h : H D = some (.lst ys)) : Tk H (upd H D (.lst zs)) := fun b o ne hb => by
  by_cases e : b = D
  · subst e
    rw [h] at hb
    cases hb
    exact absurd rfl (ne ys)
  · rw [upd_ne e]
    exact hb
theorem Same.put {H0 H : Hp} {D : Addr} {o : HO} (e : Same H0 H) (n : H0 D = none) : Same H0 (upd H D o) := fun b o' hb => by
  by_cases z : b = D
  · subst z
    rw [n] at hb
    cases hb
  · rw [upd_ne z]
    exact e _ _ hb
theorem Tts.same {H H' : Hp} {xs : List V} {cs : List (List Nat)} (t : Tts H xs cs) (e : Same H H') : Tts H' xs cs := t.tk fun b o _ h => e b o h
theorem flat_take {cs : List (List Nat)} {many size i : Nat} {c : List Nat} (h : cs[i]? = some c) : (cs.take (i + 1)).flatMap (extM many size) = (cs.take i).flatMap (extM many size) ++ extM many size c := by
  rw [List.take_succ, h, List.flatMap_append]
  simp
theorem ext_succ {size q : Nat} {c : List Nat} : extM (q + 1) size c = extM q size c ++ (if goN size c q = true then [c ++ [q]] else []) := by
  unfold extM
  rw [List.range_succ, List.filter_append, List.map_append]
  by_cases h : goN size c q = true
  · simp [h]
  · simp [h]
theorem ixN_back {n s : Nat} (h0 : 0 < s) (h : s ≤ n) : ixN n (-(s : Int)) = some (n - s) := by
  unfold ixN
  rw [if_neg (by omega)]
  first
    | (rw [if_pos (by omega)]; congr 1; omega)
    | (split <;> first | (congr 1; omega) | omega)
theorem atI_last {c : List Nat} (h : 0 < c.length) : atI (nV c) (-1) = some (.int (lastN c : Nat)) := by
  have e := nV_get (c := c) (i := c.length - 1) (by omega)
  unfold atI
  have := ixN_back (n := c.length) (s := 1) (by omega) h
  rw [nV_len, show (-1 : Int) = -((1 : Nat) : Int) from rfl, this]
  exact e
end Gd
namespace Gd
open PySem PySem.Spec PyProof.Rows L2
/-! ### orders with signs -/
inductive Tos (H : Hp) : List V → List (List Nat × Int) → Prop
  | nil : Tos H [] []
  | cons {T b : Addr} {xs : List V} {o : List Nat} {s : Int} {os : List (List Nat × Int)} (hT : H T = some (.tup [.ref b, .int s])) (h : H b = some (.tup (nV o))) (t : Tos H xs os) : Tos H (.ref T :: xs) ((o, s) :: os)
theorem Tos.tk {H H' : Hp} {xs : List V} {os : List (List Nat × Int)} (t : Tos H xs os) (e : Tk H H') : Tos H' xs os := by
  induction t with
  | nil => exact .nil
  | cons h1 h2 _ ih => exact .cons (e _ _ (fun _ z => by cases z) h1) (e _ _ (fun _ z => by cases z) h2) ih
theorem Tos.same {H H' : Hp} {xs : List V} {os : List (List Nat × Int)} (t : Tos H xs os) (e : Same H H') : Tos H' xs os := t.tk fun b o _ h => e b o h
theorem Tos.len {H : Hp} {xs : List V} {os : List (List Nat × Int)} (t : Tos H xs os) : xs.length = os.length := by
  induction t with
  | nil => rfl
  | cons _ _ _ ih => simp [ih]
theorem Tos.get {H : Hp} {xs : List V} {os : List (List Nat × Int)} (t : Tos H xs os) : ∀ {i : Nat} {x : V}, xs[i]? = some x → ∃ T b o s, x = .ref T ∧ os[i]? = some (o, s) ∧ H T = some (.tup [.ref b, .int s]) ∧ H b = some (.tup (nV o)) := by
  induction t with
  | nil => intro i x h; simp at h
  | @cons T b xs o s os h1 h2 _ ih =>
    intro i x hx
    cases i with
    | zero =>
      simp at hx
      subst hx
      exact ⟨T, b, o, s, rfl, rfl, h1, h2⟩
    | succ i => exact ih (by simpa using hx)
theorem Tos.snoc {H : Hp} {xs : List V} {os : List (List Nat × Int)} {T b : Addr} {o : List Nat} {s : Int} (t : Tos H xs os) (hT : H T = some (.tup [.ref b, .int s])) (h : H b = some (.tup (nV o))) : Tos H (xs ++ [.ref T]) (os ++ [(o, s)]) := by
  induction t with
  | nil => exact .cons hT h .nil
  | cons h1 h2 _ ih => exact .cons h1 h2 ih
def sgO (k a : Nat) : Int := if (k - a) % 2 = 0 then 1 else -1
def ordExt (k : Nat) (os : List Nat × Int) (m : Nat) : List (List Nat × Int) := (List.range m).map fun a => (os.1.take a ++ [k] ++ os.1.drop a, os.2 * sgO k a)
def ordersM : Nat → List (List Nat × Int)
  | 0 => [([], 1)]
  | k + 1 => (ordersM k).flatMap fun os => ordExt k os (k + 1)
theorem orders_facts : ∀ n < 6, (ordersM n).length ≤ 120 ∧ ∀ os ∈ ordersM n, os.1.length = n ∧ ∀ x ∈ os.1, x < n := by decide +kernel
theorem ordExt_succ {k m : Nat} {os : List Nat × Int} : ordExt k os (m + 1) = ordExt k os m ++ [(os.1.take m ++ [k] ++ os.1.drop m, os.2 * sgO k m)] := by
  unfold ordExt
  rw [List.range_succ, List.map_append]
  rfl
theorem ord_take {os : List (List Nat × Int)} {k i : Nat} {o : List Nat × Int} (h : os[i]? = some o) : (os.take (i + 1)).flatMap (fun z => ordExt k z (k + 1)) = (os.take i).flatMap (fun z => ordExt k z (k + 1)) ++ ordExt k o (k + 1) := by
  rw [List.take_succ, h, List.flatMap_append]
  simp
theorem ord_len {k m : Nat} {os : List Nat × Int} : (ordExt k os m).length = m := by simp [ordExt]
theorem ordF_len {k : Nat} : ∀ os : List (List Nat × Int), (os.flatMap fun z => ordExt k z (k + 1)).length = os.length * (k + 1)
  | [] => by simp
  | o :: os => by
    rw [List.flatMap_cons, List.length_append, ord_len, ordF_len os, List.length_cons, Nat.add_mul]
    omega
/-! ### corners by orders -/
def prodM (rs : List (List Int)) (o : List Nat) (s : Int) : Nat → Int
  | 0 => s
  | i + 1 => prodM rs o s i * (rs.getD i []).getD (o.getD i 0) 0
def legM (rs : List (List Int)) (os : List (List Nat × Int)) : Int := (os.map fun z => prodM rs z.1 z.2 rs.length).sum
theorem leg_take {rs : List (List Int)} {os : List (List Nat × Int)} {i : Nat} {z : List Nat × Int} (h : os[i]? = some z) : legM rs (os.take (i + 1)) = legM rs (os.take i) + prodM rs z.1 z.2 rs.length := by
  unfold legM
  rw [List.take_succ, h, List.map_append, List.sum_append]
  simp
theorem row_cases1 {r : List Int} (h : r.length = 1) : ∃ a, r = [a] := by
  match r, h with
  | [a], _ => exact ⟨a, rfl⟩
theorem row_cases2 {r : List Int} (h : r.length = 2) : ∃ a b, r = [a, b] := by
  match r, h with
  | [a, b], _ => exact ⟨a, b, rfl⟩
theorem row_cases3 {r : List Int} (h : r.length = 3) : ∃ a b c, r = [a, b, c] := by
  match r, h with
  | [a, b, c], _ => exact ⟨a, b, c, rfl⟩
theorem row_cases4 {r : List Int} (h : r.length = 4) : ∃ a b c d, r = [a, b, c, d] := by
  match r, h with
  | [a, b, c, d], _ => exact ⟨a, b, c, d, rfl⟩
theorem leib1 (a : Int) : detM [[a]] (List.range 1) = legM [[a]] (ordersM 1) := by
  have e1 : List.range 1 = [0] := rfl
  have e2 : ordersM 1 = [([0], 1)] := by decide +kernel
  rw [e1, e2]
  simp [detM, rowM, sumR, er, sgnT, legM, prodM, List.range_succ]
theorem leib2 (a b c d : Int) : detM [[a, b], [c, d]] (List.range 2) = legM [[a, b], [c, d]] (ordersM 2) := by
  have e1 : List.range 2 = [0, 1] := rfl
  have e2 : ordersM 2 = [([1, 0], -1), ([0, 1], 1)] := by decide +kernel
  rw [e1, e2]
  simp [detM, rowM, sumR, er, sgnT, legM, prodM, List.range_succ]
  grind
theorem leib3 (a b c d e f g h i : Int) : detM [[a, b, c], [d, e, f], [g, h, i]] (List.range 3) = legM [[a, b, c], [d, e, f], [g, h, i]] (ordersM 3) := by
  have e1 : List.range 3 = [0, 1, 2] := rfl
  rw [e1]
  simp [detM, rowM, sumR, er, sgnT, legM, prodM, List.range_succ, ordersM, ordExt, sgO]
  grind
end Gd
namespace Gd
open PySem PySem.Spec PyProof.Rows L2
theorem leib4 (a b c d e f g h i j k l m n o p : Int) : detM [[a, b, c, d], [e, f, g, h], [i, j, k, l], [m, n, o, p]] (List.range 4) = legM [[a, b, c, d], [e, f, g, h], [i, j, k, l], [m, n, o, p]] (ordersM 4) := by
  have e1 : List.range 4 = [0, 1, 2, 3] := rfl
  rw [e1]
  simp [detM, rowM, sumR, er, sgnT, legM, prodM, List.range_succ, ordersM, ordExt, sgO]
  grind
theorem leib {rs : List (List Int)} {n : Nat} (hn : n ≤ 4) (hl : rs.length = n) (hw : ∀ r ∈ rs, r.length = n) : detM rs (List.range n) = legM rs (ordersM n) := by
  match n, rs, hn, hl, hw with
  | 0, [], _, _, _ => rfl
  | 1, [r], _, _, hw =>
    obtain ⟨a, rfl⟩ := row_cases1 (hw r (by simp))
    exact leib1 a
  | 2, [r, s], _, _, hw =>
    obtain ⟨a, b, rfl⟩ := row_cases2 (hw r (by simp))
    obtain ⟨c, d, rfl⟩ := row_cases2 (hw s (by simp))
    exact leib2 a b c d
  | 3, [r, s, t], _, _, hw =>
    obtain ⟨a, b, c, rfl⟩ := row_cases3 (hw r (by simp))
    obtain ⟨d, e, f, rfl⟩ := row_cases3 (hw s (by simp))
    obtain ⟨g, h, i, rfl⟩ := row_cases3 (hw t (by simp))
    exact leib3 ..
  | 4, [r, s, t, u], _, _, hw =>
    obtain ⟨a, b, c, d, rfl⟩ := row_cases4 (hw r (by simp))
    obtain ⟨e, f, g, h, rfl⟩ := row_cases4 (hw s (by simp))
    obtain ⟨i, j, k, l, rfl⟩ := row_cases4 (hw t (by simp))
    obtain ⟨m, n, o, p, rfl⟩ := row_cases4 (hw u (by simp))
    exact leib4 ..
end Gd
namespace Gd
open PySem PySem.Spec PyProof.Rows L2
/-! ### slices of data -/
section
variable {K : PySem.W.Frag} {H : Hp} {ds : List PyData} {Q : VK} {x : V}
theorem slp {lo hi : Option Int} {i j : Nat} (hx : Dp K H x (.tuple ds)) (hi1 : HT.sIx ds.length 0 lo = i) (hj1 : HT.sIx ds.length ds.length hi = j)
    (k : ∀ v H', Same H H' → Dp K H' v (.tuple ((ds.drop i).take (j - i))) → Q v H') : rSlA K x lo hi H Q := by
  obtain ⟨b, xs, rfl, hs, ha⟩ := dp_tup hx
  have l1 := dpa_len _ _ ha
  refine ⟨b, xs, rfl, hs, ?_, ?_⟩
  · rintro ⟨h1, h2⟩
    rw [l1] at h1 h2
    have e0 : i = 0 := by omega
    have e1 : j = ds.length := by omega
    have := k (.ref b) H (Same.refl H)
    rw [e0, e1, List.drop_zero, Nat.sub_zero, List.take_length] at this
    exact this hx
  · intro _ p np
    have e : cutV xs lo hi = (xs.drop i).take (j - i) := by
      unfold cutV
      rw [l1, hi1, hj1]
    rw [e]
    obtain ⟨H', e', e1, h1⟩ := tup_new np (dpa_take (j - i) _ _ (dpa_drop i _ _ ha))
    rw [e']
    exact k _ _ e1 h1
theorem slp_to {i : Nat} {z : Int} (hz : z = (i : Int)) (hx : Dp K H x (.tuple ds)) (k : ∀ v H', Same H H' → Dp K H' v (.tuple (ds.take i)) → Q v H') : rSlA K x none (some z) H Q := by
  subst hz
  refine slp hx (i := 0) (j := min i ds.length) rfl (HT.sIx_nat _ _ _) fun v H' e h => k v H' e ?_
  have : (ds.drop 0).take (min i ds.length - 0) = ds.take i := by
    rw [List.drop_zero, Nat.sub_zero]
    by_cases hi : i ≤ ds.length
    · rw [Nat.min_eq_left hi]
    · rw [Nat.min_eq_right (by omega), List.take_length, List.take_of_length_le (by omega)]
  rw [this] at h
  exact h
theorem slp_from {i : Nat} {z : Int} (hz : z = (i : Int)) (hx : Dp K H x (.tuple ds)) (k : ∀ v H', Same H H' → Dp K H' v (.tuple (ds.drop i)) → Q v H') : rSlA K x (some z) none H Q := by
  subst hz
  refine slp hx (i := min i ds.length) (j := ds.length) (HT.sIx_nat _ _ _) rfl fun v H' e h => k v H' e ?_
  have : (ds.drop (min i ds.length)).take (ds.length - min i ds.length) = ds.drop i := by
    rw [List.take_of_length_le (by rw [List.length_drop]; omega)]
    by_cases hi : i ≤ ds.length
    · rw [Nat.min_eq_left hi]
    · rw [Nat.min_eq_right (by omega), List.drop_length, List.drop_of_length_le (by omega)]
  rw [this] at h
  exact h
end
end Gd
namespace Gd
open PySem PySem.Spec PyProof.Rows L2
/-! ### corners of chosen columns -/
def cutM (rs : List (List Int)) (c : List Nat) : List (List Int) := rs.map fun r => c.map fun n => r.getD n 0
theorem leibC1 (r0 : List Int) (c0 : Nat) : detM [r0] [c0] = legM (cutM [r0] [c0]) (ordersM 1) := by
  simp [detM, rowM, sumR, er, sgnT, legM, prodM, List.range_succ, ordersM, ordExt, sgO, cutM]
theorem leibC2 (r0 r1 : List Int) (c0 c1 : Nat) : detM [r0, r1] [c0, c1] = legM (cutM [r0, r1] [c0, c1]) (ordersM 2) := by
  simp [detM, rowM, sumR, er, sgnT, legM, prodM, List.range_succ, ordersM, ordExt, sgO, cutM]
  generalize r0[c0]?.getD 0 = r0c0
  generalize r0[c1]?.getD 0 = r0c1
  generalize r1[c0]?.getD 0 = r1c0
  generalize r1[c1]?.getD 0 = r1c1
  grind
theorem leibC3 (r0 r1 r2 : List Int) (c0 c1 c2 : Nat) : detM [r0, r1, r2] [c0, c1, c2] = legM (cutM [r0, r1, r2] [c0, c1, c2]) (ordersM 3) := by
  simp [detM, rowM, sumR, er, sgnT, legM, prodM, List.range_succ, ordersM, ordExt, sgO, cutM]
  generalize r0[c0]?.getD 0 = r0c0
  generalize r0[c1]?.getD 0 = r0c1
  generalize r0[c2]?.getD 0 = r0c2
  generalize r1[c0]?.getD 0 = r1c0
  generalize r1[c1]?.getD 0 = r1c1
  generalize r1[c2]?.getD 0 = r1c2
  generalize r2[c0]?.getD 0 = r2c0
  generalize r2[c1]?.getD 0 = r2c1
  generalize r2[c2]?.getD 0 = r2c2
  grind
theorem leibC4 (r0 r1 r2 r3 : List Int) (c0 c1 c2 c3 : Nat) : detM [r0, r1, r2, r3] [c0, c1, c2, c3] = legM (cutM [r0, r1, r2, r3] [c0, c1, c2, c3]) (ordersM 4) := by
  simp [detM, rowM, sumR, er, sgnT, legM, prodM, List.range_succ, ordersM, ordExt, sgO, cutM]
  generalize r0[c0]?.getD 0 = r0c0
  generalize r0[c1]?.getD 0 = r0c1
  generalize r0[c2]?.getD 0 = r0c2
  generalize r0[c3]?.getD 0 = r0c3
  generalize r1[c0]?.getD 0 = r1c0
  generalize r1[c1]?.getD 0 = r1c1
  generalize r1[c2]?.getD 0 = r1c2
  generalize r1[c3]?.getD 0 = r1c3
  generalize r2[c0]?.getD 0 = r2c0
  generalize r2[c1]?.getD 0 = r2c1
  generalize r2[c2]?.getD 0 = r2c2
  generalize r2[c3]?.getD 0 = r2c3
  generalize r3[c0]?.getD 0 = r3c0
  generalize r3[c1]?.getD 0 = r3c1
  generalize r3[c2]?.getD 0 = r3c2
  generalize r3[c3]?.getD 0 = r3c3
  grind
theorem leibC {rs : List (List Int)} {c : List Nat} {n : Nat} (hn : n ≤ 4) (hl : rs.length = n) (hc : c.length = n) : detM rs c = legM (cutM rs c) (ordersM n) := by
  match n, rs, c, hn, hl, hc with
  | 0, [], [], _, _, _ => rfl
  | 1, [_], [_], _, _, _ => exact leibC1 ..
  | 2, [_, _], [_, _], _, _, _ => exact leibC2 ..
  | 3, [_, _, _], [_, _, _], _, _, _ => exact leibC3 ..
  | 4, [_, _, _, _], [_, _, _, _], _, _, _ => exact leibC4 ..
end Gd
namespace Gd
open PySem PySem.Spec PyProof.Rows L2
/-! ### a list's lists of numbers -/
def Lls (H : Hp) (xs : List V) (rs : List (List Int)) : Prop := xs.length = rs.length ∧ ∀ i x, xs[i]? = some x → ∃ b, x = .ref b ∧ H b = some (.lst ((rs.getD i []).map V.int))
theorem Lls.same {H H' : Hp} {xs : List V} {rs : List (List Int)} (h : Lls H xs rs) (e : Same H H') : Lls H' xs rs :=
  ⟨h.1, fun i x hx => let ⟨b, h1, h2⟩ := h.2 i x hx; ⟨b, h1, e _ _ h2⟩⟩
theorem Lls.at {H : Hp} {xs : List V} {rs : List (List Int)} (h : Lls H xs rs) {i : Nat} (hi : i < rs.length) : ∃ b, xs[i]? = some (.ref b) ∧ H b = some (.lst ((rs.getD i []).map V.int)) := by
  have hl : i < xs.length := by rw [h.1]; exact hi
  obtain ⟨b, h1, h2⟩ := h.2 i _ (List.getElem?_eq_getElem hl)
  exact ⟨b, by rw [List.getElem?_eq_getElem hl, h1], h2⟩
end Gd
namespace Gd
open PySem PySem.Spec PyProof.Rows L2
/-! ### tuples of numbers, sorted -/
theorem call_sortTK {X : Cx} {K : PySem.W.Frag} (hK : X.K = K) {d : Nat} {B : Int} (hd : 1 ≤ d) : CallR X (.builtin "sorted") (rSortU K d B) := by
  subst hK
  exact cr_sortT hd
def toI (c : List Nat) : List Int := c.map fun (n : Nat) => (n : Int)
theorem toI_nV (c : List Nat) : (toI c).map V.int = nV c := by
  unfold toI nV
  rw [List.map_map]
  rfl
theorem Tts.perm0 {H : Hp} {xs ys : List V} (p : xs.Perm ys) : ∀ {cs : List (List Nat)}, Tts H xs cs → ∃ ds, Tts H ys ds ∧ cs.Perm ds := by
  induction p with
  | nil =>
    intro cs t
    cases t
    exact ⟨[], .nil, .nil⟩
  | cons x _ ih =>
    intro cs t
    cases t with
    | cons h t =>
      obtain ⟨ds, t', p'⟩ := ih t
      exact ⟨_ :: ds, .cons h t', p'.cons _⟩
  | swap x y l =>
    intro cs t
    cases t with
    | cons h1 t =>
      cases t with
      | cons h2 t => exact ⟨_, .cons h2 (.cons h1 t), .swap ..⟩
  | trans _ _ ih1 ih2 =>
    intro cs t
    obtain ⟨ds, t1, p1⟩ := ih1 t
    obtain ⟨es, t2, p2⟩ := ih2 t1
    exact ⟨es, t2, p1.trans p2⟩
theorem Tts.mem {H : Hp} {xs : List V} {cs : List (List Nat)} (t : Tts H xs cs) : ∀ x ∈ xs, ∃ b, ∃ c ∈ cs, x = .ref b ∧ H b = some (.tup (nV c)) := by
  induction t with
  | nil => intro x h; cases h
  | @cons b xs c cs h _ ih =>
    intro x hx
    rcases List.mem_cons.mp hx with rfl | hx
    · exact ⟨b, c, List.mem_cons_self .., rfl, h⟩
    · obtain ⟨b', c', h1, h2⟩ := ih x hx
      exact ⟨b', c', List.mem_cons_of_mem _ h1, h2⟩
theorem Tts.mem' {H : Hp} {xs : List V} {cs : List (List Nat)} (t : Tts H xs cs) : ∀ c ∈ cs, ∃ b, .ref b ∈ xs ∧ H b = some (.tup (nV c)) := by
  induction t with
  | nil => intro x h; cases h
  | @cons b xs c cs h _ ih =>
    intro x hx
    rcases List.mem_cons.mp hx with rfl | hx
    · exact ⟨b, List.mem_cons_self .., h⟩
    · obtain ⟨b', h1, h2⟩ := ih x hx
      exact ⟨b', List.mem_cons_of_mem _ h1, h2⟩
theorem Tts.pair {K : PySem.W.Frag} {H : Hp} {xs : List V} {cs : List (List Nat)} {f : List Int → Int} (t : Tts H xs cs)
    (h : xs.Pairwise fun x y => ∀ n m, TupI K H x n → TupI K H y m → f n ≤ f m) : cs.Pairwise fun c d => f (toI c) ≤ f (toI d) := by
  induction t with
  | nil => exact .nil
  | @cons b xs c cs hb t ih =>
    cases h with
    | cons h1 h2 =>
      refine .cons (fun d hd => ?_) (ih h2)
      obtain ⟨b', hm, hb'⟩ := t.mem' d hd
      exact h1 _ hm (toI c) (toI d) ⟨b, rfl, by rw [toI_nV]; exact SqT.of hb⟩ ⟨b', rfl, by rw [toI_nV]; exact SqT.of hb'⟩
theorem sort_one {α : Type} {f : α → Int} {ds cs : List α} (hp : ds.Perm cs) (hd : ds.Pairwise fun c d => f c ≤ f d) (hc : cs.Pairwise fun c d => f c < f d) : ds = cs := by
  refine List.Perm.eq_of_pairwise (le := fun c d => f c ≤ f d) ?_ hd (hc.imp fun h => Int.le_of_lt h) hp
  intro a b ha hb h1 h2
  have ha := hp.mem_iff.mp ha
  have e : f a = f b := by omega
  clear h1 h2 hp hd
  induction cs with
  | nil => cases ha
  | cons x cs ih =>
    cases hc with
    | cons g1 g2 =>
      rcases List.mem_cons.mp ha with rfl | ha' <;> rcases List.mem_cons.mp hb with rfl | hb'
      · rfl
      · have := g1 _ hb'; omega
      · have := g1 _ ha'; omega
      · exact ih g2 hb' ha'
/-! ### all sets of numbers -/
def setM (n c : Nat) : List Nat := (List.range n).filter fun j => decide (c / 2 ^ j % 2 = 1)
def rawM (n k : Nat) (m : Nat) : List (List Nat) := ((List.range m).map (setM n)).filter fun s => decide (s.length = k)
theorem raw_perm : ∀ n < 5, ∀ k < 9, (rawM n k (2 ^ n)).Perm (choicesM n k) := by decide +kernel
theorem choice_sorted : ∀ n < 5, ∀ k < 9, (choicesM n k).Pairwise (fun c d => TS.code 64 (toI c) < TS.code 64 (toI d)) := by decide +kernel
theorem choice_len64 : ∀ n < 5, ∀ k < 9, (choicesM n k).length < 64 := by decide +kernel
theorem raw_succ (n k m : Nat) : rawM n k (m + 1) = rawM n k m ++ (if (setM n m).length = k then [setM n m] else []) := by
  unfold rawM
  rw [List.range_succ, List.map_append, List.filter_append]
  by_cases h : (setM n m).length = k
  · simp [h]
  · simp [h]
theorem raw_len (n k m : Nat) : (rawM n k m).length ≤ m := by
  have := List.length_filter_le (fun s => decide (s.length = k)) ((List.range m).map (setM n))
  rw [List.length_map, List.length_range] at this
  exact this
theorem set_mem {n c j : Nat} (h : j ∈ setM n c) : j < n := List.mem_range.mp (List.mem_filter.mp h).1
theorem raw_mem {n k m : Nat} {s : List Nat} (h : s ∈ rawM n k m) : s.length = k ∧ ∀ j ∈ s, j < n := by
  obtain ⟨h1, h2⟩ := List.mem_filter.mp h
  obtain ⟨c, _, rfl⟩ := List.mem_map.mp h1
  exact ⟨of_decide_eq_true h2, fun j hj => set_mem hj⟩
/-! ### a comprehension over a tuple, the body as it comes -/
theorem lcGt {K : PySem.W.Frag} {a : Addr} {xs : List V} {Bd : V → Hp → (Hp → Prop) → Prop} {H1 : Hp} {Qd : Hp → Prop} (Pv : Nat → Hp → Prop) (h0 : Pv 0 H1) (hl : ∀ i H, i ≤ xs.length → Pv i H → SqT K H a xs)
    (hs : ∀ i x H, xs[i]? = some x → Pv i H → Bd x H (Pv (i + 1))) (hd : ∀ H, Pv xs.length H → Qd H) :
    ∃ W : Nat → Nat → Hp → Prop, (∃ m, W 0 m H1) ∧ ∀ i m H, W i m H →
      ((Itt K a).stop i H ∧ Qd H) ∨ ((Itt K a).go i H ∧ ∃ Nx : Hp → Prop, (∀ H', Nx H' → ∃ m', m' < m ∧ W (i + 1) m' H') ∧ ∀ x H', (Itt K a).yld i H x H' → Bd x H' Nx) := by
  refine ⟨fun i m H => m = xs.length - i ∧ i ≤ xs.length ∧ Pv i H, ⟨xs.length, by simp, Nat.zero_le _, h0⟩, ?_⟩
  rintro i m H ⟨rfl, hi, p⟩
  have q := hl i H hi p
  by_cases hlt : i < xs.length
  · refine .inr ⟨⟨xs, _, q, List.getElem?_eq_getElem hlt⟩, Pv (i + 1), fun H' p' => ⟨xs.length - (i + 1), by omega, rfl, hlt, p'⟩, fun x H' y => ?_⟩
    obtain ⟨e, y⟩ := y
    subst e
    exact hs i x _ (y xs q) p
  · have e : i = xs.length := by omega
    subst e
    exact .inl ⟨⟨xs, q, Nat.le_refl _⟩, hd H p⟩
/-! ### a list's lists, put together one by one -/
theorem Lls.snoc {H : Hp} {xs : List V} {rs : List (List Int)} {b : Addr} {r : List Int} (h : Lls H xs rs) (hb : H b = some (.lst (r.map V.int))) : Lls H (xs ++ [.ref b]) (rs ++ [r]) := by
  refine ⟨by rw [List.length_append, List.length_append, h.1]; rfl, fun i x hx => ?_⟩
  rw [List.getElem?_append] at hx
  split at hx
  · next hi =>
    obtain ⟨c, h1, h2⟩ := h.2 i x hx
    refine ⟨c, h1, ?_⟩
    rw [List.getD_eq_getElem?_getD, List.getElem?_append_left (by rw [← h.1]; exact hi), ← List.getD_eq_getElem?_getD]
    exact h2
  · next hi =>
    have e : i = xs.length := by
      have := (List.getElem?_eq_some_iff.mp hx).1
      simp only [List.length_singleton] at this
      omega
    subst e
    simp at hx
    refine ⟨b, hx.symm, ?_⟩
    rw [List.getD_eq_getElem?_getD, h.1, List.getElem?_append_right (Nat.le_refl _), Nat.sub_self]
    exact hb
theorem Lls.put {H : Hp} {xs : List V} {rs : List (List Int)} {D : Addr} {o : HO} (h : Lls H xs rs) (n : ∀ x ∈ xs, x ≠ .ref D) : Lls (upd H D o) xs rs :=
  ⟨h.1, fun i x hx => by
    obtain ⟨b, rfl, hb⟩ := h.2 i x hx
    refine ⟨b, rfl, ?_⟩
    rw [upd_ne fun z => n _ (List.mem_of_getElem? hx) (by rw [z])]
    exact hb⟩
end Gd
namespace Gd
open PySem PySem.Spec PyProof.Rows L2
open Sem (wp)
open Builtin Builtin.Str Builtin.Int
/-! ### the text of a great number -/
def digKey : PySem.Str := "sys.int_max_str_digits"
def NoDig (h : Heap) : Prop := ∃ mc, h.Ns cStatics mc ∧ mc digKey = none
theorem NoDig.keeps {h h' : Heap} (x : NoDig h) (k : ∀ b o, h.get? b = some o → h'.get? b = some o) : NoDig h' :=
  let ⟨mc, a, b⟩ := x
  ⟨mc, a.keeps k, b⟩
section
variable {prog : Program} {w : World} {A : Around} {E : Value → Shared → Prop} {s : Shared}
theorem wpAny_digits {Q : Nat → Shared → Prop} (hn : NoDig s.heap) (h : Q 4300 s) : wpAny (model prog w) A intMaxStrDigits Q E s := fun Γ p hΓ => by
  obtain ⟨mc, hns, hnone⟩ := hn
  simp only [intMaxStrDigits, Sem.wp_bind']
  show wp _ Γ (nsGet cStatics digKey) _ _ p s
  rw [Sem.wp_nsGet _ Γ _ p s hns, hnone]
  exact h
theorem wpAny_over {a : Int} {Q : Option Nat → Shared → Prop} (hn : NoDig s.heap) (ha : a.natAbs.log2 < 12900) (h : Q none s) : wpAny (model prog w) A (overDigitLimit? a) Q E s := by
  unfold overDigitLimit?
  by_cases h1 : a.natAbs.log2 < 1920
  · rw [if_pos h1]
    exact wpAny_pure h
  · rw [if_neg h1]
    refine wpAny_bind (wpAny_digits hn ?_)
    have h2 : ¬ (a.natAbs.log2 / 30 + 1 > 1000) := by omega
    have h3 : ((4300 : Nat) == 0 || decide (a.natAbs.log2 < 3 * 4300)) = true := by
      rw [decide_eq_true (by omega)]
      rfl
    dsimp only
    rw [if_neg h2, if_pos h3]
    exact wpAny_pure h
theorem givesAt_int_repr (a : Int) (t : Tok) (ha : a.natAbs.log2 < 12900) : GivesAt (fun s => NoDig s.heap) («int.__repr__» ⟨[.int a t], []⟩) (.str (toString a)) := by
  intro prog w A R s hn h
  unfold «int.__repr__»
  show wpAny _ _ (do let r ← overDigitLimit? a; _) _ _ s
  refine wpAny_bind (wpAny_over hn ha ?_)
  exact (Gives.of_eq rfl : Gives (retStr (toString a)) (.str (toString a))) prog w A R s h
theorem pyReprObj_intW {a : Int} {t : Tok} {Q : Value → Shared → Prop} (hn : NoDig s.heap) (ha : a.natAbs.log2 < 12900) (hx : (Str.ofString (toString a)).length ≤ sizeLine) (h : Q (.str (toString a) s.toks) { s with toks := s.toks + 1 }) : wpAny (model prog w) A (pyReprObj (.int a t)) Q E s := by
  unfold pyReprObj
  simp only [cRoomFor, show [Value.int a t].any Value.onHeap = false from rfl, Bool.false_eq_true, if_false, pure_bind]
  refine wpAny_bind (wpAny_specialOf (name := Str.ofString "__repr__") (typeIs_int s a t) F.slot_int_repr.lookup ?_)
  refine wpAny_bind (m := callSpecialIfBound? (.int a t) (Str.ofString "__repr__")) (wpAny_callSpecialIfBound?_slot (name := Str.ofString "__repr__") (typeIs_int s a t) F.slot_int_repr (call_givesAt F.slot_int_repr (typeIs_int s a t) F.entry_int_repr (F.args_int_repr_1 _) (givesAt_int_repr a t ha) hn ⟨hx, ?_⟩))
  exact wpAny_bind (wpAny_isInstance (T := "str") (b := true) rfl isSubtype_str_str (wpAny_pure h))
end
end Gd
namespace Gd
open PySem PySem.Spec PyProof.Rows L2
mutual
/-- data that can be shown, great numbers among them -/
def shW : PyData → Bool
  | .none => true
  | .bool _ => true
  | .str _ => true
  | .int z => decide (z.natAbs.log2 < 12900)
  | .list ds => shWs ds
  | .tuple ds => shWs ds
  | .dict _ => false
def shWs : List PyData → Bool
  | [] => true
  | e :: ds => shW e && shWs ds
end
section
variable {pr : Program} {wd : World} {hp : Heap}
theorem repK_int {z : Int} {k : Tok} (nd : NoDig hp) (hz : z.natAbs.log2 < 12900) (hl : (Str.ofString (toString z)).length ≤ sizeLine) (as : List Addr) (n : Nat) : ReprK pr wd as hp n (.int z k) (toString z) := by
  intro b0 hb A g E s Q _ _ _ kp hQ
  have hb' : b0 ≤ sizeLine := by omega
  rw [pyReprUnder_leaf (v := .int z k) hb' (fun _ e => nomatch e)]
  unfold pyRepr
  exact wpAny_bind (pyReprObj_intW (nd.keeps kp) hz hl (wpAny_pure (hQ s.heap _ fun _ _ e => e)))
mutual
theorem repW (nd : NoDig hp) : ∀ {v : Value} {d : PyData} {as : List Addr}, Reads hp v d as → shW d = true → d.shown.length ≤ sizeLine →
    ∃ bs, ReadAtMost hp d.depth bs ∧ ReprK pr wd bs hp d.depth v d.shown
  | _, _, _, .none, _, _ => by
    refine ⟨[], fun _ h => (nomatch h), ?_⟩
    simp only [PyData.shown]
    exact .of_is ReprIs.none _ _ _
  | _, _, _, .bool b, _, _ => by
    refine ⟨[], fun _ h => (nomatch h), ?_⟩
    simp only [PyData.shown]
    exact .of_is (ReprIs.bool b) _ _ _
  | _, _, _, .int z t, hs, hl => by
    refine ⟨[], fun _ h => (nomatch h), ?_⟩
    simp only [PyData.shown] at hl ⊢
    simp only [shW, decide_eq_true_eq] at hs
    exact repK_int nd hs hl _ _
  | _, _, _, .str x t, _, hl => by
    refine ⟨[], fun _ h => (nomatch h), ?_⟩
    simp only [PyData.shown] at hl ⊢
    exact .of_is (ReprIs.str x t hl) _ _ _
  | _, _, _, .list (a := p) (vs := us) (xs := ds) h1 h2 h3 h4, hs, hl => by
    have hl1 : (listText (PyData.shownAll ds)).length ≤ sizeLine := by
      simpa only [PyData.shown] using hl
    obtain ⟨bs, hb, hk⟩ := repWs nd h4 (by simpa [shW] using hs) fun t ht => Nat.le_trans (listText_mem_le ht) hl1
    have rd : Reads hp (.ref p) (.list ds) _ := .list h1 h2 h3 h4
    have np : p ∉ bs := not_mem_of_deeper rd (by simp only [PyData.depth]; omega) hb
    refine ⟨p :: bs, ReadAtMost.cons rd (by simp only [PyData.depth]; omega) hb, ?_⟩
    simp only [PyData.depth, PyData.shown]
    obtain ⟨us⟩ := us
    cases us with
    | nil =>
      have h4e : ReadsAll hp [] ds _ := h4
      cases h4e
      simp only [PyData.shownAll, listText_nil]
      exact ReprK.listEmpty h1 h2 h3
    | cons u us =>
      refine ReprK.list h1 h2 h3 np ?_ fun i y e => ?_
      · simpa using hk.length_eq
      · exact hk.item i y (by simpa using e)
  | _, _, _, .tuple (a := p) (xs := ds) h1 h2 h3 h4, hs, hl => by
    have hl1 : (tupleText (PyData.shownAll ds)).length ≤ sizeLine := by
      simpa only [PyData.shown] using hl
    obtain ⟨bs, hb, hk⟩ := repWs nd h4 (by simpa [shW] using hs) fun t ht => Nat.le_trans (tupleText_mem_le ht) hl1
    have rd : Reads hp (.ref p) (.tuple ds) _ := .tuple h1 h2 h3 h4
    have np : p ∉ bs := not_mem_of_deeper rd (by simp only [PyData.depth]; omega) hb
    refine ⟨p :: bs, ReadAtMost.cons rd (by simp only [PyData.depth]; omega) hb, ?_⟩
    simp only [PyData.depth, PyData.shown]
    exact ReprK.tuple h1 h2 h3 np hk
  | _, _, _, .dict h1 h2 h3 h4 h5, hs, _ => by
    simp [shW] at hs
theorem repWs (nd : NoDig hp) : ∀ {us : List Value} {ds : List PyData} {as : List Addr}, ReadsAll hp us ds as → shWs ds = true → (∀ t ∈ PyData.shownAll ds, t.length ≤ sizeLine) →
    ∃ bs, ReadAtMost hp (PyData.depthAll ds) bs ∧ ReprAllK pr wd bs hp (PyData.depthAll ds) us (PyData.shownAll ds)
  | _, _, _, .nil, _, _ => by
    refine ⟨[], fun _ h => (nomatch h), ?_⟩
    simp only [PyData.shownAll]
    exact .nil
  | _, _, _, .cons (d := e) (ds := ds) r rs, hs, hl => by
    have hs2 : shW e = true ∧ shWs ds = true := by simpa [shWs] using hs
    obtain ⟨b1, hb1, k1⟩ := repW nd r hs2.1 (hl _ (by simp [PyData.shownAll]))
    obtain ⟨b2, hb2, k2⟩ := repWs nd rs hs2.2 fun t ht => hl t (by simp [PyData.shownAll, ht])
    refine ⟨b1 ++ b2, ?_, ?_⟩
    · simp only [PyData.depthAll]
      exact (hb1.mono (Nat.le_max_left _ _)).append (hb2.mono (Nat.le_max_right _ _))
    · simp only [PyData.depthAll, PyData.shownAll]
      refine .cons ((k1.more fun b hb => ?_).level_le (Nat.le_max_left _ _)) (k2.more_le (fun b hb => ?_) (Nat.le_max_right _ _))
      · exact List.mem_append_left _ hb
      · exact List.mem_append_right _ hb
end
end
/-! ### repr of data of any kind, great numbers among them -/
section
variable {X : Cx} {K : PySem.W.Frag}
def NoDigK (K : PySem.W.Frag) : Prop := PySem.W.nsIn K cStatics digKey = some none
theorem NoDigK.at {h : Heap} (nk : NoDigK K) (kin : K.In h) (nl : h.NoLimit) : NoDig h := by
  obtain ⟨mc, hns, _⟩ := nl
  refine ⟨mc, hns, ?_⟩
  obtain ⟨o, es, ep, ho, hd, _, hf⟩ := hns
  unfold NoDigK PySem.W.nsIn at nk
  split at nk
  · rename_i c d es' n' sl q
    have z := kin _ _ q
    rw [ho] at z
    cases z
    cases hd
    split at nk
    · cases nk
    · next hnone =>
      have z := hf digKey
      unfold nsFind findBy at z
      rw [← Array.find?_toList, hnone] at z
      exact z.symm
  · cases nk
/-! ### the head's facts, with that of the digits -/
def asM (g : Addr → Option Obj) (n : Nat) : List Addr := He.asD g n ++ [cStatics]
abbrev AlM : Type := Bool × He.AlD
def obsM (n : Nat) (fa : List He.Fa) (fn : List He.DefD) (g : Addr → Option Obj) : AlM :=
  (He.eqO (PySem.W.nsIn (He.frG g (asM g n)) cStatics digKey) (some none), He.obsD fa fn (He.frG g (asM g n)))
def hookM (n : Nat) (fa : List He.Fa) (fn : List He.DefD) : PySem.W.Hook where
  α := AlM
  obs := fun s => obsM n fa fn s.heap.get?
  val := fun _ => (true, He.valD fn)
  says := fun _ h => ∃ F : PySem.W.Frag, F.In h ∧ He.SaysD fa fn F ∧ NoDigK F
  of := fun _ s e => ⟨He.frG s.heap.get? (asM s.heap.get? n), He.frG_in, congrArg (fun z : AlM => z.2) e, He.eqO_ok (congrArg (fun z : AlM => z.1) e)⟩
  keeps := fun _ _ _ ⟨F, hF, c⟩ k => ⟨F, PySem.W.Frag.In.keeps hF k, c⟩
theorem obsM_eq {n : Nat} {fa : List He.Fa} {fn : List He.DefD} {g : Addr → Option Obj} {s : Shared} (h : ∀ a, g a = s.heap.get? a) : obsM n fa fn g = (hookM n fa fn).obs s := by
  have e : g = s.heap.get? := funext h
  subst e
  rfl
/-- repr of a list, of a tuple -/
theorem showsW {pr : Program} {wd : World} {hp : Heap} {p : Addr} {d : PyData} {as : List Addr} (nd : NoDig hp) (r : Reads hp (.ref p) d as) (hs : shW d = true) (hl : d.shown.length ≤ sizeLine) :
    ∃ T idr, ShowsBy pr wd hp p d T idr := by
  cases r with
  | list h1 h2 h3 h4 =>
    rename_i o us n ds bs0
    have hl1 : (listText (PyData.shownAll ds)).length ≤ sizeLine := by
      simpa only [PyData.shown] using hl
    obtain ⟨bs, hb, hk⟩ := repWs (pr := pr) (wd := wd) nd h4 (by simpa [shW] using hs) fun t ht => Nat.le_trans (listText_mem_le ht) hl1
    have np : p ∉ bs := not_mem_of_deeper (.list h1 h2 h3 h4) (by simp only [PyData.depth]; omega) hb
    refine ⟨"list", "list.__repr__", F.slot_list_repr.toG, F.slot_list_str, F.slot_list_format, fun s kp => ⟨o, kp _ _ h1, h2⟩, ?_⟩
    intro A E s Q hg hu kp hQ
    simp only [PyData.depth] at hu
    simp only [PyData.shown] at hQ
    obtain ⟨us⟩ := us
    cases us with
    | nil =>
      have h4e : ReadsAll hp [] ds _ := h4
      cases h4e
      simp only [PyData.shownAll, listText_nil] at hQ
      exact call_list_repr_empty ⟨o, kp _ _ h1, h2⟩ (kp _ _ h1) h3 (hQ s.heap _ _ fun _ _ e => e)
    | cons u us =>
      refine call_list_reprK h1 h2 h3 np ?_ (fun i y e => ?_) hg (fun b _ => Clear.nil b) hu kp hQ hl1
      · simpa using hk.length_eq
      · exact hk.item i y (by simpa using e)
  | tuple h1 h2 h3 h4 =>
    rename_i o us n ds
    have hl1 : (tupleText (PyData.shownAll ds)).length ≤ sizeLine := by
      simpa only [PyData.shown] using hl
    obtain ⟨bs, hb, hk⟩ := repWs (pr := pr) (wd := wd) nd h4 (by simpa [shW] using hs) fun t ht => Nat.le_trans (tupleText_mem_le ht) hl1
    have np : p ∉ bs := not_mem_of_deeper (.tuple h1 h2 h3 h4) (by simp only [PyData.depth]; omega) hb
    refine ⟨"tuple", "tuple.__repr__", F.slot_tuple_repr, F.slot_tuple_str, F.slot_tuple_format, fun s kp => ⟨o, kp _ _ h1, h2⟩, ?_⟩
    intro A E s Q hg hu kp hQ
    simp only [PyData.depth] at hu
    simp only [PyData.shown] at hQ
    exact call_tuple_reprK h1 h2 h3 np hk hg (fun b _ => Clear.nil b) hu kp hQ hl1
  | dict h1 h2 h3 h4 h5 => simp [shW] at hs
def rReprW (K : PySem.W.Frag) : List V → Hp → VK → Prop := fun vs H Q => rReprD K vs H Q ∨
  ∃ (a : Addr) (d : PyData), vs = [.ref a] ∧ Dp K H (.ref a) d ∧ shW d = true ∧ d.depth ≤ 60 ∧ d.shown.length ≤ sizeLine ∧ Q (.str d.shown) H
theorem call_reprW (nk : NoDigK X.K) (hG : X.A.guards = some []) (hu : X.A.units + 64 < cLine) : CallR X (.builtin "repr") (rReprW X.K) := by
  intro pins s σ H xs us Q I r h
  rcases h with h | ⟨a, d, rfl, hd, hs, hdp, hz, q⟩
  · exact call_reprD hG hu pins s σ H xs us Q I r h
  have hu1 := Vals.ref1 r
  rw [hu1]
  obtain ⟨as, rd⟩ := Dp.reads I d _ _ hd (show RelV (.ref a) (.ref a) from rfl)
  have nd : NoDig s.heap := nk.at I.kIn I.nolimit
  obtain ⟨T, idr, S⟩ := showsW (pr := X.prog) (wd := X.w) nd rd hs hz
  refine call_repr_slot (by omega) (S.typeIs s fun _ _ e => e) S.slotRepr (S.call X.A.in1 X.xe s _ hG (by show X.A.units + 1 + d.depth < cLine; omega) (fun _ _ e => e) fun h' u tk hk => ⟨_, _, rfl, ?_⟩)
  exact ⟨.str d.shown, H, I.kept hk, ⟨u, rfl⟩, q⟩
theorem call_reprWK (hK : X.K = K) (nk : NoDigK K) (hG : X.A.guards = some []) (hu : X.A.units + 64 < cLine) : CallR X (.builtin "repr") (rReprW K) := by
  subst hK
  exact call_reprW nk hG hu
end
end Gd

set_option Elab.async false
set_option linter.all false
set_option maxRecDepth 100000
set_option maxHeartbeats 1000000
namespace K01
open PySem PySem.Spec PyProof.Rows L2 Gd
def top (i : Nat) : Stmt := PySem.Challenge.pw_stepforms_k01_what_is_a_fraction.main.body.getD i (.Pass ⟨0, 0, 0, 0⟩)
abbrev s_is_number : Stmt := top 1
abbrev n_is_number : List Str := ["thing"]
abbrev p_is_number : List Str := ["thing"]
theorem sc_is_number : FnScope n_is_number p_is_number (defScope s_is_number) := ⟨rfl, rfl, rfl, by decide +kernel, rfl, by decide +kernel, by decide +kernel⟩
theorem bn_is_number : BndOk "is_number" s_is_number p_is_number := fun _ _ _ _ _ _ us hl => match us, hl with | [_], _ => rfl
abbrev s_common_divisor : Stmt := top 2
abbrev n_common_divisor : List Str := ["one", "other"]
abbrev p_common_divisor : List Str := ["one", "other"]
theorem sc_common_divisor : FnScope n_common_divisor p_common_divisor (defScope s_common_divisor) := ⟨rfl, rfl, rfl, by decide +kernel, rfl, by decide +kernel, by decide +kernel⟩
theorem bn_common_divisor : BndOk "common_divisor" s_common_divisor p_common_divisor := fun _ _ _ _ _ _ us hl => match us, hl with | [_, _], _ => rfl
abbrev s_is_fraction : Stmt := top 3
abbrev n_is_fraction : List Str := ["thing", "top", "bottom"]
abbrev p_is_fraction : List Str := ["thing"]
theorem sc_is_fraction : FnScope n_is_fraction p_is_fraction (defScope s_is_fraction) := ⟨rfl, rfl, rfl, by decide +kernel, rfl, by decide +kernel, by decide +kernel⟩
theorem bn_is_fraction : BndOk "is_fraction" s_is_fraction p_is_fraction := fun _ _ _ _ _ _ us hl => match us, hl with | [_], _ => rfl
abbrev s_l_feed : Stmt := top 5
abbrev n_l_feed : List Str := ["_law_script"]
abbrev p_l_feed : List Str := ["_law_script"]
theorem sc_l_feed : FnScope n_l_feed p_l_feed (defScope s_l_feed) := ⟨rfl, rfl, rfl, by decide +kernel, rfl, by decide +kernel, by decide +kernel⟩
theorem bn_l_feed : BndOk "_law_feed" s_l_feed p_l_feed := fun _ _ _ _ _ _ us hl => match us, hl with | [_], _ => rfl
abbrev s_l_draw : Stmt := top 6
abbrev n_l_draw : List Str := ["_law_feed_here", "_law_many", "_law_found", "_law_cell", "_law_mixed"]
abbrev p_l_draw : List Str := ["_law_feed_here", "_law_many"]
theorem sc_l_draw : FnScope n_l_draw p_l_draw (defScope s_l_draw) := ⟨rfl, rfl, rfl, by decide +kernel, rfl, by decide +kernel, by decide +kernel⟩
theorem bn_l_draw : BndOk "_law_draw" s_l_draw p_l_draw := fun _ _ _ _ _ _ us hl => match us, hl with | [_, _], _ => rfl
abbrev s_l_wide : Stmt := top 7
abbrev n_l_wide : List Str := ["_law_feed_here", "_law_found", "_law_k"]
abbrev p_l_wide : List Str := ["_law_feed_here"]
theorem sc_l_wide : FnScope n_l_wide p_l_wide (defScope s_l_wide) := ⟨rfl, rfl, rfl, by decide +kernel, rfl, by decide +kernel, by decide +kernel⟩
theorem bn_l_wide : BndOk "_law_wide" s_l_wide p_l_wide := fun _ _ _ _ _ _ us hl => match us, hl with | [_], _ => rfl
abbrev s_l_size : Stmt := top 8
abbrev n_l_size : List Str := ["_law_feed_here"]
abbrev p_l_size : List Str := ["_law_feed_here"]
theorem sc_l_size : FnScope n_l_size p_l_size (defScope s_l_size) := ⟨rfl, rfl, rfl, by decide +kernel, rfl, by decide +kernel, by decide +kernel⟩
theorem bn_l_size : BndOk "_law_size" s_l_size p_l_size := fun _ _ _ _ _ _ us hl => match us, hl with | [_], _ => rfl
abbrev s_l_top : Stmt := top 9
abbrev n_l_top : List Str := ["_law_feed_here"]
abbrev p_l_top : List Str := ["_law_feed_here"]
theorem sc_l_top : FnScope n_l_top p_l_top (defScope s_l_top) := ⟨rfl, rfl, rfl, by decide +kernel, rfl, by decide +kernel, by decide +kernel⟩
theorem bn_l_top : BndOk "_law_top" s_l_top p_l_top := fun _ _ _ _ _ _ us hl => match us, hl with | [_], _ => rfl
abbrev s_l_common : Stmt := top 10
abbrev n_l_common : List Str := ["_law_one", "_law_other"]
abbrev p_l_common : List Str := ["_law_one", "_law_other"]
theorem sc_l_common : FnScope n_l_common p_l_common (defScope s_l_common) := ⟨rfl, rfl, rfl, by decide +kernel, rfl, by decide +kernel, by decide +kernel⟩
theorem bn_l_common : BndOk "_law_common" s_l_common p_l_common := fun _ _ _ _ _ _ us hl => match us, hl with | [_, _], _ => rfl
abbrev s_l_lowest : Stmt := top 11
abbrev n_l_lowest : List Str := ["_law_top_here", "_law_bottom", "_law_common_here"]
abbrev p_l_lowest : List Str := ["_law_top_here", "_law_bottom"]
theorem sc_l_lowest : FnScope n_l_lowest p_l_lowest (defScope s_l_lowest) := ⟨rfl, rfl, rfl, by decide +kernel, rfl, by decide +kernel, by decide +kernel⟩
theorem bn_l_lowest : BndOk "_law_lowest" s_l_lowest p_l_lowest := fun _ _ _ _ _ _ us hl => match us, hl with | [_, _], _ => rfl
abbrev s_l_odd : Stmt := top 12
abbrev n_l_odd : List Str := ["_law_feed_here", "_law_some"]
abbrev p_l_odd : List Str := ["_law_feed_here"]
theorem sc_l_odd : FnScope n_l_odd p_l_odd (defScope s_l_odd) := ⟨rfl, rfl, rfl, by decide +kernel, rfl, by decide +kernel, by decide +kernel⟩
theorem bn_l_odd : BndOk "_law_odd" s_l_odd p_l_odd := fun _ _ _ _ _ _ us hl => match us, hl with | [_], _ => rfl
abbrev s_l_bent : Stmt := top 13
abbrev n_l_bent : List Str := ["_law_feed_here", "_law_thing", "_law_at", "_law_way", "_law_more", "_law_some"]
abbrev p_l_bent : List Str := ["_law_feed_here", "_law_thing"]
theorem sc_l_bent : FnScope n_l_bent p_l_bent (defScope s_l_bent) := ⟨rfl, rfl, rfl, by decide +kernel, rfl, by decide +kernel, by decide +kernel⟩
theorem bn_l_bent : BndOk "_law_bent" s_l_bent p_l_bent := fun _ _ _ _ _ _ us hl => match us, hl with | [_, _], _ => rfl
abbrev s_l_is_whole : Stmt := top 14
abbrev n_l_is_whole : List Str := ["_law_thing"]
abbrev p_l_is_whole : List Str := ["_law_thing"]
theorem sc_l_is_whole : FnScope n_l_is_whole p_l_is_whole (defScope s_l_is_whole) := ⟨rfl, rfl, rfl, by decide +kernel, rfl, by decide +kernel, by decide +kernel⟩
theorem bn_l_is_whole : BndOk "_law_is_whole" s_l_is_whole p_l_is_whole := fun _ _ _ _ _ _ us hl => match us, hl with | [_], _ => rfl
abbrev s_l_is_fraction : Stmt := top 15
abbrev n_l_is_fraction : List Str := ["_law_thing"]
abbrev p_l_is_fraction : List Str := ["_law_thing"]
theorem sc_l_is_fraction : FnScope n_l_is_fraction p_l_is_fraction (defScope s_l_is_fraction) := ⟨rfl, rfl, rfl, by decide +kernel, rfl, by decide +kernel, by decide +kernel⟩
theorem bn_l_is_fraction : BndOk "_law_is_fraction" s_l_is_fraction p_l_is_fraction := fun _ _ _ _ _ _ us hl => match us, hl with | [_], _ => rfl
abbrev s_law : Stmt := top 16
abbrev n_law : List Str := ["_law_script", "_law_feed_here", "_law_things", "_law_far", "_law_k", "_law_top_here", "_law_bottom", "_law_good", "_law_many", "_law_bent_here", "_law_one", "_law_other", "_law_thing", "_law_kept", "_law_due"]
abbrev p_law : List Str := ["_law_script"]
theorem sc_law : FnScope n_law p_law (defScope s_law) := ⟨rfl, rfl, rfl, by decide +kernel, rfl, by decide +kernel, by decide +kernel⟩
theorem bn_law : BndOk "law" s_law p_law := fun _ _ _ _ _ _ us hl => match us, hl with | [_], _ => rfl
structure Bn (mg : Str → Option Value) : Prop where
  isinstance_ : mg "isinstance" = none
  int_ : mg "int" = none
  bool_ : mg "bool" = none
  abs_ : mg "abs" = none
  tuple_ : mg "tuple" = none
  len_ : mg "len" = none
  range_ : mg "range" = none
  list_ : mg "list" = none
  str_ : mg "str" = none
  repr_ : mg "repr" = none
  max_ : mg "max" = none
variable {P : Program} {w : World} {K : PySem.W.Frag} {mg : Str → Option Value} {base : Heap}
/-! ### greatest common divisors -/
def spGcd : Sp := fun vs H Q _ => ∃ i j : Int, vs = [.int i, .int j] ∧ Q (.int ((Int.gcd i j : Nat) : Int)) H
theorem abs_eq (i : Int) : (if i < 0 then -i else i) = (i.natAbs : Int) := by
  split <;> omega
theorem gcd_turn {a b : Int} (ha : 0 ≤ a) (hb : 0 < b) : Int.gcd b (a.fmod b) = Int.gcd a b := by
  obtain ⟨m, rfl⟩ := Int.eq_ofNat_of_zero_le ha
  obtain ⟨n, rfl⟩ := Int.eq_ofNat_of_zero_le (Int.le_of_lt hb)
  rw [Int.fmod_eq_emod_of_nonneg _ (by omega)]
  show Nat.gcd n ((m : Int) % (n : Int)).natAbs = Nat.gcd m n
  have e : ((m : Int) % (n : Int)).natAbs = m % n := by omega
  rw [e, Nat.gcd_comm m n, Nat.gcd_rec n m, Nat.gcd_comm]
theorem gcd_end {a : Int} (ha : 0 ≤ a) : a = ((Int.gcd a 0 : Nat) : Int) := by
  rw [Int.gcd_zero_right]
  omega
theorem ok_common_divisor (D : Df K mg "common_divisor" s_common_divisor) (B : Bn mg) :
    Has P w K mg base "common_divisor" 1 p_common_divisor spGcd := by
  refine has_of (k := 0) D sc_common_divisor bn_common_divisor ?_ ?_
  · rintro vs H Q E ⟨i, j, rfl, _⟩
    rfl
  · rintro f cdv A outer s H vs Q E hr ⟨i, j, rfl, k⟩
    refine ⟨_, (pss_cons (ps_asg (pe_callB call_abs (by rfl) B.abs_ (by decide +kernel) (pa_cons (pv 0) pa_nil)) (pg_name (i := 0) sc_common_divisor.nd rfl (by first | exact Or.inl rfl | exact Or.inr rfl)))
      (pss_cons (ps_asg (pe_callB call_abs (by rfl) B.abs_ (by decide +kernel) (pa_cons (pv 1) pa_nil)) (pg_name (i := 1) sc_common_divisor.nd rfl (by first | exact Or.inl rfl | exact Or.inr rfl)))
      (pss_cons (ps_while PassesOwn.never (pt_cmpR op_ne (pv 1) pe_int (nomark _)) (pss_one (ps_par (i := 0) (j := 1) (by rfl) sc_common_divisor.nd rfl rfl (by decide) rfl rfl (pa_cons (pv 1) (pa_cons (pe_op op_modN (pv 0) (pv 1)) pa_nil)) (by rfl))))
      (pss_one (ps_ret (pv 0)))))), ?_⟩
    refine ⟨_, rfl, _, rfl, ?_⟩
    refine ⟨_, rfl, _, rfl, ?_⟩
    refine while_by (fun σ H' => H' = H ∧ ∃ a b : Int, σ = [some (.int a), some (.int b)] ∧ 0 ≤ a ∧ 0 ≤ b ∧ Int.gcd a b = Int.gcd i j)
      (fun σ _ => match σ with | [_, some (.int b)] => b.natAbs | _ => 0) ?_ ?_ ?_
    · exact ⟨rfl, _, _, rfl, by rw [abs_eq]; omega, by rw [abs_eq]; omega, by rw [abs_eq, abs_eq]; rfl⟩
    · rintro σ H' ⟨rfl, a, b, rfl, ha, hb, hg⟩
      refine ⟨_, rfl, rfl, _, rfl, ?_⟩
      by_cases h0 : b = 0
      · subst h0
        refine iteNS rfl ?_
        refine ⟨_, rfl, ?_⟩
        rw [← hg, ← gcd_end ha] at k
        exact k
      · have e : (!decide (V.int b = V.int 0)) = true := by
          rw [decide_eq_false (fun z => h0 (V.int.inj z))]; rfl
        rw [e]
        refine iteT ?_
        refine ⟨_, rfl, _, rfl, _, rfl, _, _, rfl, rfl, h0, _, _, rfl, ⟨rfl, _, _, rfl, hb, fmod_nn (by omega), ?_⟩, ?_⟩
        · rw [gcd_turn ha (by omega)]
          exact hg
        · have h1 := fmod_lt' (a := a) (b := b) (by omega)
          have h2 := fmod_nn (a := a) (b := b) (by omega)
          show (a.fmod b).natAbs < b.natAbs
          omega
    · rintro σ H' Q1 Q2 hq ⟨v, h1, h2, b, h3, h4⟩
      exact ⟨v, h1, h2, b, h3, hq _ _ h4⟩
theorem ok_l_common (D : Df K mg "_law_common" s_l_common) (B : Bn mg) :
    Has P w K mg base "_law_common" 1 p_l_common spGcd := by
  refine has_of (k := 0) D sc_l_common bn_l_common ?_ ?_
  · rintro vs H Q E ⟨i, j, rfl, _⟩
    rfl
  · rintro f cdv A outer s H vs Q E hr ⟨i, j, rfl, k⟩
    refine ⟨_, (pss_cons (ps_par (i := 0) (j := 1) (by rfl) sc_l_common.nd rfl rfl (by decide) rfl rfl (pa_cons (pe_callB call_abs (by rfl) B.abs_ (by decide +kernel) (pa_cons (pv 0) pa_nil)) (pa_cons (pe_callB call_abs (by rfl) B.abs_ (by decide +kernel) (pa_cons (pv 1) pa_nil)) pa_nil)) (by rfl))
      (pss_cons (ps_while PassesOwn.never (pt_cmpR op_gt (pv 1) pe_int (nomark _)) (pss_one (ps_par (i := 0) (j := 1) (by rfl) sc_l_common.nd rfl rfl (by decide) rfl rfl (pa_cons (pv 1) (pa_cons (pe_op op_modN (pv 0) (pv 1)) pa_nil)) (by rfl))))
      (pss_one (ps_ret (pv 0))))), ?_⟩
    refine ⟨_, rfl, _, rfl, _, rfl, _, rfl, _, _, rfl, ?_⟩
    refine while_by (fun σ H' => H' = H ∧ ∃ a b : Int, σ = [some (.int a), some (.int b)] ∧ 0 ≤ a ∧ 0 ≤ b ∧ Int.gcd a b = Int.gcd i j)
      (fun σ _ => match σ with | [_, some (.int b)] => b.natAbs | _ => 0) ?_ ?_ ?_
    · exact ⟨rfl, _, _, rfl, by rw [abs_eq]; omega, by rw [abs_eq]; omega, by rw [abs_eq, abs_eq]; rfl⟩
    · rintro σ H' ⟨rfl, a, b, rfl, ha, hb, hg⟩
      refine ⟨_, rfl, _, _, rfl, rfl, _, rfl, ?_⟩
      refine ite2 (fun h0 => ?_) (fun h0 => ?_)
      · have h0 : b > 0 := of_decide_eq_true h0
        refine ⟨_, rfl, _, rfl, _, rfl, _, _, rfl, rfl, (by omega), _, _, rfl, ⟨rfl, _, _, rfl, hb, fmod_nn (by omega), ?_⟩, ?_⟩
        · rw [gcd_turn ha (by omega)]
          exact hg
        · have h1 := fmod_lt' (a := a) (b := b) (by omega)
          have h2 := fmod_nn (a := a) (b := b) (by omega)
          show (a.fmod b).natAbs < b.natAbs
          omega
      · have h0 : ¬ b > 0 := fun z => h0 (decide_eq_true z)
        have e : b = 0 := by omega
        subst e
        refine ⟨_, rfl, ?_⟩
        rw [← hg, ← gcd_end ha] at k
        exact k
    · rintro σ H' Q1 Q2 hq ⟨v, h1, x1, x2, h2, h3, b, h4, h5⟩
      exact ⟨v, h1, x1, x2, h2, h3, b, h4, hq _ _ h5⟩

def spIsNumD (K : PySem.W.Frag) : Sp := fun vs H Q _ => ∃ (v : V) (d : PyData), vs = [v] ∧ Dp K H v d ∧ Q (.bl (isNum d)) H
theorem ok_is_number (D : Df K mg "is_number" s_is_number) (B : Bn mg) : Has P w K mg base "is_number" 1 p_is_number (spIsNumD K) := by
  refine has_of (k := 0) D sc_is_number bn_is_number ?_ ?_
  · rintro vs H Q E ⟨v, d, rfl, _⟩
    rfl
  rintro f cdv A outer s0 H vs Q E hr ⟨v, d, rfl, hd, k⟩
  refine ⟨_, (pss_one (ps_ret (pe_and (pe_callB (call_isiK (K := K) (by rfl)) (by rfl) B.isinstance_ (by decide +kernel) (pa_cons (pv 0) (pa_cons (pe_bltn (v := .ty "int") (u := .type "int") (by rfl) B.int_ (by decide +kernel) rfl) pa_nil))) (pe_one (pe_not (pe_callB (call_isiK (K := K) (by rfl)) (by rfl) B.isinstance_ (by decide +kernel) (pa_cons (pv 0) (pa_cons (pe_bltn (v := .ty "bool") (u := .type "bool") (by rfl) B.bool_ (by decide +kernel) rfl) pa_nil)))))))), ?_⟩
  refine ⟨_, rfl, ?_⟩
  dsimp only [tCons, tC, tNil]
  refine isi_int hd ⟨_, rfl, ?_⟩
  cases d with
  | int i =>
    refine iteT ⟨_, rfl, ?_⟩
    dsimp only [tCons, tC, tNil]
    exact isi_bool hd ⟨_, rfl, k⟩
  | bool b =>
    refine iteT ⟨_, rfl, ?_⟩
    dsimp only [tCons, tC, tNil]
    exact isi_bool hd ⟨_, rfl, k⟩
  | none => exact iteF k
  | str x => exact iteF k
  | list ds => exact iteF k
  | tuple ds => exact iteF k
  | dict _ => cases hd

def isFrD : PyData → Bool
  | .tuple [.int t, .int b] => decide (1 ≤ b) && decide (Int.gcd t b = 1)
  | _ => false
def spIsFr (K : PySem.W.Frag) : Sp := fun vs H Q _ => ∃ (v : V) (d : PyData), vs = [v] ∧ Dp K H v d ∧ Q (.bl (isFrD d)) H
theorem fr_len {ds : List PyData} (h : ds.length ≠ 2) : isFrD (.tuple ds) = false :=
  match ds, h with
  | [], _ => by rfl
  | [_], _ => by unfold isFrD; split <;> first | (rename_i e; cases e) | rfl
  | [_, _], h => by exact absurd rfl h
  | _ :: _ :: _ :: _, _ => by unfold isFrD; split <;> first | (rename_i e; cases e) | rfl
theorem fr_num1 {d e : PyData} (h : isNum d = false) : isFrD (.tuple [d, e]) = false := by
  cases d <;> first | rfl | (cases h)
theorem fr_num2 {d e : PyData} (h : isNum e = false) : isFrD (.tuple [d, e]) = false := by
  cases d <;> cases e <;> first | rfl | (cases h)
theorem fr_not {d : PyData} (h : isT d = false) : isFrD d = false := by
  cases d <;> first | rfl | (cases h)
theorem fr_int {t b : Int} : isFrD (.tuple [.int t, .int b]) = (decide (1 ≤ b) && decide (Int.gcd t b = 1)) := rfl
theorem num_int {d : PyData} (h : isNum d = true) : ∃ i, d = .int i := by
  cases d <;> first | exact ⟨_, rfl⟩ | (cases h)
theorem two_of {ds : List PyData} (h : ds.length = 2) : ∃ d e, ds = [d, e] := by
  match ds, h with
  | [d, e], _ => exact ⟨d, e, rfl⟩
theorem dec_one (n : Nat) : decide (V.int (n : Int) = V.int 1) = decide (n = 1) := by
  by_cases h : n = 1
  · subst h
    rfl
  · rw [decide_eq_false h, decide_eq_false]
    intro z
    exact h (by have := V.int.inj z; omega)
theorem ok_is_fraction (D : Df K mg "is_fraction" s_is_fraction) (B : Bn mg) (h_is_number : Has P w K mg base "is_number" 1 p_is_number (spIsNumD K))
    (h_common_divisor : Has P w K mg base "common_divisor" 1 p_common_divisor spGcd) : Has P w K mg base "is_fraction" 2 p_is_fraction (spIsFr K) := by
  refine has_of (k := 1) D sc_is_fraction bn_is_fraction ?_ ?_
  · rintro vs H Q E ⟨v, d, rfl, _⟩
    rfl
  rintro f cdv A outer s0 H vs Q E hr ⟨v, d, rfl, hd, k⟩
  refine ⟨_, (Evl.pss_cut (ps_if (PW.pt (pw_or (pt_not (pt_val (pe_callB (call_isiK (K := K) (by rfl)) (by rfl) B.isinstance_ (by decide +kernel) (pa_cons (pv 0) (pa_cons (pe_bltn (v := .ty "tuple") (u := .type "tuple") (by rfl) B.tuple_ (by decide +kernel) rfl) pa_nil))))) (pw_or1 (pt_cmpR op_ne (pe_callB (call_lenK (K := K) (by rfl)) (by rfl) B.len_ (by decide +kernel) (pa_cons (pv 0) pa_nil)) pe_int (nomark _))))) (pss_one (ps_ret pe_bl)) pss_nil)
      (pss_cons (ps_asg (pv 0) (pg_tupK (K := K) (n := 2) (by rfl) (by rfl) (pgs_cons (pg_name (i := 1) sc_is_fraction.nd rfl (by first | exact Or.inl rfl | exact Or.inr rfl)) (pgs_cons (pg_name (i := 2) sc_is_fraction.nd rfl (by first | exact Or.inl rfl | exact Or.inr rfl)) pgs_nil))))
      (Evl.pss_cut (ps_if (PW.pt (pw_or (pt_not (pt_val (pe_has (h_is_number) (hr.mono (by first | decide | omega)) (by rfl) (pa_cons (pv 1) pa_nil)))) (pw_or1 (pt_not (pt_val (pe_has (h_is_number) (hr.mono (by first | decide | omega)) (by rfl) (pa_cons (pv 2) pa_nil))))))) (pss_one (ps_ret pe_bl)) pss_nil)
      (pss_one (ps_ret (pe_and (pe_cmpR op_ge (pv 2) pe_int (nomark _)) (pe_one (pe_cmpR op_eq (pe_has (h_common_divisor) (hr.mono (by first | decide | omega)) (by rfl) (pa_cons (pv 1) (pa_cons (pv 2) pa_nil))) pe_int (nomark _))))))))), ?_⟩
  rcases tup_or d with hT | ⟨ds, rfl⟩
  · refine ⟨fun _ _ => False, ?_, fun _ _ h => h.elim⟩
    refine ⟨_, rfl, ?_⟩
    dsimp only [tCons, tC, tNil]
    refine isi_tuple hd ?_
    rw [hT]
    rw [fr_not hT] at k
    exact ⟨_, rfl, iteT k⟩
  obtain ⟨a, xs, rfl, hs, ha⟩ := dp_tup hd
  have hlen := dpa_len _ _ ha
  by_cases hn : ds.length = 2
  · refine ⟨fun σ' H' => H' = H ∧ σ' = [some (.ref a), none, none], ?_, ?_⟩
    · refine ⟨_, rfl, ?_⟩
      dsimp only [tCons, tC, tNil]
      refine isi_tuple hd ⟨_, rfl, iteF ?_⟩
      refine ⟨_, rfl, a, xs, rfl, .inr hs, rfl, _, rfl, ?_⟩
      rw [hlen, hn]
      exact iteNS rfl ⟨rfl, rfl⟩
    · rintro σ' H' ⟨rfl, rfl⟩
      obtain ⟨d1, d2, rfl⟩ := two_of hn
      obtain ⟨x1, r1, rfl, h1, ha⟩ := dpa_cons ha
      obtain ⟨x2, r2, rfl, h2, ha⟩ := dpa_cons ha
      have er := dpa_nil ha
      subst er
      refine ⟨_, rfl, a, _, rfl, hs, rfl, _, _, rfl, _, _, rfl, rfl, ?_⟩
      refine ⟨fun σ' H'' => H'' = H' ∧ σ' = [some (.ref a), some x1, some x2] ∧ isNum d1 = true ∧ isNum d2 = true, ?_, ?_⟩
      · refine ⟨_, rfl, x1, d1, rfl, h1, ?_⟩
        cases n1 : isNum d1 with
        | false =>
          rw [fr_num1 n1] at k
          exact ⟨_, rfl, iteT k⟩
        | true =>
          refine ⟨_, rfl, iteF ?_⟩
          refine ⟨_, rfl, x2, d2, rfl, h2, ?_⟩
          cases n2 : isNum d2 with
          | false =>
            rw [fr_num2 n2] at k
            exact ⟨_, rfl, iteT k⟩
          | true => exact ⟨_, rfl, iteF ⟨rfl, rfl, rfl, rfl⟩⟩
      · rintro σ' _ ⟨rfl, rfl, n1, n2⟩
        obtain ⟨t, rfl⟩ := num_int n1
        obtain ⟨b, rfl⟩ := num_int n2
        cases dp_int h1
        cases dp_int h2
        rw [fr_int] at k
        refine ⟨_, rfl, _, _, rfl, rfl, _, rfl, ?_⟩
        by_cases hb : (1 : Int) ≤ b
        · rw [decide_eq_true hb] at k ⊢
          refine iteT ?_
          refine ⟨_, rfl, _, rfl, t, b, rfl, ?_⟩
          rw [Bool.true_and, ← dec_one] at k
          exact ⟨rfl, k⟩
        · rw [decide_eq_false hb] at k ⊢
          exact iteF k
  · refine ⟨fun _ _ => False, ?_, fun _ _ h => h.elim⟩
    refine ⟨_, rfl, ?_⟩
    dsimp only [tCons, tC, tNil]
    refine isi_tuple hd ⟨_, rfl, iteF ?_⟩
    refine ⟨_, rfl, a, xs, rfl, .inr hs, rfl, _, rfl, ?_⟩
    have e : (!decide (V.int (xs.length : Int) = V.int 2)) = true := by
      rw [decide_eq_false (fun z => hn (by have := V.int.inj z; omega))]
      rfl
    rw [e]
    rw [fr_len hn] at k
    exact iteT k
def spIsWh (K : PySem.W.Frag) : Sp := spIsNumD K
theorem ok_l_is_whole (D : Df K mg "_law_is_whole" s_l_is_whole) (B : Bn mg) : Has P w K mg base "_law_is_whole" 1 p_l_is_whole (spIsNumD K) := by
  refine has_of (k := 0) D sc_l_is_whole bn_l_is_whole ?_ ?_
  · rintro vs H Q E ⟨v, d, rfl, _⟩
    rfl
  rintro f cdv A outer s0 H vs Q E hr ⟨v, d, rfl, hd, k⟩
  refine ⟨_, (pss_one (ps_ret (pe_and (pe_callB (call_isiK (K := K) (by rfl)) (by rfl) B.isinstance_ (by decide +kernel) (pa_cons (pv 0) (pa_cons (pe_bltn (v := .ty "int") (u := .type "int") (by rfl) B.int_ (by decide +kernel) rfl) pa_nil))) (pe_one (pe_not (pe_callB (call_isiK (K := K) (by rfl)) (by rfl) B.isinstance_ (by decide +kernel) (pa_cons (pv 0) (pa_cons (pe_bltn (v := .ty "bool") (u := .type "bool") (by rfl) B.bool_ (by decide +kernel) rfl) pa_nil)))))))), ?_⟩
  refine ⟨_, rfl, ?_⟩
  dsimp only [tCons, tC, tNil]
  refine isi_int hd ⟨_, rfl, ?_⟩
  cases d with
  | int i =>
    refine iteT ⟨_, rfl, ?_⟩
    dsimp only [tCons, tC, tNil]
    exact isi_bool hd ⟨_, rfl, k⟩
  | bool b =>
    refine iteT ⟨_, rfl, ?_⟩
    dsimp only [tCons, tC, tNil]
    exact isi_bool hd ⟨_, rfl, k⟩
  | none => exact iteF k
  | str x => exact iteF k
  | list ds => exact iteF k
  | tuple ds => exact iteF k
  | dict _ => cases hd
theorem ok_l_is_fraction (D : Df K mg "_law_is_fraction" s_l_is_fraction) (B : Bn mg) (h_l_is_whole : Has P w K mg base "_law_is_whole" 1 p_l_is_whole (spIsNumD K))
    (h_l_common : Has P w K mg base "_law_common" 1 p_l_common spGcd) : Has P w K mg base "_law_is_fraction" 2 p_l_is_fraction (spIsFr K) := by
  refine has_of (k := 1) D sc_l_is_fraction bn_l_is_fraction ?_ ?_
  · rintro vs H Q E ⟨v, d, rfl, _⟩
    rfl
  rintro f cdv A outer s0 H vs Q E hr ⟨v, d, rfl, hd, k⟩
  refine ⟨_, (Evl.pss_cut (ps_if (PW.pt (pw_or (pt_not (pt_val (pe_callB (call_isiK (K := K) (by rfl)) (by rfl) B.isinstance_ (by decide +kernel) (pa_cons (pv 0) (pa_cons (pe_bltn (v := .ty "tuple") (u := .type "tuple") (by rfl) B.tuple_ (by decide +kernel) rfl) pa_nil))))) (pw_or1 (pt_cmpR op_ne (pe_callB (call_lenK (K := K) (by rfl)) (by rfl) B.len_ (by decide +kernel) (pa_cons (pv 0) pa_nil)) pe_int (nomark _))))) (pss_one (ps_ret pe_bl)) pss_nil)
      (Evl.pss_cut (ps_if (PW.pt (pw_or (pt_not (pt_val (pe_has (h_l_is_whole) (hr.mono (by first | decide | omega)) (by rfl) (pa_cons (pe_ix (ix_tupK (K := K) (by rfl)) (pv 0) pe_int (fun _ _ => rfl)) pa_nil)))) (pw_or1 (pt_not (pt_val (pe_has (h_l_is_whole) (hr.mono (by first | decide | omega)) (by rfl) (pa_cons (pe_ix (ix_tupK (K := K) (by rfl)) (pv 0) pe_int (fun _ _ => rfl)) pa_nil))))))) (pss_one (ps_ret pe_bl)) pss_nil)
      (pss_one (ps_ret (pe_and (pe_cmpR op_gt (pe_ix (ix_tupK (K := K) (by rfl)) (pv 0) pe_int (fun _ _ => rfl)) pe_int (nomark _)) (pe_one (pe_cmpR op_eq (pe_has (h_l_common) (hr.mono (by first | decide | omega)) (by rfl) (pa_cons (pe_ix (ix_tupK (K := K) (by rfl)) (pv 0) pe_int (fun _ _ => rfl)) (pa_cons (pe_ix (ix_tupK (K := K) (by rfl)) (pv 0) pe_int (fun _ _ => rfl)) pa_nil))) pe_int (nomark _)))))))), ?_⟩
  rcases tup_or d with hT | ⟨ds, rfl⟩
  · refine ⟨fun _ _ => False, ?_, fun _ _ h => h.elim⟩
    refine ⟨_, rfl, ?_⟩
    dsimp only [tCons, tC, tNil]
    refine isi_tuple hd ?_
    rw [hT]
    rw [fr_not hT] at k
    exact ⟨_, rfl, iteT k⟩
  obtain ⟨a, xs, rfl, hs, ha⟩ := dp_tup hd
  have hlen := dpa_len _ _ ha
  by_cases hn : ds.length = 2
  · refine ⟨fun σ' H' => H' = H ∧ σ' = [some (.ref a)], ?_, ?_⟩
    · refine ⟨_, rfl, ?_⟩
      dsimp only [tCons, tC, tNil]
      refine isi_tuple hd ⟨_, rfl, iteF ?_⟩
      refine ⟨_, rfl, a, xs, rfl, .inr hs, rfl, _, rfl, ?_⟩
      rw [hlen, hn]
      exact iteNS rfl ⟨rfl, rfl⟩
    · rintro σ' H' ⟨rfl, rfl⟩
      obtain ⟨d1, d2, rfl⟩ := two_of hn
      obtain ⟨x1, r1, rfl, h1, ha⟩ := dpa_cons ha
      obtain ⟨x2, r2, rfl, h2, ha⟩ := dpa_cons ha
      have er := dpa_nil ha
      subst er
      refine ⟨fun σ' H'' => H'' = H' ∧ σ' = [some (.ref a)] ∧ isNum d1 = true ∧ isNum d2 = true, ?_, ?_⟩
      · refine ⟨_, rfl, a, _, 0, x1, rfl, rfl, hs, rfl, x1, d1, rfl, h1, ?_⟩
        cases n1 : isNum d1 with
        | false =>
          rw [fr_num1 n1] at k
          exact ⟨_, rfl, iteT k⟩
        | true =>
          refine ⟨_, rfl, iteF ?_⟩
          refine ⟨_, rfl, a, _, 1, x2, rfl, rfl, hs, rfl, x2, d2, rfl, h2, ?_⟩
          cases n2 : isNum d2 with
          | false =>
            rw [fr_num2 n2] at k
            exact ⟨_, rfl, iteT k⟩
          | true => exact ⟨_, rfl, iteF ⟨rfl, rfl, rfl, rfl⟩⟩
      · rintro σ' _ ⟨rfl, rfl, n1, n2⟩
        obtain ⟨t, rfl⟩ := num_int n1
        obtain ⟨b, rfl⟩ := num_int n2
        cases dp_int h1
        cases dp_int h2
        rw [fr_int] at k
        refine ⟨_, rfl, a, _, 1, _, rfl, rfl, hs, rfl, _, _, rfl, rfl, _, rfl, ?_⟩
        by_cases hb : (1 : Int) ≤ b
        · rw [decide_eq_true hb] at k
          rw [decide_eq_true (show (0 : Int) < b by omega)]
          refine iteT ?_
          refine ⟨_, rfl, a, _, 0, _, rfl, rfl, hs, rfl, _, rfl, a, _, 1, _, rfl, rfl, hs, rfl, t, b, rfl, ?_⟩
          rw [Bool.true_and, ← dec_one] at k
          exact ⟨rfl, k⟩
        · rw [decide_eq_false hb] at k
          rw [decide_eq_false (show ¬ (0 : Int) < b by omega)]
          exact iteF k
  · refine ⟨fun _ _ => False, ?_, fun _ _ h => h.elim⟩
    refine ⟨_, rfl, ?_⟩
    dsimp only [tCons, tC, tNil]
    refine isi_tuple hd ⟨_, rfl, iteF ?_⟩
    refine ⟨_, rfl, a, xs, rfl, .inr hs, rfl, _, rfl, ?_⟩
    have e : (!decide (V.int (xs.length : Int) = V.int 2)) = true := by
      rw [decide_eq_false (fun z => hn (by have := V.int.inj z; omega))]
      rfl
    rw [e]
    rw [fr_len hn] at k
    exact iteT k

end K01

set_option Elab.async false
set_option linter.all false
set_option maxRecDepth 100000
set_option maxHeartbeats 1000000
namespace K01
open PySem PySem.Spec PyProof.Rows L2 Gd
variable {P : Program} {w : World} {K : PySem.W.Frag} {mg : Str → Option Value} {base : Heap}
theorem ok_l_feed (D : Df K mg "_law_feed" s_l_feed) (B : Bn mg) :
    Has P w K mg base "_law_feed" 1 p_l_feed (spFeed K) := by
  refine has_of (k := 0) D sc_l_feed bn_l_feed ?_ ?_
  · rintro vs H Q E ⟨sc, ns, rfl, _⟩
    rfl
  · rintro f cdv A outer s H vs Q E hr ⟨sc, ns, rfl, hS, hl, k⟩
    refine ⟨_, (pss_one (ps_ret (pe_lst (pa_cons (pe_slice (sl_listK (K := K) (by rfl)) (pv 0) po_none (po_some pe_int)) (pa_cons pe_int (pa_cons pe_int (pa_cons pe_int pa_nil))))))), ?_⟩
    obtain ⟨ms, e, hm⟩ := cut_ints ns none (some 63)
    refine ⟨_, rfl, _, rfl, sc, _, rfl, hS, fun p np => ?_⟩
    refine ⟨by show 4 ≤ sizeLine; decide, fun a na => ?_⟩
    have npa : p ≠ a := fun z => by
      rw [z, upd_same] at na
      cases na
    have na0 : H a = none := by
      rw [upd_ne npa.symm] at na
      exact na
    refine k a p _ na0 np (Same.mut (Same.new np) na0) ⟨ms, 0, 0, 0, upd_same, ?_, by omega, by omega, by omega, by omega⟩
    rw [upd_ne npa, upd_same, e]
theorem ok_l_draw (D : Df K mg "_law_draw" s_l_draw) (B : Bn mg) :
    Has P w K mg base "_law_draw" 1 p_l_draw spDraw := by
  refine has_of (k := 0) D sc_l_draw bn_l_draw ?_ ?_
  · rintro vs H Q E ⟨a, s, m, n, rfl, _⟩
    rfl
  · rintro f cdv A outer s0 H vs Q E hr ⟨a, s, m, n, rfl, ⟨ns, p, l, c, ha, hs, hl, hp, hc, hcn⟩, hn, hm1, hm2, k⟩
    have nsa : s ≠ a := ne_of hs ha ref_ints
    refine ⟨_, (pss_cons (ps_asg (pe_op op_add (pe_ix (ix_listK (K := K) (by rfl)) (pv 0) pe_int (fun _ _ => rfl)) pe_int) (pg_sub (pv 0) pe_int set_list))
      (pss_cons (ps_if (pt_cmpR op_gt (pe_ix (ix_listK (K := K) (by rfl)) (pv 0) pe_int (fun _ _ => rfl)) pe_int (nomark _)) (pss_cons (ps_asg (pe_op op_modN (pe_ix (ix_listK (K := K) (by rfl)) (pv 0) pe_int (fun _ _ => rfl)) (pv 1)) (pg_name (i := 2) sc_l_draw.nd rfl (by first | exact Or.inl rfl | exact Or.inr rfl)))
      (pss_cons (ps_asg (pe_op op_fdivN (pe_ix (ix_listK (K := K) (by rfl)) (pv 0) pe_int (fun _ _ => rfl)) (pv 1)) (pg_sub (pv 0) pe_int set_list))
      (pss_one (ps_ret (pv 2))))) pss_nil)
      (pss_cons (ps_asg pe_int (pg_name (i := 3) sc_l_draw.nd rfl (by first | exact Or.inl rfl | exact Or.inr rfl)))
      (Evl.pss_cut (ps_if (pt_cmpR (op_neK (K := K) (by rfl) hr.units) (pe_ix (ix_listK (K := K) (by rfl)) (pv 0) pe_int (fun _ _ => rfl)) (pe_lst pa_nil) (nomark _)) (pss_one (ps_asg (pe_ix (ix_listK (K := K) (by rfl)) (pe_ix (ix_listK (K := K) (by rfl)) (pv 0) pe_int (fun _ _ => rfl)) (pe_op op_modN (pe_ix (ix_listK (K := K) (by rfl)) (pv 0) pe_int (fun _ _ => rfl)) (pe_callB (call_lenK (K := K) (by rfl)) (by rfl) B.len_ (by decide +kernel) (pa_cons (pe_ix (ix_listK (K := K) (by rfl)) (pv 0) pe_int (fun _ _ => rfl)) pa_nil))) (fun _ _ => rfl)) (pg_name (i := 3) sc_l_draw.nd rfl (by first | exact Or.inl rfl | exact Or.inr rfl)))) pss_nil)
      (pss_cons (ps_asg (pe_op op_add (pe_ix (ix_listK (K := K) (by rfl)) (pv 0) pe_int (fun _ _ => rfl)) pe_int) (pg_sub (pv 0) pe_int set_list))
      (Evl.pss_cut (ps_if (PW.pt (pw_and (pt_cmpR op_ge (pv 3) (pe_op op_pow pe_int pe_int) (nomark _)) (pw_and1 (pt_cmpR op_le (pe_ix (ix_listK (K := K) (by rfl)) (pv 0) pe_int (fun _ _ => rfl)) (pe_callB (call_lenK (K := K) (by rfl)) (by rfl) B.len_ (by decide +kernel) (pa_cons (pe_ix (ix_listK (K := K) (by rfl)) (pv 0) pe_int (fun _ _ => rfl)) pa_nil)) (nomark _))))) (pss_cons (ps_asg (pe_op op_fdivN (pv 3) (pv 1)) (pg_sub (pv 0) pe_int set_list))
      (pss_one (ps_ret (pe_op op_modN (pv 3) (pv 1))))) pss_nil)
      (pss_cons (ps_asg (pe_op op_modN (pe_op op_pow (pe_op op_add (pe_op op_modN (pv 3) pe_int) (pe_op op_mul pe_int (pe_ix (ix_listK (K := K) (by rfl)) (pv 0) pe_int (fun _ _ => rfl)))) pe_int) pe_int) (pg_name (i := 4) sc_l_draw.nd rfl (by first | exact Or.inl rfl | exact Or.inr rfl)))
      (pss_cons (ps_asg (pe_op op_modN (pe_op op_pow (pe_op op_add (pe_op op_mul (pv 4) (pe_op op_add (pe_op op_mul pe_int (pe_ix (ix_listK (K := K) (by rfl)) (pv 0) pe_int (fun _ _ => rfl))) pe_int)) pe_int) pe_int) pe_int) (pg_name (i := 4) sc_l_draw.nd rfl (by first | exact Or.inl rfl | exact Or.inr rfl)))
      (pss_one (ps_ret (pe_op op_modN (pe_op op_fdivN (pv 4) pe_int) (pv 1)))))))))))), ?_⟩
    refine ⟨_, rfl, a, _, 3, _, rfl, rfl, SqL.of ha, rfl, _, _, rfl, rfl, _, rfl, a, _, 3, 3, rfl, rfl, ha, rfl, ?_⟩
    have h1a : upd H a (.lst [.ref s, .int p, .int l, .int (c + 1)]) a = some (.lst [.ref s, .int p, .int l, .int (c + 1)]) := upd_same
    have h1s : upd H a (.lst [.ref s, .int p, .int l, .int (c + 1)]) s = some (.lst (ns.map V.int)) := by
      rw [upd_ne nsa]
      exact hs
    have sb1 : Sb a H (upd H a (.lst [.ref s, .int p, .int l, .int (c + 1)])) := Sb.own (Sb.refl a H)
    refine ⟨_, rfl, a, _, 2, _, rfl, rfl, SqL.of h1a, rfl, _, _, rfl, rfl, _, rfl, ?_⟩
    refine ite2 (fun hlt => ?_) (fun hle => ?_)
    · refine ⟨_, rfl, a, _, 2, _, rfl, rfl, SqL.of h1a, rfl, _, rfl, _, _, rfl, rfl, (by omega), ?_⟩
      refine ⟨_, rfl, a, _, 2, _, rfl, rfl, SqL.of h1a, rfl, _, rfl, _, _, rfl, rfl, ⟨by omega, by omega⟩, _, rfl, a, _, 2, 2, rfl, rfl, h1a, rfl, ?_⟩
      refine ⟨_, rfl, ?_⟩
      refine k _ _ (fmod_nn (by omega)) (fmod_lt' (by omega)) (Sb.own sb1) ⟨ns, p, _, c + 1, upd_same, ?_, hl, hp, by omega, by omega⟩
      rw [upd_ne nsa]
      exact h1s
    · refine ⟨fun σ' H' => ∃ z : Int, σ' = [some (.ref a), some (.int m), none, some (.int z), none] ∧
        H' a = some (.lst [.ref s, .int p, .int l, .int (c + 1)]) ∧ H' s = some (.lst (ns.map V.int)) ∧ Sb a H H', ?_, ?_⟩
      · refine ⟨_, rfl, a, _, 0, _, rfl, rfl, SqL.of h1a, rfl, Nat.zero_le _, fun q nq => ?_⟩
        have nqa : q ≠ a := fun z => by
          rw [z, upd_same] at nq
          cases nq
        have nq : upd H a (.lst [.ref s, .int p, .int l, .int (c + 1)]) q = none := nq
        have nqs : q ≠ s := fun z => by
          rw [z, h1s] at nq
          cases nq
        have h2a := upd_ne (H := upd H a (.lst [.ref s, .int p, .int l, .int (c + 1)])) (o := .lst []) nqa.symm
        have h2s := upd_ne (H := upd H a (.lst [.ref s, .int p, .int l, .int (c + 1)])) (o := .lst []) nqs.symm
        rw [h1a] at h2a
        rw [h1s] at h2s
        have sb2 := Sb.trans sb1 (Sb.new (a := a) (o := .lst []) nq)
        refine ⟨.list (ns.map PyData.int), .list [], .lst (SqL.of h2s) (dp_ints ns), .lst (SqL.of upd_same) .nil, ints_shaped ns, ints_shaped [], ?_⟩
        refine ⟨_, rfl, ?_⟩
        rw [ints_nil]
        refine ite2 (fun he => ?_) (fun he => ?_)
        · have hne : ns ≠ [] := by
            intro z
            rw [decide_eq_true z] at he
            cases he
          have hpos : 0 < ns.length := List.length_pos_iff.mpr hne
          obtain ⟨z, hz⟩ := at_ints (ns := ns) (i := p.fmod ((ns.map V.int).length : Int)) (fmod_nn (by rw [List.length_map]; omega))
            (by
              have := fmod_lt' (a := p) (b := ((ns.map V.int).length : Int)) (by rw [List.length_map]; omega)
              rw [List.length_map] at this ⊢
              exact this)
          refine ⟨_, rfl, a, _, 0, _, rfl, rfl, SqL.of h2a, rfl, _, rfl, a, _, 1, _, rfl, rfl, SqL.of h2a, rfl, _, rfl, a, _, 0, _, rfl, rfl, SqL.of h2a, rfl, s, _, rfl, .inl (SqL.of h2s), _, _, rfl, rfl, (by rw [List.length_map]; omega), s, _, _, _, rfl, rfl, SqL.of h2s, hz, ?_⟩
          exact ⟨z, rfl, h2a, h2s, sb2⟩
        · exact ⟨7, rfl, h2a, h2s, sb2⟩
      · rintro σ' H' ⟨z, rfl, h3a, h3s, sb3⟩
        refine ⟨_, rfl, a, _, 1, _, rfl, rfl, SqL.of h3a, rfl, _, _, rfl, rfl, _, rfl, a, _, 1, 1, rfl, rfl, h3a, rfl, ?_⟩
        have h4a : upd H' a (.lst [.ref s, .int (p + 1), .int l, .int (c + 1)]) a = some (.lst [.ref s, .int (p + 1), .int l, .int (c + 1)]) := upd_same
        have h4s : upd H' a (.lst [.ref s, .int (p + 1), .int l, .int (c + 1)]) s = some (.lst (ns.map V.int)) := by
          rw [upd_ne nsa]
          exact h3s
        have sb4 : Sb a H (upd H' a (.lst [.ref s, .int (p + 1), .int l, .int (c + 1)])) := Sb.own sb3
        refine ⟨fun σ'' H'' => σ'' = [some (.ref a), some (.int m), none, some (.int z), none] ∧ H'' = upd H' a (.lst [.ref s, .int (p + 1), .int l, .int (c + 1)]), ?_, ?_⟩
        · refine ⟨_, rfl, _, _, rfl, rfl, ⟨by decide, by decide, by decide⟩, _, _, rfl, rfl, _, rfl, ?_⟩
          refine ite2 (fun hz => ?_) (fun hz => ⟨rfl, rfl⟩)
          refine ⟨_, rfl, a, _, 1, _, rfl, rfl, SqL.of h4a, rfl, _, rfl, a, _, 0, _, rfl, rfl, SqL.of h4a, rfl, s, _, rfl, .inl (SqL.of h4s), _, _, rfl, rfl, _, rfl, ?_⟩
          refine ite2 (fun hw => ?_) (fun hw => ⟨rfl, rfl⟩)
          refine ⟨_, rfl, _, rfl, _, _, rfl, rfl, ⟨by omega, by omega⟩, _, rfl, a, _, 2, 2, rfl, rfl, h4a, rfl, ?_⟩
          refine ⟨_, rfl, _, rfl, _, _, rfl, rfl, (by omega), ?_⟩
          refine k _ _ (fmod_nn (by omega)) (fmod_lt' (by omega)) (Sb.own sb4) ⟨ns, p + 1, _, c + 1, upd_same, ?_, hl, by omega, by omega, by omega⟩
          rw [upd_ne nsa]
          exact h4s
        · rintro σ'' H'' ⟨rfl, rfl⟩
          have f1 := fmod_nn (a := z) (b := 2147483629) (by omega)
          have f2 := fmod_lt' (a := z) (b := 2147483629) (by omega)
          refine ⟨_, rfl, _, _, rfl, rfl, (by omega), _, rfl, a, _, 3, _, rfl, rfl, SqL.of h4a, rfl, _, _, rfl, rfl, .inl ⟨by omega, by omega⟩, _, _, rfl, rfl, _, _, rfl, rfl, ⟨by omega, by omega, by omega⟩, _, _, rfl, rfl, (by omega), ?_⟩
          have big : ∀ y : Int, 0 ≤ y → y < 2147483647 → (y * (2 * (c + 1) + 1) + 7919).natAbs < 2 ^ 64 := by
            intro y g1 g2
            have g3 : 0 ≤ y * (2 * (c + 1) + 1) := Int.mul_nonneg g1 (by omega)
            have g4 : y * (2 * (c + 1) + 1) ≤ 2147483647 * 2000005 := Int.mul_le_mul (by omega) (by omega) (by omega) (by omega)
            omega
          have sml : ∀ y : Int, 0 ≤ y → y < 2147483647 → -(2 ^ 64) < y ∧ y < 2 ^ 64 := by
            intro y g1 g2
            omega
          refine ⟨_, rfl, _, rfl, a, _, 3, _, rfl, rfl, SqL.of h4a, rfl, _, _, rfl, rfl, .inl ⟨by omega, by omega⟩, _, _, rfl, rfl, _, _, rfl, rfl, .inl (sml _ (fmod_nn (by omega)) (fmod_lt' (by omega))), _, _, rfl, rfl, _, _, rfl, rfl, ⟨by omega, by omega, big _ (fmod_nn (by omega)) (fmod_lt' (by omega))⟩, _, _, rfl, rfl, (by omega), ?_⟩
          refine ⟨_, rfl, _, _, rfl, rfl, ⟨by omega, by omega⟩, _, rfl, _, _, rfl, rfl, (by omega), ?_⟩
          exact k _ _ (fmod_nn (by omega)) (fmod_lt' (by omega)) sb4 ⟨ns, p + 1, l, c + 1, h4a, h4s, hl, by omega, by omega, by omega⟩

abbrev spWide : Sp := spNum 0 (10 ^ 40) 8
abbrev spSize : Sp := spNum 0 (10 ^ 40) 10
abbrev spTop : Sp := spNum (-(10 ^ 40)) (10 ^ 40) 12
theorem wide_step {x i r : Nat} (hx : x < 10 ^ (4 + 6 * i)) (hr : r < 1000000) : x * 1000000 + r < 10 ^ (4 + 6 * (i + 1)) := by
  have e : 10 ^ (4 + 6 * (i + 1)) = 10 ^ (4 + 6 * i) * 1000000 := by
    rw [show 4 + 6 * (i + 1) = (4 + 6 * i) + 6 from by omega, Nat.pow_add]
  rw [e]
  have h : (x + 1) * 1000000 ≤ 10 ^ (4 + 6 * i) * 1000000 := Nat.mul_le_mul_right _ hx
  omega
theorem wide_end {x i : Nat} (hx : x < 10 ^ (4 + 6 * i)) (hi : i ≤ 6) : x < 10 ^ 40 :=
  Nat.lt_of_lt_of_le hx (Nat.pow_le_pow_right (by omega) (by omega))
theorem ok_l_wide (D : Df K mg "_law_wide" s_l_wide) (B : Bn mg) (h_l_draw : Has P w K mg base "_law_draw" 1 p_l_draw spDraw) :
    Has P w K mg base "_law_wide" 2 p_l_wide spWide := by
  refine has_of (k := 1) D sc_l_wide bn_l_wide spNum_len ?_
  rintro f cdv A outer s0 H vs Q E hr ⟨a, s, n, rfl, hF, hn, k⟩
  refine ⟨_, (pss_cons (ps_asg (pe_has (h_l_draw) (hr.mono (by first | decide | omega)) (by rfl) (pa_cons (pv 0) (pa_cons (pe_op op_pow pe_int pe_int) pa_nil))) (pg_name (i := 1) sc_l_wide.nd rfl (by first | exact Or.inl rfl | exact Or.inr rfl)))
      (pss_cons (ps_for PassesOwn.never rfl (pi_range1 (by rfl) B.range_ (pa_cons (pe_has (h_l_draw) (hr.mono (by first | decide | omega)) (by rfl) (pa_cons (pv 0) (pa_cons pe_int pa_nil))) pa_nil)) (pg_name (i := 2) sc_l_wide.nd rfl (by first | exact Or.inl rfl | exact Or.inr rfl)) (pss_one (ps_asg (pe_op op_add (pe_op op_mulW (pv 1) (pe_op op_pow pe_int pe_int)) (pe_has (h_l_draw) (hr.mono (by first | decide | omega)) (by rfl) (pa_cons (pv 0) (pa_cons (pe_op op_pow pe_int pe_int) pa_nil)))) (pg_name (i := 1) sc_l_wide.nd rfl (by first | exact Or.inl rfl | exact Or.inr rfl)))))
      (pss_one (ps_ret (pv 1))))), ?_⟩
  refine ⟨_, rfl, _, _, rfl, rfl, ⟨by decide, by decide, by decide⟩, a, s, _, n, rfl, hF, by omega, by decide, by decide, fun r H1 r0 r1 sb1 f1 => ?_⟩
  refine ⟨_, rfl, a, s, _, n + 1, rfl, f1, by omega, by decide, by decide, fun r2 H2 r20 r21 sb2 f2 => ?_⟩
  refine ⟨r2, rfl, by omega, by omega, for_range (lo := 0) (n := r2.toNat) (fun i σ H' => ∃ (x : Nat) (v : Option V),
    σ = [some (.ref a), some (.int (x : Int)), v] ∧ x < 10 ^ (4 + 6 * i) ∧ Sb a H H' ∧ Fd H' a s (n + 2 + i)) ?_ ?_ ?_⟩
  · refine ⟨r.toNat, none, ?_, ?_, Sb.trans sb1 sb2, f2⟩
    · rw [show ((r.toNat : Nat) : Int) = r from by omega]
      rfl
    · have r1 : r < 10000 := r1
      show r.toNat < 10000
      omega
  · rintro i σ H' hi ⟨x, v, rfl, hx, sb, f⟩
    have hx40 := wide_end hx (by omega)
    refine ⟨_, rfl, _, _, rfl, rfl, ⟨by decide, by decide, by decide⟩, _, _, rfl, rfl,
      wide_mul (a := 133) (b := 20) (by show ((x : Int)).natAbs < 2 ^ 133; omega) (by decide) (by decide) (by decide) (by decide), ?_⟩
    refine ⟨_, rfl, _, _, rfl, rfl, ⟨by decide, by decide, by decide⟩, a, s, _, n + 2 + i, rfl, f, by omega, by decide, by decide, fun r3 H3 r30 r31 sb3 f3 => ?_⟩
    refine ⟨_, _, rfl, rfl, x * 1000000 + r3.toNat, some (.int (0 + (i : Int))), ?_, ?_, Sb.trans sb sb3, f3⟩
    · rw [show ((x * 1000000 + r3.toNat : Nat) : Int) = (x : Int) * 10 ^ Int.toNat 6 + r3 from by
        show ((x * 1000000 + r3.toNat : Nat) : Int) = (x : Int) * 1000000 + r3
        omega]
      rfl
    · have r31 : r3 < 1000000 := r31
      exact wide_step hx (by omega)
  · rintro σ H' ⟨x, v, rfl, hx, sb, f⟩
    have hx40 := wide_end hx (by omega)
    refine ⟨_, rfl, k _ H' (by omega) (by omega) sb (f.mono (by omega))⟩
theorem ok_l_size (D : Df K mg "_law_size" s_l_size) (B : Bn mg) (h_l_draw : Has P w K mg base "_law_draw" 1 p_l_draw spDraw)
    (h_l_wide : Has P w K mg base "_law_wide" 2 p_l_wide spWide) :
    Has P w K mg base "_law_size" 3 p_l_size spSize := by
  refine has_of (k := 2) D sc_l_size bn_l_size spNum_len ?_
  rintro f cdv A outer s0 H vs Q E hr ⟨a, s, n, rfl, hF, hn, k⟩
  refine ⟨_, (pss_one (ps_ret (pe_ifExp (pt_cmpR op_gt (pe_has (h_l_draw) (hr.mono (by first | decide | omega)) (by rfl) (pa_cons (pv 0) (pa_cons pe_int pa_nil))) pe_int (nomark _)) (pe_has (h_l_draw) (hr.mono (by first | decide | omega)) (by rfl) (pa_cons (pv 0) (pa_cons pe_int pa_nil))) (pe_has (h_l_wide) (hr.mono (by first | decide | omega)) (by rfl) (pa_cons (pv 0) pa_nil))))), ?_⟩
  refine ⟨_, rfl, a, s, _, n, rfl, hF, by omega, by decide, by decide, fun r H1 r0 r1 sb1 f1 => ?_⟩
  refine ⟨_, _, rfl, rfl, _, rfl, ?_⟩
  refine ite2 (fun _ => ?_) (fun _ => ?_)
  · refine ⟨_, rfl, a, s, _, n + 1, rfl, f1, by omega, by decide, by decide, fun r2 H2 r20 r21 sb2 f2 => ?_⟩
    exact k _ _ r20 (by omega) (Sb.trans sb1 sb2) (f2.mono (by omega))
  · refine ⟨_, rfl, a, s, n + 1, rfl, f1, by omega, fun r2 H2 r20 r21 sb2 f2 => ?_⟩
    exact k _ _ r20 r21 (Sb.trans sb1 sb2) (f2.mono (by omega))
theorem ok_l_top (D : Df K mg "_law_top" s_l_top) (B : Bn mg) (h_l_draw : Has P w K mg base "_law_draw" 1 p_l_draw spDraw)
    (h_l_size : Has P w K mg base "_law_size" 3 p_l_size spSize) :
    Has P w K mg base "_law_top" 4 p_l_top spTop := by
  refine has_of (k := 3) D sc_l_top bn_l_top spNum_len ?_
  rintro f cdv A outer s0 H vs Q E hr ⟨a, s, n, rfl, hF, hn, k⟩
  refine ⟨_, (pss_one (ps_ret (pe_ifExp (pt_cmpR op_eq (pe_has (h_l_draw) (hr.mono (by first | decide | omega)) (by rfl) (pa_cons (pv 0) (pa_cons pe_int pa_nil))) pe_int (nomark _)) (pe_has (h_l_size) (hr.mono (by first | decide | omega)) (by rfl) (pa_cons (pv 0) pa_nil)) (pe_un un_neg (pe_has (h_l_size) (hr.mono (by first | decide | omega)) (by rfl) (pa_cons (pv 0) pa_nil)))))), ?_⟩
  refine ⟨_, rfl, a, s, _, n, rfl, hF, by omega, by decide, by decide, fun r H1 r0 r1 sb1 f1 => ?_⟩
  refine ⟨rfl, _, rfl, ?_⟩
  refine ite2 (fun _ => ?_) (fun _ => ?_)
  · refine ⟨_, rfl, a, s, n + 1, rfl, f1, by omega, fun r2 H2 r20 r21 sb2 f2 => ?_⟩
    exact k _ _ (by omega) r21 (Sb.trans sb1 sb2) (f2.mono (by omega))
  · refine ⟨_, rfl, a, s, n + 1, rfl, f1, by omega, fun r2 H2 r20 r21 sb2 f2 => ?_⟩
    refine ⟨_, rfl, ?_⟩
    refine k _ _ ?_ ?_ (Sb.trans sb1 sb2) (f2.mono (by omega))
    · omega
    · omega

/-! ### fractions -/
def lowT (t b : Int) : Int := if b < 0 then (-t).fdiv ((Int.gcd t b : Nat) : Int) else t.fdiv ((Int.gcd t b : Nat) : Int)
def lowB (t b : Int) : Int := if b < 0 then (-b).fdiv ((Int.gcd t b : Nat) : Int) else b.fdiv ((Int.gcd t b : Nat) : Int)
theorem fdiv_turn (t g : Int) : t.fdiv (-g) = (-t).fdiv g := by
  rw [← Int.neg_fdiv_neg t (-g), Int.neg_neg]
theorem gcd_ne {t b : Int} (hb : b ≠ 0) : ((Int.gcd t b : Nat) : Int) ≠ 0 := by
  intro h
  have h0 : Int.gcd t b = 0 := by omega
  exact hb (Int.gcd_eq_zero_iff.mp h0).2
theorem gcd_le {t b : Int} (hb : b ≠ 0) : Int.gcd t b ≤ b.natAbs := Nat.le_of_dvd (by omega) (Nat.gcd_dvd_right _ _)
theorem gcd_div {t b : Int} {n : Nat} (hb : b ≠ 0) (h : b.natAbs < 2 ^ n) (h0 : 0 < n) (h9 : n ≤ 9000) (i : Int) :
    CDivA i ((Int.gcd t b : Nat) : Int) := by
  refine ⟨gcd_ne hb, Nat.lt_of_lt_of_le (PySem.Flt.log2_lt_of h0 ?_) h9⟩
  have := gcd_le (t := t) hb
  omega
theorem gcd_divN {t b : Int} {n : Nat} (hb : b ≠ 0) (h : b.natAbs < 2 ^ n) (h0 : 0 < n) (h9 : n ≤ 9000) (i : Int) :
    CDivA i (-((Int.gcd t b : Nat) : Int)) := by
  have g := gcd_div (t := t) hb h h0 h9 i
  refine ⟨fun z => g.1 (by omega), ?_⟩
  rw [Int.natAbs_neg]
  exact g.2
def spLow : Sp := fun vs H Q _ => ∃ t b : Int, vs = [.int t, .int b] ∧ b ≠ 0 ∧ b.natAbs < 2 ^ 2000 ∧
  ∀ (p : Addr) (H' : Hp), H p = none → Same H H' → H' p = some (.tup [.int (lowT t b), .int (lowB t b)]) → Q (.ref p) H'

theorem ok_l_lowest (D : Df K mg "_law_lowest" s_l_lowest) (B : Bn mg)
    (h_l_common : Has P w K mg base "_law_common" 1 p_l_common spGcd) :
    Has P w K mg base "_law_lowest" 2 p_l_lowest spLow := by
  refine has_of (k := 1) D sc_l_lowest bn_l_lowest ?_ ?_
  · rintro vs H Q E ⟨t, b, rfl, _⟩
    rfl
  rintro f cdv A outer s0 H vs Q E hr ⟨t, b, rfl, hb, hbb, k⟩
  refine ⟨_, (pss_cons (ps_asg (pe_has (h_l_common) (hr.mono (by first | decide | omega)) (by rfl) (pa_cons (pv 0) (pa_cons (pv 1) pa_nil))) (pg_name (i := 2) sc_l_lowest.nd rfl (by first | exact Or.inl rfl | exact Or.inr rfl)))
      (pss_cons (ps_if (pt_cmpR op_lt (pv 1) pe_int (nomark _)) (pss_one (ps_ret (pe_tup (pa_cons (pe_op op_fdivA (pe_un un_neg (pv 0)) (pv 2)) (pa_cons (pe_op op_fdivA (pe_un un_neg (pv 1)) (pv 2)) pa_nil))))) pss_nil)
      (pss_one (ps_ret (pe_tup (pa_cons (pe_op op_fdivA (pv 0) (pv 2)) (pa_cons (pe_op op_fdivA (pv 1) (pv 2)) pa_nil))))))), ?_⟩
  refine ⟨_, rfl, _, rfl, t, b, rfl, ?_⟩
  refine ⟨_, rfl, _, _, rfl, rfl, _, rfl, ?_⟩
  refine ite2 (fun h => ?_) (fun h => ?_)
  · have h := of_decide_eq_true h
    refine ⟨_, rfl, _, rfl, _, rfl, _, _, rfl, rfl, gcd_div hb hbb (by decide) (by decide) _, _, rfl, _, rfl, _, rfl, _, _, rfl, rfl, gcd_div hb hbb (by decide) (by decide) _, (by show 2 ≤ sizeLine; decide), fun p np => ?_⟩
    have g := k p _ np (Same.new np) upd_same
    unfold lowT lowB at g
    rw [if_pos h, if_pos h] at g
    exact g
  · have h : ¬ b < 0 := fun z => h (decide_eq_true z)
    refine ⟨_, rfl, _, rfl, _, _, rfl, rfl, gcd_div hb hbb (by decide) (by decide) _, _, rfl, _, rfl, _, _, rfl, rfl, gcd_div hb hbb (by decide) (by decide) _, (by show 2 ≤ sizeLine; decide), fun p np => ?_⟩
    have g := k p _ np (Same.new np) upd_same
    unfold lowT lowB at g
    rw [if_neg h, if_neg h] at g
    exact g

theorem fdiv_le (x : Int) (g : Nat) : (x.fdiv (g : Int)).natAbs ≤ x.natAbs := by
  rw [Int.fdiv_eq_ediv_of_nonneg x (by omega)]
  exact Int.natAbs_ediv_le_natAbs x g
theorem lowT_le (t b : Int) : (lowT t b).natAbs ≤ t.natAbs := by
  unfold lowT
  split
  · have := fdiv_le (-t) (Int.gcd t b)
    omega
  · exact fdiv_le t _
theorem lowB_le (t b : Int) : (lowB t b).natAbs ≤ b.natAbs := by
  unfold lowB
  split
  · have := fdiv_le (-b) (Int.gcd t b)
    omega
  · exact fdiv_le b _
theorem fdiv_ne {b : Int} {g : Nat} (hb : b ≠ 0) (hd : (g : Int) ∣ b) : b.fdiv (g : Int) ≠ 0 := by
  rw [Int.fdiv_eq_ediv_of_nonneg b (by omega)]
  intro z
  have e := Int.ediv_mul_cancel hd
  rw [z, Int.zero_mul] at e
  exact hb e.symm
theorem lowB_ne {t b : Int} (hb : b ≠ 0) : lowB t b ≠ 0 := by
  have hd : ((Int.gcd t b : Nat) : Int) ∣ b := Int.gcd_dvd_right ..
  unfold lowB
  split
  · exact fdiv_ne (by omega) (Int.dvd_neg.mpr hd)
  · exact fdiv_ne hb hd

def oddL : List PyData := [.none, .bool true, .bool false, .str "", .str "add", .tuple [], .list [], .tuple [.int 0], .list [.int 0], .int (10 ^ Int.toNat 40), .int (-1), .int 0, .int 1, .tuple [.tuple []], .tuple [.int 0, .tuple []], .tuple [.int 1, .int 1], .str "0", .tuple [.int 1, .int 2, .int 3]]
theorem odd_fine : ∀ d ∈ oddL, Fn (10 ^ 40) 2 5 d := by
  intro d hd
  simp only [oddL, List.mem_cons, List.not_mem_nil, or_false] at hd
  rcases hd with rfl | rfl | rfl | rfl | rfl | rfl | rfl | rfl | rfl | rfl | rfl | rfl | rfl | rfl | rfl | rfl | rfl | rfl <;> exact ⟨by decide +kernel, by decide +kernel, by decide +kernel⟩
def spOdd (K : PySem.W.Frag) : Sp := fun vs H Q _ => ∃ (a s : Addr) (n : Nat), vs = [.ref a] ∧ Fd H a s n ∧ n + 1 ≤ 1000000 ∧
  ∀ (v : V) (H' : Hp) (d : PyData), Sb a H H' → Fd H' a s (n + 1) → Dq K a H' v d → Fn (10 ^ 40) 2 5 d → Q v H'
theorem ok_l_odd (D : Df K mg "_law_odd" s_l_odd) (B : Bn mg) (h_l_draw : Has P w K mg base "_law_draw" 1 p_l_draw spDraw) :
    Has P w K mg base "_law_odd" 2 p_l_odd (spOdd K) := by
  refine has_of (k := 1) D sc_l_odd bn_l_odd ?_ ?_
  · rintro vs H Q E ⟨a, s, n, rfl, _⟩
    rfl
  rintro f cdv A outer s0 H vs Q E hr ⟨a, s, n, rfl, f0, hn, k⟩
  refine ⟨_, (pss_cons (ps_asg (pe_lst (pa_cons pe_non (pa_cons pe_bl (pa_cons pe_bl (pa_cons pe_str (pa_cons pe_str (pa_cons (pe_tup pa_nil) (pa_cons (pe_lst pa_nil) (pa_cons (pe_tup (pa_cons pe_int pa_nil)) (pa_cons (pe_lst (pa_cons pe_int pa_nil)) (pa_cons (pe_op op_pow pe_int pe_int) (pa_cons (pe_un un_neg pe_int) (pa_cons pe_int (pa_cons pe_int (pa_cons (pe_tup (pa_cons (pe_tup pa_nil) pa_nil)) (pa_cons (pe_tup (pa_cons pe_int (pa_cons (pe_tup pa_nil) pa_nil))) (pa_cons (pe_tup (pa_cons pe_int (pa_cons pe_int pa_nil))) (pa_cons pe_str (pa_cons (pe_tup (pa_cons pe_int (pa_cons pe_int (pa_cons pe_int pa_nil)))) pa_nil))))))))))))))))))) (pg_name (i := 1) sc_l_odd.nd rfl (by first | exact Or.inl rfl | exact Or.inr rfl)))
      (pss_one (ps_ret (pe_ix (ix_listK (K := K) (by rfl)) (pv 1) (pe_has (h_l_draw) (hr.mono (by first | decide | omega)) (by rfl) (pa_cons (pv 0) (pa_cons pe_int pa_nil))) (fun _ _ => rfl))))), ?_⟩
  refine ⟨by show 0 ≤ sizeLine; decide, fun p1 np1 => ?_⟩
  obtain ⟨H1, xH1, e1, h1⟩ := tupQ (K := K) f0.nn np1 .nil
  rw [xH1]
  have f1 := f0.same e1
  refine ⟨by show 0 ≤ sizeLine; decide, fun p2 np2 => ?_⟩
  obtain ⟨H2, xH2, e2, h2, n2, h2'⟩ := lstQ (K := K) f1.nn np2 .nil
  rw [xH2]
  have f2 := f1.same e2
  have h2 : Dq K a H2 (.ref p2) (.list []) := Dq.lst h2 n2 h2'
  refine ⟨by show 1 ≤ sizeLine; decide, fun p3 np3 => ?_⟩
  obtain ⟨H3, xH3, e3, h3⟩ := tupQ (K := K) f2.nn np3 (.cons (.int 0) .nil)
  rw [xH3]
  have f3 := f2.same e3
  refine ⟨by show 1 ≤ sizeLine; decide, fun p4 np4 => ?_⟩
  obtain ⟨H4, xH4, e4, h4, n4, h4'⟩ := lstQ (K := K) f3.nn np4 (.cons (.int 0) .nil)
  rw [xH4]
  have f4 := f3.same e4
  have h4 : Dq K a H4 (.ref p4) (.list [.int 0]) := Dq.lst h4 n4 h4'
  refine ⟨_, _, rfl, rfl, ⟨by decide, by decide, by decide⟩, _, rfl, ?_⟩
  refine ⟨by show 0 ≤ sizeLine; decide, fun p5 np5 => ?_⟩
  obtain ⟨H5, xH5, e5, h5⟩ := tupQ (K := K) f4.nn np5 .nil
  rw [xH5]
  have f5 := f4.same e5
  refine ⟨by show 1 ≤ sizeLine; decide, fun p6 np6 => ?_⟩
  obtain ⟨H6, xH6, e6, h6⟩ := tupQ (K := K) f5.nn np6 (.cons h5 .nil)
  rw [xH6]
  have f6 := f5.same e6
  refine ⟨by show 0 ≤ sizeLine; decide, fun p7 np7 => ?_⟩
  obtain ⟨H7, xH7, e7, h7⟩ := tupQ (K := K) f6.nn np7 .nil
  rw [xH7]
  have f7 := f6.same e7
  refine ⟨by show 2 ≤ sizeLine; decide, fun p8 np8 => ?_⟩
  obtain ⟨H8, xH8, e8, h8⟩ := tupQ (K := K) f7.nn np8 (.cons (.int 0) (.cons h7 .nil))
  rw [xH8]
  have f8 := f7.same e8
  refine ⟨by show 2 ≤ sizeLine; decide, fun p9 np9 => ?_⟩
  obtain ⟨H9, xH9, e9, h9⟩ := tupQ (K := K) f8.nn np9 (.cons (.int 1) (.cons (.int 1) .nil))
  rw [xH9]
  have f9 := f8.same e9
  refine ⟨by show 3 ≤ sizeLine; decide, fun p10 np10 => ?_⟩
  obtain ⟨H10, xH10, e10, h10⟩ := tupQ (K := K) f9.nn np10 (.cons (.int 1) (.cons (.int 2) (.cons (.int 3) .nil)))
  rw [xH10]
  have f10 := f9.same e10
  have e910 := e9.trans e10
  have e810 := e8.trans e910
  have e610 := (e7.trans e8).trans e910
  have e410 := (e5.trans e6).trans e610
  have e310 := e4.trans e410
  have e210 := e3.trans e310
  have e110 := e2.trans e210
  have all : DqAll K a H10 [.non, .bl true, .bl false, .str "", .str "add", .ref p1, .ref p2, .ref p3, .ref p4, .int (10 ^ Int.toNat 40), .int (-1), .int 0, .int 1, .ref p6, .ref p8, .ref p9, .str "0", .ref p10] oddL :=
    .cons .non (.cons (.bl _) (.cons (.bl _) (.cons (.str _) (.cons (.str _) (.cons (h1.same e110) (.cons (h2.same e210) (.cons (h3.same e310) (.cons (h4.same e410) (.cons (.int _) (.cons (.int _) (.cons (.int _) (.cons (.int _)
      (.cons (h6.same e610) (.cons (h8.same e910) (.cons (h9.same e10) (.cons (.str _) (.cons h10 .nil)))))))))))))))))
  refine ⟨by show 18 ≤ sizeLine; decide, fun p11 np11 => ?_⟩
  obtain ⟨H11, xH11, e11, h11, n11, h11'⟩ := lstQ (K := K) f10.nn np11 all
  rw [xH11]
  have f11 := f10.same e11
  refine ⟨_, rfl, _, rfl, a, s, _, n, rfl, f11, by omega, by decide, by decide, fun r H12 r0 r1 sb12 f12 => ?_⟩
  obtain ⟨i, rfl⟩ := Int.eq_ofNat_of_zero_le r0
  have hi : i < oddL.length := by show i < 18; omega
  have hd : oddL[i]? = some oddL[i] := List.getElem?_eq_getElem hi
  obtain ⟨x, hx, dx⟩ := dpa_at _ _ i _ h11' hd
  refine ⟨p11, _, _, x, rfl, rfl, SqL.of (sb12 _ _ n11 h11), atI_nat hx, ?_⟩
  exact k x H12 _ ((Sb.of (((e1.trans e110)).trans e11)).trans sb12) f12 (Dq.sb dx sb12) (odd_fine _ (List.getElem_mem hi))

def spBent (K : PySem.W.Frag) (k : Nat) : Sp := fun vs H Q _ => ∃ (a s : Addr) (v : V) (d : PyData) (n M m kd : Nat), vs = [.ref a, v] ∧ Fd H a s n ∧ n + 10 * (k + 1) ≤ 1000000 ∧ k ≤ 40 ∧ kd ≤ k ∧ Dq K a H v d ∧ Fn M kd m d ∧ 10 ^ 40 ≤ M ∧ M < 10 ^ 100 ∧ m ≤ 40000 ∧
  ∀ (v' : V) (H' : Hp) (d' : PyData), Sb a H H' → Fd H' a s (n + 10 * (k + 1)) → Dq K a H' v' d' → Fn (M + 1) (kd + 2) (2 * m + 1000) d' → Q v' H'
def spB (K : PySem.W.Frag) : Nat → Sp
  | 0 => fun _ _ _ _ => False
  | k + 1 => spBent K k
theorem bent_list {M k m : Nat} {ds es : List PyData} (hk : ∀ d ∈ es, fok (M + 1) d = true ∧ d.depth ≤ k + 2) (hs : 1 + fzAll es ≤ 2 * m + 1000) : Fn (M + 1) (k + 1 + 2) (2 * m + 1000) (.tuple es) :=
  (fn_tup (k := k + 2)).mpr ⟨hk, hs⟩
theorem bent_four {M k m i : Nat} {ds : List PyData} {dm : PyData} (hi1 : ∀ d ∈ ds, fok M d = true ∧ d.depth ≤ k) (hs1 : 1 + fzAll ds ≤ m) (hdm : Fn (10 ^ 40) 2 5 dm) (hM : 10 ^ 40 ≤ M) :
    ∀ d ∈ [PyData.tuple ((ds.take i ++ [dm]) ++ ds.drop i), .tuple (ds.take i ++ ds.drop (i + 1)), .tuple (ds.take (i + 1) ++ ds.drop i), .tuple ds.reverse], Fn (M + 1) (k + 1 + 2) (2 * m + 1000) d := by
  have ok : ∀ d ∈ ds, fok (M + 1) d = true ∧ d.depth ≤ k + 2 := fun d hd => ⟨fok_mono (Nat.le_succ M) _ (hi1 d hd).1, by have := (hi1 d hd).2; omega⟩
  have t1 := fz_take ds i
  have t2 := fz_take ds (i + 1)
  have t3 := fz_drop1 ds i
  have hz := hdm.sz
  intro d hd
  simp only [List.mem_cons, List.not_mem_nil, or_false] at hd
  rcases hd with rfl | rfl | rfl | rfl
  · refine bent_list (ds := ds) (fun d hd' => ?_) ?_
    · rcases List.mem_append.mp hd' with h | h
      · rcases List.mem_append.mp h with h | h
        · exact ok d (List.mem_of_mem_take h)
        · rw [List.mem_singleton.mp h]
          exact ⟨fok_mono (by omega) _ hdm.ok, by have := hdm.dep; omega⟩
      · exact ok d (List.mem_of_mem_drop h)
    · rw [fzAll_app, fzAll_app]
      simp only [fzAll]
      omega
  · refine bent_list (ds := ds) (fun d hd' => ?_) ?_
    · rcases List.mem_append.mp hd' with h | h
      · exact ok d (List.mem_of_mem_take h)
      · exact ok d (List.mem_of_mem_drop h)
    · rw [fzAll_app]
      omega
  · refine bent_list (ds := ds) (fun d hd' => ?_) ?_
    · rcases List.mem_append.mp hd' with h | h
      · exact ok d (List.mem_of_mem_take h)
      · exact ok d (List.mem_of_mem_drop h)
    · rw [fzAll_app]
      omega
  · refine bent_list (ds := ds) (fun d hd' => ok d (List.mem_reverse.mp hd')) ?_
    rw [fz_rev]
    omega
theorem bent_five {M k m : Nat} {z : Int} {b : Bool} (h : z.natAbs ≤ M) (hM2 : M < 10 ^ 100) : ∀ d ∈ [PyData.int (z + 1), .int (z - 1), .int (-z), .bool b, .str (toString z)], Fn (M + 1) (k + 2) (2 * m + 1000) d := by
  have num : ∀ y : Int, y.natAbs ≤ M + 1 → Fn (M + 1) (k + 2) (2 * m + 1000) (.int y) := fun y hy => ⟨by simp only [fok, decide_eq_true_eq]; exact hy, by simp [PyData.depth], by simp only [fz]; omega⟩
  intro d hd
  simp only [List.mem_cons, List.not_mem_nil, or_false] at hd
  rcases hd with rfl | rfl | rfl | rfl | rfl
  · exact num _ (by omega)
  · exact num _ (by omega)
  · exact num _ (by omega)
  · exact ⟨by simp [fok], by simp [PyData.depth], by simp only [fz]; omega⟩
  · refine ⟨?_, by simp [PyData.depth], ?_⟩
    · simp only [fok]
      exact strOk_of _
    · have e := PySem.int_text_length_le10 (a := z) (k := 100) (by decide) (by omega)
      have e2 := PySem.ofString_length (toString z)
      simp only [fz]
      show 1 + (Str.ofString (toString z)).length ≤ 2 * m + 1000
      omega
theorem big100 : 10 ^ 100 < 2 ^ 1900 := Nat.lt_of_lt_of_le (by decide : 10 ^ 100 < 2 ^ 400) (Nat.pow_le_pow_right (by decide) (by decide))
theorem bent_step {j k : Nat} (hj : 2 ≤ j) (D : Df K mg "_law_bent" s_l_bent) (B : Bn mg) (h_l_draw : Has P w K mg base "_law_draw" 1 p_l_draw spDraw)
    (h_l_odd : Has P w K mg base "_law_odd" 2 p_l_odd (spOdd K)) (h_l_bent : Has P w K mg base "_law_bent" j p_l_bent (spB K k)) :
    Has P w K mg base "_law_bent" (j + 1) p_l_bent (spB K (k + 1)) := by
  refine has_of (k := j) D sc_l_bent bn_l_bent ?_ ?_
  · rintro vs H Q E ⟨a, s, v, d, n, M, m, kd, rfl, _⟩
    rfl
  rintro f cdv A outer s0 H vs Q E hr ⟨a, s, v, d, n, M, m, kd, rfl, f0, hn, hk40, hkd, hd, hF, hM, hM2, hm, ke⟩
  have hM3 : M + 1 < 2 ^ 1900 := Nat.lt_of_le_of_lt hM2 big100
  have hodd : ∀ x : PyData, Fn (10 ^ 40) 2 5 x → Fn (M + 1) (kd + 2) (2 * m + 1000) x := fun x hx => hx.mono (by omega) (by omega) (by omega)
  refine ⟨_, (Evl.pss_cut (ps_if (PW.pt (pw_and (pt_val (pe_callB (call_isiK (K := K) (by rfl)) (by rfl) B.isinstance_ (by decide +kernel) (pa_cons (pv 1) (pa_cons (pe_bltn (v := .ty "tuple") (u := .type "tuple") (by rfl) B.tuple_ (by decide +kernel) rfl) pa_nil)))) (pw_and (pt_cmpR (op_neK (K := K) (by rfl) hr.units) (pv 1) (pe_tup pa_nil) (nomark _)) (pw_and1 (pt_cmpR op_gt (pe_has (h_l_draw) (hr.mono (by first | decide | omega)) (by rfl) (pa_cons (pv 0) (pa_cons pe_int pa_nil))) pe_int (nomark _)))))) (pss_cons (ps_asg (pe_has (h_l_draw) (hr.mono (by first | decide | omega)) (by rfl) (pa_cons (pv 0) (pa_cons (pe_callB (call_lenK (K := K) (by rfl)) (by rfl) B.len_ (by decide +kernel) (pa_cons (pv 1) pa_nil)) pa_nil))) (pg_name (i := 2) sc_l_bent.nd rfl (by first | exact Or.inl rfl | exact Or.inr rfl)))
      (pss_one (ps_ret (pe_op (op_catK (K := K) (by rfl)) (pe_op (op_catK (K := K) (by rfl)) (pe_slice (sl_tupK (K := K) (by rfl)) (pv 1) po_none (po_some (pv 2))) (pe_tup (pa_cons (pe_has (h_l_bent) (hr.mono (by first | decide | omega)) (by rfl) (pa_cons (pv 0) (pa_cons (pe_ix (ix_tupK (K := K) (by rfl)) (pv 1) (pv 2) (fun _ _ => rfl)) pa_nil))) pa_nil))) (pe_slice (sl_tupK (K := K) (by rfl)) (pv 1) (po_some (pe_op op_add (pv 2) pe_int)) po_none))))) pss_nil)
      (pss_cons (ps_asg (pe_has (h_l_draw) (hr.mono (by first | decide | omega)) (by rfl) (pa_cons (pv 0) (pa_cons pe_int pa_nil))) (pg_name (i := 3) sc_l_bent.nd rfl (by first | exact Or.inl rfl | exact Or.inr rfl)))
      (Evl.pss_cut (ps_if (PW.pt (pw_and (pt_val (pe_callB (call_isiK (K := K) (by rfl)) (by rfl) B.isinstance_ (by decide +kernel) (pa_cons (pv 1) (pa_cons (pe_bltn (v := .ty "tuple") (u := .type "tuple") (by rfl) B.tuple_ (by decide +kernel) rfl) pa_nil)))) (pw_and1 (pt_cmpR op_gt (pv 3) pe_int (nomark _))))) (pss_cons (ps_asg (pe_has (h_l_draw) (hr.mono (by first | decide | omega)) (by rfl) (pa_cons (pv 0) (pa_cons (pe_op op_add (pe_callB (call_lenK (K := K) (by rfl)) (by rfl) B.len_ (by decide +kernel) (pa_cons (pv 1) pa_nil)) pe_int) pa_nil))) (pg_name (i := 2) sc_l_bent.nd rfl (by first | exact Or.inl rfl | exact Or.inr rfl)))
      (pss_cons (ps_asg (pe_ifExp (pt_cmpR op_eq (pv 3) pe_int (nomark _)) (pe_has (h_l_odd) (hr.mono (by first | decide | omega)) (by rfl) (pa_cons (pv 0) pa_nil)) pe_int) (pg_name (i := 4) sc_l_bent.nd rfl (by first | exact Or.inl rfl | exact Or.inr rfl)))
      (pss_cons (ps_asg (pe_lst (pa_cons (pe_op (op_catK (K := K) (by rfl)) (pe_op (op_catK (K := K) (by rfl)) (pe_slice (sl_tupK (K := K) (by rfl)) (pv 1) po_none (po_some (pv 2))) (pe_tup (pa_cons (pv 4) pa_nil))) (pe_slice (sl_tupK (K := K) (by rfl)) (pv 1) (po_some (pv 2)) po_none)) (pa_cons (pe_op (op_catK (K := K) (by rfl)) (pe_slice (sl_tupK (K := K) (by rfl)) (pv 1) po_none (po_some (pv 2))) (pe_slice (sl_tupK (K := K) (by rfl)) (pv 1) (po_some (pe_op op_add (pv 2) pe_int)) po_none)) (pa_cons (pe_op (op_catK (K := K) (by rfl)) (pe_slice (sl_tupK (K := K) (by rfl)) (pv 1) po_none (po_some (pe_op op_add (pv 2) pe_int))) (pe_slice (sl_tupK (K := K) (by rfl)) (pv 1) (po_some (pv 2)) po_none)) pa_nil)))) (pg_name (i := 5) sc_l_bent.nd rfl (by first | exact Or.inl rfl | exact Or.inr rfl)))
      (pss_one (ps_ret (pe_ix (ix_listK (K := K) (by rfl)) (pe_op op_cat (pv 5) (pe_lst (pa_cons (pe_revTK (K := K) (by rfl) (pv 1)) pa_nil))) (pe_op op_sub (pv 3) pe_int) (fun _ _ => rfl))))))) pss_nil)
      (Evl.pss_cut (ps_if (PW.pt (pw_and (pt_val (pe_callB (call_isiK (K := K) (by rfl)) (by rfl) B.isinstance_ (by decide +kernel) (pa_cons (pv 1) (pa_cons (pe_bltn (v := .ty "tuple") (u := .type "tuple") (by rfl) B.tuple_ (by decide +kernel) rfl) pa_nil)))) (pw_and1 (pt_cmpR op_eq (pv 3) pe_int (nomark _))))) (pss_one (ps_ret (pe_callTy (call_listK (K := K) (by rfl)) (by rfl) B.list_ (by decide +kernel) (pa_cons (pv 1) pa_nil)))) pss_nil)
      (Evl.pss_cut (ps_if (PW.pt (pw_and (pt_val (pe_callB (call_isiK (K := K) (by rfl)) (by rfl) B.isinstance_ (by decide +kernel) (pa_cons (pv 1) (pa_cons (pe_bltn (v := .ty "int") (u := .type "int") (by rfl) B.int_ (by decide +kernel) rfl) pa_nil)))) (pw_and (pt_not (pt_val (pe_callB (call_isiK (K := K) (by rfl)) (by rfl) B.isinstance_ (by decide +kernel) (pa_cons (pv 1) (pa_cons (pe_bltn (v := .ty "bool") (u := .type "bool") (by rfl) B.bool_ (by decide +kernel) rfl) pa_nil))))) (pw_and1 (pt_cmpR op_gt (pv 3) pe_int (nomark _)))))) (pss_one (ps_ret (pe_ix (ix_listK (K := K) (by rfl)) (pe_lst (pa_cons (pe_op op_add (pv 1) pe_int) (pa_cons (pe_op op_sub (pv 1) pe_int) (pa_cons (pe_un un_neg (pv 1)) (pa_cons (pe_cmpR op_eq (pv 1) pe_int (nomark _)) (pa_cons (pe_callTy call_str_int (by rfl) B.str_ (by decide +kernel) (pa_cons (pv 1) pa_nil)) pa_nil)))))) (pe_op op_sub (pv 3) pe_int) (fun _ _ => rfl)))) pss_nil)
      (pss_one (ps_ret (pe_has (h_l_odd) (hr.mono (by first | decide | omega)) (by rfl) (pa_cons (pv 0) pa_nil))))))))), ?_⟩
  refine ⟨fun σ' H' => Sb a H H' ∧ Fd H' a s (n + 1) ∧ σ' = [some (.ref a), some v, none, none, none, none], ?_, ?_⟩
  · refine ⟨_, rfl, ?_⟩
    dsimp only [tCons, tC, tNil]
    refine isi_tuple hd.dp ⟨_, rfl, ?_⟩
    rcases tup_or d with hT | ⟨ds, rfl⟩
    · rw [hT]
      exact iteF ⟨Sb.refl a H, f0.mono (by omega), rfl⟩
    · refine iteT ?_
      refine ⟨_, rfl, by show 0 ≤ sizeLine; decide, fun p1 np1 => ?_⟩
      obtain ⟨H1, xH1, e1, h1⟩ := tupQ (K := K) f0.nn np1 .nil
      rw [xH1]
      have f1 := f0.same e1
      have hd1 := hd.same e1
      cases kd with
      | zero =>
        have := hF.dep
        simp only [PyData.depth] at this
        omega
      | succ kd =>
      cases k with
      | zero => omega
      | succ k =>
      obtain ⟨hi1, hs1⟩ := (fn_tup (k := kd)).mp hF
      have hlen := fzAll_len ds
      refine ⟨.tuple ds, .tuple [], hd1.dp, h1.dp, (hF.mono (Nat.le_succ M) (Nat.le_refl _) (Nat.le_refl _)).shaped hM3 ?_, by decide, _, rfl, ?_⟩
      · omega
      rw [eqv_nilT]
      by_cases hne : ds = []
      · rw [decide_eq_true hne]
        exact iteF ⟨Sb.of e1, f1.mono (by omega), rfl⟩
      · rw [decide_eq_false hne]
        refine iteT ?_
        have hpos : 0 < ds.length := List.length_pos_iff.mpr hne
        refine ⟨_, rfl, a, s, _, n, rfl, f1, by omega, by decide, by decide, fun r H2 r0 r1 sb2 f2 => ⟨_, _, rfl, rfl, _, rfl, ?_⟩⟩
        refine ite2 (fun _ => ?_) (fun _ => ⟨(Sb.of e1).trans sb2, f2, rfl⟩)
        have hd2 := Dq.sb hd1 sb2
        refine ⟨_, rfl, _, rfl, ?_⟩
        try dsimp only [tC, tNil]
        refine len_dp hd2.dp ?_
        refine ⟨a, s, _, n + 1, rfl, f2, by omega, by omega, by omega, fun ri H3 i0 i1 sb3 f3 => ?_⟩
        obtain ⟨i, rfl⟩ := Int.eq_ofNat_of_zero_le i0
        have hi : i < ds.length := by omega
        have hd3 := Dq.sb hd2 sb3
        have hx : ds[i]? = some ds[i] := List.getElem?_eq_getElem hi
        have hmem : ds[i] ∈ ds := List.getElem_mem hi
        refine ⟨_, rfl, _, rfl, _, rfl, ?_⟩
        refine sl_to (i := i) rfl f3.nn hd3 fun v4 H4 e4 hv4 => ?_
        have f4 := f3.same e4
        have hd4 := hd3.same e4
        refine ⟨_, rfl, _, rfl, _, rfl, ?_⟩
        refine ix_dq hd4 hx fun x5 hx5 => ?_
        have hz := fz_split hx
        refine ⟨a, s, x5, ds[i], n + 2, M, fz ds[i], kd, rfl, f4, by omega, by omega, by omega, hx5, ⟨(hi1 _ hmem).1, (hi1 _ hmem).2, Nat.le_refl _⟩, hM, hM2, by omega, fun v6 H6 d6 sb6 f6 hv6 hF6 => ?_⟩
        refine ⟨by show 1 ≤ sizeLine; decide, fun p7 np7 => ?_⟩
        obtain ⟨H7, xH7, e7, h7⟩ := tupQ (K := K) f6.nn np7 (.cons hv6 .nil)
        rw [xH7]
        have f7 := f6.same e7
        have hv7 := (Dq.sb hv4 sb6).same e7
        have hd7 := (Dq.sb hd4 sb6).same e7
        refine cat_dq f7.nn hv7 h7 (by rw [List.length_take]; simp; omega) fun v8 H8 e8 hv8 => ?_
        have f8 := f7.same e8
        have hd8 := hd7.same e8
        refine ⟨_, rfl, _, rfl, _, _, rfl, rfl, _, rfl, ?_⟩
        dsimp only [tNoPart]
        refine sl_from (i := i + 1) (z := (i : Int) + 1) (by omega) f8.nn hd8 fun v9 H9 e9 hv9 => ?_
        have f9 := f8.same e9
        refine cat_dq f9.nn (hv8.same e9) hv9 (by rw [List.length_append, List.length_take, List.length_drop]; simp; omega) fun v10 H10 e10 hv10 => ?_
        refine ke v10 H10 _ ?_ ?_ hv10 ?_
        · exact ((((((Sb.of e1).trans sb2).trans sb3).trans (Sb.of e4)).trans sb6).trans (Sb.of (e7.trans e8))).trans (Sb.of (e9.trans e10))
        · exact (f9.same e10).mono (by omega)
        · refine bent_list (ds := ds) (fun d hd' => ?_) ?_
          · rcases List.mem_append.mp hd' with h | h
            · rcases List.mem_append.mp h with h | h
              · have := hi1 d (List.mem_of_mem_take h)
                exact ⟨fok_mono (Nat.le_succ M) _ this.1, by omega⟩
              · rw [List.mem_singleton.mp h]
                exact ⟨hF6.ok, hF6.dep⟩
            · have := hi1 d (List.mem_of_mem_drop h)
              exact ⟨fok_mono (Nat.le_succ M) _ this.1, by omega⟩
          · rw [fzAll_app, fzAll_app]
            have := hF6.sz
            simp only [fzAll]
            omega
  rintro σ' H1 ⟨sb1, f1, rfl⟩
  have hd1 := Dq.sb hd sb1
  refine ⟨_, rfl, a, s, _, n + 1, rfl, f1, by omega, by decide, by decide, fun rw H2 w0 w1 sb2 f2 => ?_⟩
  have hd2 := Dq.sb hd1 sb2
  have sb02 := sb1.trans sb2
  refine ⟨fun σ' H' => (isT d = false ∨ rw ≤ 1) ∧ H' = H2 ∧ σ' = [some (.ref a), some v, none, some (.int rw), none, none], ?_, ?_⟩
  · refine ⟨_, rfl, ?_⟩
    dsimp only [tCons, tC, tNil]
    refine isi_tuple hd2.dp ⟨_, rfl, ?_⟩
    rcases tup_or d with hT | ⟨ds, rfl⟩
    · rw [hT]
      exact iteF ⟨Or.inl rfl, rfl, rfl⟩
    · refine iteT ?_
      refine ⟨_, rfl, _, _, rfl, rfl, _, rfl, ?_⟩
      refine ite2 (fun hgt => ?_) (fun hle => ⟨Or.inr ?_, rfl, rfl⟩)
      · have hgt := of_decide_eq_true hgt
        cases kd with
        | zero =>
          have := hF.dep
          simp only [PyData.depth] at this
          omega
        | succ kd =>
        obtain ⟨hi1, hs1⟩ := (fn_tup (k := kd)).mp hF
        have hlen := fzAll_len ds
        refine ⟨_, rfl, _, rfl, ?_⟩
        try dsimp only [tC, tNil]
        refine len_dp hd2.dp ?_
        refine ⟨_, _, rfl, rfl, a, s, _, n + 2, rfl, f2, by omega, by omega, by omega, fun ri H3 i0 i1 sb3 f3 => ?_⟩
        obtain ⟨i, rfl⟩ := Int.eq_ofNat_of_zero_le i0
        have hi : i ≤ ds.length := by omega
        have hd3 := Dq.sb hd2 sb3
        refine ⟨_, rfl, rfl, _, rfl, ?_⟩
        refine ite2 (fun _ => ?_) (fun _ => ?_)
        · refine ⟨_, rfl, a, s, n + 3, rfl, f3, by omega, fun x H4 dm sb4 f4 hx hFx => ?_⟩
          have hd4 := Dq.sb hd3 sb4

          refine ⟨_, rfl, _, rfl, _, rfl, ?_⟩
          refine sl_to (i := i) rfl f4.nn hd4 fun v5 H5 e5 hv5 => ?_
          have f5 := f4.same e5
          refine ⟨_, rfl, by show 1 ≤ sizeLine; decide, fun p6 np6 => ?_⟩
          obtain ⟨H6, xH6, e6, h6⟩ := tupQ (K := K) f5.nn np6 (.cons (hx.same e5) .nil)
          rw [xH6]
          have f6 := f5.same e6
          refine cat_dq f6.nn (hv5.same e6) h6 (by rw [List.length_take]; simp; omega) fun v7 H7 e7 hv7 => ?_
          have f7 := f6.same e7
          have hd7 := hd4.same ((e5.trans e6).trans e7)
          refine ⟨_, rfl, _, rfl, _, rfl, ?_⟩
          dsimp only [tNoPart]
          refine sl_from (i := i) rfl f7.nn hd7 fun v8 H8 e8 hv8 => ?_
          have f8 := f7.same e8
          refine cat_dq f8.nn (hv7.same e8) hv8 (by rw [List.length_append, List.length_take, List.length_drop]; simp; omega) fun v9 H9 e9 hv9 => ?_
          have f9 := f8.same e9
          have hd9 := hd7.same (e8.trans e9)
          refine ⟨_, rfl, _, rfl, _, rfl, ?_⟩
          refine sl_to (i := i) rfl f9.nn hd9 fun v10 H10 e10 hv10 => ?_
          have f10 := f9.same e10
          refine ⟨_, rfl, _, rfl, _, _, rfl, rfl, _, rfl, ?_⟩
          dsimp only [tNoPart]
          refine sl_from (i := i + 1) (z := (i : Int) + 1) (by omega) f10.nn (hd9.same e10) fun v11 H11 e11 hv11 => ?_
          have f11 := f10.same e11
          refine cat_dq f11.nn (hv10.same e11) hv11 (by rw [List.length_take, List.length_drop]; omega) fun v12 H12 e12 hv12 => ?_
          have f12 := f11.same e12
          have e912 := (e10.trans e11).trans e12
          have hd12 := hd9.same e912
          refine ⟨_, rfl, _, rfl, _, _, rfl, rfl, _, rfl, ?_⟩
          refine sl_to (i := i + 1) (z := (i : Int) + 1) (by omega) f12.nn hd12 fun v13 H13 e13 hv13 => ?_
          have f13 := f12.same e13
          refine ⟨_, rfl, _, rfl, _, rfl, ?_⟩
          dsimp only [tNoPart]
          refine sl_from (i := i) rfl f13.nn (hd12.same e13) fun v14 H14 e14 hv14 => ?_
          have f14 := f13.same e14
          refine cat_dq f14.nn (hv13.same e14) hv14 (by rw [List.length_take, List.length_drop]; omega) fun v15 H15 e15 hv15 => ?_
          have f15 := f14.same e15
          have e1215 := (e13.trans e14).trans e15
          refine ⟨by show 3 ≤ sizeLine; decide, fun p16 np16 => ?_⟩
          obtain ⟨H16, xH16, e16, h16, n16, h16'⟩ := lstQ (K := K) f15.nn np16 (.cons (hv9.same (e912.trans e1215)) (.cons (hv12.same e1215) (.cons hv15 .nil)))
          rw [xH16]
          have f16 := f15.same e16
          have hd16 := hd12.same (e1215.trans e16)
          obtain ⟨b17, xs17, rfl, hs17, ha17⟩ := dp_tup hd16
          refine ⟨_, rfl, _, rfl, b17, xs17, rfl, sqt_same hid_le hs17, fun p17 np17 => ?_⟩
          obtain ⟨H17, xH17, e17, hv17⟩ := tupQ (K := K) f16.nn np17 (dpa_reverse _ _ ha17)
          rw [xH17]
          have f17 := f16.same e17
          refine ⟨by show 1 ≤ sizeLine; decide, fun p18 np18 => ?_⟩
          obtain ⟨H18, xH18, e18, h18, n18, h18'⟩ := lstQ (K := K) f17.nn np18 (.cons hv17 .nil)
          rw [xH18]
          have f18 := f17.same e18
          refine ⟨p16, p18, _, _, rfl, rfl, (e17.trans e18) _ _ h16, h18, by show 4 ≤ sizeLine; decide, fun p19 np19 => ?_⟩
          obtain ⟨H19, xH19, e19, h19, n19, h19'⟩ := lstQ (K := K) f18.nn np19 (dpa_append _ _ _ _ (h16'.same (e17.trans e18)) h18')
          rw [xH19]
          obtain ⟨q, eq, hq⟩ : ∃ q : Nat, rw - 2 = (q : Int) ∧ q < 4 := ⟨(rw - 2).toNat, by omega, by omega⟩
          have h19' : DqAll K a H19 [v9, v12, v15, .ref p17] [PyData.tuple ((ds.take i ++ [dm]) ++ ds.drop i), .tuple (ds.take i ++ ds.drop (i + 1)), .tuple (ds.take (i + 1) ++ ds.drop i), .tuple ds.reverse] := h19'
          have four := bent_four (i := i) hi1 hs1 hFx hM
          generalize [PyData.tuple ((ds.take i ++ [dm]) ++ ds.drop i), .tuple (ds.take i ++ ds.drop (i + 1)), .tuple (ds.take (i + 1) ++ ds.drop i), .tuple ds.reverse] = L4 at h19' four
          have hl4 : L4.length = 4 := (dpa_len _ _ h19').symm
          have hq4 : q < L4.length := by omega
          obtain ⟨x20, hx20, dx20⟩ := dpa_at _ _ q _ h19' (List.getElem?_eq_getElem hq4)
          refine ⟨_, rfl, _, _, rfl, rfl, p19, _, _, x20, rfl, rfl, SqL.of h19, by rw [eq]; exact atI_nat hx20, ?_⟩
          refine ke x20 H19 _ ?_ ?_ dx20 (four _ (List.getElem_mem hq4))
          · exact (((sb02.trans sb3).trans sb4).trans (Sb.of (((((((e5.trans e6).trans e7).trans e8).trans e9).trans e912).trans e1215).trans ((e16.trans e17).trans (e18.trans e19)))))
          · exact ((f18.same e19)).mono (by omega)
        · have sb4 : Sb a H3 H3 := Sb.refl a H3
          obtain ⟨dm, edm⟩ : ∃ dm, dm = PyData.int 0 := ⟨_, rfl⟩
          have hx : Dq K a H3 (.int 0) dm := by rw [edm]; exact .int 0
          have hFx : Fn (10 ^ 40) 2 5 dm := by rw [edm]; exact ⟨by decide +kernel, by decide +kernel, by decide +kernel⟩
          have f4 := f3
          have hd4 := hd3

          refine ⟨_, rfl, _, rfl, _, rfl, ?_⟩
          refine sl_to (i := i) rfl f4.nn hd4 fun v5 H5 e5 hv5 => ?_
          have f5 := f4.same e5
          refine ⟨_, rfl, by show 1 ≤ sizeLine; decide, fun p6 np6 => ?_⟩
          obtain ⟨H6, xH6, e6, h6⟩ := tupQ (K := K) f5.nn np6 (.cons (hx.same e5) .nil)
          rw [xH6]
          have f6 := f5.same e6
          refine cat_dq f6.nn (hv5.same e6) h6 (by rw [List.length_take]; simp; omega) fun v7 H7 e7 hv7 => ?_
          have f7 := f6.same e7
          have hd7 := hd4.same ((e5.trans e6).trans e7)
          refine ⟨_, rfl, _, rfl, _, rfl, ?_⟩
          dsimp only [tNoPart]
          refine sl_from (i := i) rfl f7.nn hd7 fun v8 H8 e8 hv8 => ?_
          have f8 := f7.same e8
          refine cat_dq f8.nn (hv7.same e8) hv8 (by rw [List.length_append, List.length_take, List.length_drop]; simp; omega) fun v9 H9 e9 hv9 => ?_
          have f9 := f8.same e9
          have hd9 := hd7.same (e8.trans e9)
          refine ⟨_, rfl, _, rfl, _, rfl, ?_⟩
          refine sl_to (i := i) rfl f9.nn hd9 fun v10 H10 e10 hv10 => ?_
          have f10 := f9.same e10
          refine ⟨_, rfl, _, rfl, _, _, rfl, rfl, _, rfl, ?_⟩
          dsimp only [tNoPart]
          refine sl_from (i := i + 1) (z := (i : Int) + 1) (by omega) f10.nn (hd9.same e10) fun v11 H11 e11 hv11 => ?_
          have f11 := f10.same e11
          refine cat_dq f11.nn (hv10.same e11) hv11 (by rw [List.length_take, List.length_drop]; omega) fun v12 H12 e12 hv12 => ?_
          have f12 := f11.same e12
          have e912 := (e10.trans e11).trans e12
          have hd12 := hd9.same e912
          refine ⟨_, rfl, _, rfl, _, _, rfl, rfl, _, rfl, ?_⟩
          refine sl_to (i := i + 1) (z := (i : Int) + 1) (by omega) f12.nn hd12 fun v13 H13 e13 hv13 => ?_
          have f13 := f12.same e13
          refine ⟨_, rfl, _, rfl, _, rfl, ?_⟩
          dsimp only [tNoPart]
          refine sl_from (i := i) rfl f13.nn (hd12.same e13) fun v14 H14 e14 hv14 => ?_
          have f14 := f13.same e14
          refine cat_dq f14.nn (hv13.same e14) hv14 (by rw [List.length_take, List.length_drop]; omega) fun v15 H15 e15 hv15 => ?_
          have f15 := f14.same e15
          have e1215 := (e13.trans e14).trans e15
          refine ⟨by show 3 ≤ sizeLine; decide, fun p16 np16 => ?_⟩
          obtain ⟨H16, xH16, e16, h16, n16, h16'⟩ := lstQ (K := K) f15.nn np16 (.cons (hv9.same (e912.trans e1215)) (.cons (hv12.same e1215) (.cons hv15 .nil)))
          rw [xH16]
          have f16 := f15.same e16
          have hd16 := hd12.same (e1215.trans e16)
          obtain ⟨b17, xs17, rfl, hs17, ha17⟩ := dp_tup hd16
          refine ⟨_, rfl, _, rfl, b17, xs17, rfl, sqt_same hid_le hs17, fun p17 np17 => ?_⟩
          obtain ⟨H17, xH17, e17, hv17⟩ := tupQ (K := K) f16.nn np17 (dpa_reverse _ _ ha17)
          rw [xH17]
          have f17 := f16.same e17
          refine ⟨by show 1 ≤ sizeLine; decide, fun p18 np18 => ?_⟩
          obtain ⟨H18, xH18, e18, h18, n18, h18'⟩ := lstQ (K := K) f17.nn np18 (.cons hv17 .nil)
          rw [xH18]
          have f18 := f17.same e18
          refine ⟨p16, p18, _, _, rfl, rfl, (e17.trans e18) _ _ h16, h18, by show 4 ≤ sizeLine; decide, fun p19 np19 => ?_⟩
          obtain ⟨H19, xH19, e19, h19, n19, h19'⟩ := lstQ (K := K) f18.nn np19 (dpa_append _ _ _ _ (h16'.same (e17.trans e18)) h18')
          rw [xH19]
          obtain ⟨q, eq, hq⟩ : ∃ q : Nat, rw - 2 = (q : Int) ∧ q < 4 := ⟨(rw - 2).toNat, by omega, by omega⟩
          have h19' : DqAll K a H19 [v9, v12, v15, .ref p17] [PyData.tuple ((ds.take i ++ [dm]) ++ ds.drop i), .tuple (ds.take i ++ ds.drop (i + 1)), .tuple (ds.take (i + 1) ++ ds.drop i), .tuple ds.reverse] := h19'
          have four := bent_four (i := i) hi1 hs1 hFx hM
          generalize [PyData.tuple ((ds.take i ++ [dm]) ++ ds.drop i), .tuple (ds.take i ++ ds.drop (i + 1)), .tuple (ds.take (i + 1) ++ ds.drop i), .tuple ds.reverse] = L4 at h19' four
          have hl4 : L4.length = 4 := (dpa_len _ _ h19').symm
          have hq4 : q < L4.length := by omega
          obtain ⟨x20, hx20, dx20⟩ := dpa_at _ _ q _ h19' (List.getElem?_eq_getElem hq4)
          refine ⟨_, rfl, _, _, rfl, rfl, p19, _, _, x20, rfl, rfl, SqL.of h19, by rw [eq]; exact atI_nat hx20, ?_⟩
          refine ke x20 H19 _ ?_ ?_ dx20 (four _ (List.getElem_mem hq4))
          · exact (((sb02.trans sb3).trans sb4).trans (Sb.of (((((((e5.trans e6).trans e7).trans e8).trans e9).trans e912).trans e1215).trans ((e16.trans e17).trans (e18.trans e19)))))
          · exact ((f18.same e19)).mono (by omega)
      · have : ¬ (1 : Int) < rw := fun z => hle (decide_eq_true z)
        omega
  rintro σ' H' ⟨hcase, rfl, rfl⟩
  refine ⟨fun σ' H2 => (isT d = false ∨ rw = 0) ∧ H2 = H' ∧ σ' = [some (.ref a), some v, none, some (.int rw), none, none], ?_, ?_⟩
  · refine ⟨_, rfl, ?_⟩
    dsimp only [tCons, tC, tNil]
    refine isi_tuple hd2.dp ⟨_, rfl, ?_⟩
    rcases tup_or d with hT | ⟨ds, rfl⟩
    · rw [hT]
      exact iteF ⟨Or.inl rfl, rfl, rfl⟩
    · have hle : rw ≤ 1 := by
        rcases hcase with h | h
        · cases h
        · exact h
      refine iteT ?_
      refine ⟨_, rfl, rfl, _, rfl, ?_⟩
      refine ite2 (fun heq => ?_) (fun hne => ⟨Or.inr ?_, rfl, rfl⟩)
      · refine ⟨_, rfl, ?_⟩
        try dsimp only [tC, tNil]
        refine listT_dq f2.nn hd2 fun l H3 nl e3 hl3 => ?_
        refine ke _ H3 _ (sb02.trans (Sb.of e3)) ((f2.same e3).mono (by omega)) hl3 ?_
        exact fn_lst (hF.mono (by omega) (by omega) (by omega))
      · have : ¬ rw = 1 := fun z => hne (decide_eq_true (by rw [z]))
        omega
  rintro σ' H2 ⟨hcase2, rfl, rfl⟩
  refine ⟨fun σ' H3 => H3 = H2 ∧ σ' = [some (.ref a), some v, none, some (.int rw), none, none], ?_, ?_⟩
  · refine ⟨_, rfl, ?_⟩
    dsimp only [tCons, tC, tNil]
    refine isi_int hd2.dp ⟨_, rfl, ?_⟩
    by_cases hnum : isNum d = true
    · obtain ⟨z, rfl⟩ : ∃ i, d = PyData.int i := by
        cases d <;> first | exact ⟨_, rfl⟩ | cases hnum
      have ev := dp_int hd2
      subst ev
      refine iteT ?_
      refine ⟨_, rfl, ?_⟩
      dsimp only [tCons, tC, tNil]
      refine isi_bool hd2.dp ⟨_, rfl, iteT ?_⟩
      refine ⟨_, rfl, _, _, rfl, rfl, _, rfl, ?_⟩
      refine ite2 (fun hgt => ?_) (fun _ => ⟨rfl, rfl⟩)
      have hgt := of_decide_eq_true hgt
      have hzM : z.natAbs ≤ M := by
        have := hF.ok
        simpa only [fok, decide_eq_true_eq] using this
      have hlog : z.natAbs.log2 < 1920 := by
        have h1 : z.natAbs < 2 ^ 1900 := by omega
        have := PySem.Flt.log2_lt_of (by decide) h1
        omega
      refine ⟨_, rfl, _, _, rfl, rfl, _, rfl, _, _, rfl, rfl, _, rfl, _, rfl, _, rfl, rfl, _, rfl, z, rfl, hlog, ?_⟩
      refine ⟨by show 5 ≤ sizeLine; decide, fun p3 np3 => ?_⟩
      have five := bent_five (k := kd) (m := m) (b := decide (V.int z = V.int 1)) hzM hM2
      obtain ⟨H3, xH3, e3, h3, n3, h3'⟩ := lstQ (K := K) f2.nn np3 (.cons (.int (z + 1)) (.cons (.int (z - 1)) (.cons (.int (-z)) (.cons (.bl (decide (V.int z = V.int 1))) (.cons (.str (toString z)) .nil)))))
      rw [xH3]
      generalize [PyData.int (z + 1), .int (z - 1), .int (-z), .bool (decide (V.int z = V.int 1)), .str (toString z)] = L5 at h3' five
      have hl5 : L5.length = 5 := (dpa_len _ _ h3').symm
      obtain ⟨q, eq, hq⟩ : ∃ q : Nat, rw - 1 = (q : Int) ∧ q < 5 := ⟨(rw - 1).toNat, by omega, by omega⟩
      have hq5 : q < L5.length := by omega
      obtain ⟨x4, hx4, dx4⟩ := dpa_at _ _ q _ h3' (List.getElem?_eq_getElem hq5)
      refine ⟨_, rfl, _, _, rfl, rfl, p3, _, _, x4, rfl, rfl, SqL.of h3, by rw [eq]; exact atI_nat hx4, ?_⟩
      exact ke x4 H3 _ (sb02.trans (Sb.of e3)) ((f2.same e3).mono (by omega)) dx4 (five _ (List.getElem_mem hq5))
    · cases d with
      | int i => exact absurd rfl hnum
      | bool b =>
        refine iteT ?_
        refine ⟨_, rfl, ?_⟩
        dsimp only [tCons, tC, tNil]
        exact isi_bool hd2.dp ⟨_, rfl, iteF ⟨rfl, rfl⟩⟩
      | none => exact iteF ⟨rfl, rfl⟩
      | str x => exact iteF ⟨rfl, rfl⟩
      | list ds => exact iteF ⟨rfl, rfl⟩
      | tuple ds => exact iteF ⟨rfl, rfl⟩
      | dict _ => cases hd2
  rintro σ' H3 ⟨rfl, rfl⟩
  refine ⟨_, rfl, a, s, n + 2, rfl, f2, by omega, fun x H4 d4 sb4 f4 hx hFx => ?_⟩
  exact ke x H4 d4 (sb02.trans sb4) (f4.mono (by omega)) hx (hodd _ hFx)
theorem bent_at (D : Df K mg "_law_bent" s_l_bent) (B : Bn mg) (h_l_draw : Has P w K mg base "_law_draw" 1 p_l_draw spDraw)
    (h_l_odd : Has P w K mg base "_law_odd" 2 p_l_odd (spOdd K)) : ∀ k : Nat, Has P w K mg base "_law_bent" (k + 2) p_l_bent (spB K k)
  | 0 => has_of (k := 1) D sc_l_bent bn_l_bent (fun _ _ _ _ h => h.elim) (fun _ _ _ _ _ _ _ _ _ _ h => h.elim)
  | k + 1 => bent_step (by omega) D B h_l_draw h_l_odd (bent_at D B h_l_draw h_l_odd k)
theorem ok_l_bent (D : Df K mg "_law_bent" s_l_bent) (B : Bn mg) (h_l_draw : Has P w K mg base "_law_draw" 1 p_l_draw spDraw)
    (h_l_odd : Has P w K mg base "_law_odd" 2 p_l_odd (spOdd K)) : Has P w K mg base "_law_bent" 8 p_l_bent (spBent K 5) := bent_at D B h_l_draw h_l_odd 6

end K01

set_option Elab.async false
set_option linter.all false
set_option maxRecDepth 100000
set_option maxHeartbeats 1000000
namespace K01
open PySem PySem.Spec PyProof.Rows L2 Gd
variable {P : Program} {w : World} {K : PySem.W.Frag} {mg : Str → Option Value} {base : Heap}
/-! ### powers of great numbers -/
def CPowA (i j : Int) : Prop := j > 0 ∧ (i == 0 || i == 1) = false ∧ (i == -1) = false ∧ Builtin.Int.intTooBig (((Builtin.Int.intBits i : Nat) : Int) * j) = false
theorem op_powA {X : Cx} : OpR X (binaryOp .Pow) (rI CPowA fun i j => .int (i ^ j.toNat)) := opI fun i j _ _ _ _ _ hc q => by
  have h0 := hc.1
  refine PySem.AutoIntOps.pow_4 (by omega) (by rw [beq_eq_false_iff_ne.mpr (by omega)]; exact Bool.false_ne_true) (by rw [hc.2.1]; exact Bool.false_ne_true) (by rw [hc.2.2.1]; exact Bool.false_ne_true) (by rw [hc.2.2.2]; exact Bool.false_ne_true) ?_
  exact q
/-! ### things that can be shown -/
theorem sh_one (b : Bool) : Sh 0 100 (.bool b) := by
  cases b <;> exact ⟨by decide +kernel, by decide +kernel, by decide +kernel, by decide +kernel⟩
theorem big61 : 10 ^ 61 < 2 ^ 1900 := Nat.lt_of_lt_of_le (by decide : 10 ^ 61 < 2 ^ 250) (Nat.pow_le_pow_right (by decide) (by decide))
def Th (d : PyData) : Prop := Sh 20 15300000 d ∨ ∃ ds : List PyData, d = .tuple ds ∧ shW d = true ∧ d.depth ≤ 20 ∧ d.shown.length ≤ 15300000
theorem th_fn {M k m : Nat} {d : PyData} (h : Fn M k m d) (hM : M ≤ 10 ^ 61) (hk : k ≤ 20) (hm : m ≤ 8000) : Th d :=
  .inl (Gd.Fn.sh (h.mono hM hk hm) big61 (Nat.le_refl _))
theorem reprTh {H : Hp} {v : V} {d : PyData} {Q : VK} {S : Str} (hd : Dp K H v d) (h : Th d) (e : d.shown = S) (q : Q (.str S) H) : rReprW K [v] H Q := by
  rcases h with h | ⟨ds, rfl, h1, h2, h3⟩
  · exact .inl (reprD hd h (by decide) (by decide) e q)
  · subst e
    obtain ⟨a, xs, rfl, _, _⟩ := dp_tup hd
    exact .inr ⟨a, _, rfl, hd, h1, Nat.le_trans h2 (by decide), Nat.le_trans h3 (by decide), q⟩
theorem th_ints {zs : List Int} (hl : zs.length ≤ 3) (h : ∀ z ∈ zs, z.natAbs.log2 < 12900) : Th (rowD zs) := by
  have h1 : ∀ l : List Int, (∀ z ∈ l, z.natAbs.log2 < 12900) → shWs (l.map PyData.int) = true ∧ PyData.depthAll (l.map PyData.int) = 0 ∧ (PyData.shownAll (l.map PyData.int)).length = l.length ∧ ∀ t ∈ PyData.shownAll (l.map PyData.int), t.length ≤ 12902 := by
    intro l hz
    induction l with
    | nil => exact ⟨rfl, rfl, rfl, fun t ht => by cases ht⟩
    | cons z l ih =>
      obtain ⟨i1, i2, i3, i4⟩ := ih fun y hy => hz y (List.mem_cons_of_mem _ hy)
      have hz1 := hz z (List.mem_cons_self ..)
      refine ⟨?_, ?_, ?_, ?_⟩
      · simp only [List.map_cons, shWs, shW, i1, decide_eq_true hz1, Bool.and_self]
      · simp only [List.map_cons, PyData.depthAll, PyData.depth, i2]
        rfl
      · simp only [List.map_cons, PyData.shownAll, List.length_cons, i3]
      · intro t ht
        simp only [List.map_cons, PyData.shownAll, PyData.shown, List.mem_cons] at ht
        rcases ht with rfl | ht
        · have h5 := int_text_length_le (a := z) (k := 12900) (by decide) hz1
          have h6 := PySem.ofString_length (toString z)
          show (Str.ofString (toString z)).length ≤ 12902
          omega
        · exact i4 t ht
  obtain ⟨a1, a2, a3, a4⟩ := h1 zs h
  refine .inr ⟨_, rfl, ?_, ?_, ?_⟩
  · simp only [rowD, shW]
    exact a1
  · simp only [rowD, PyData.depth, a2]
    decide
  · simp only [rowD, PyData.shown]
    have e := PySem.tupleText_len_le (PyData.shownAll (zs.map PyData.int))
    have sb : ∀ ts : List Str, (∀ t ∈ ts, t.length ≤ 12902) → (ts.map fun x => x.length).sum ≤ ts.length * 12902 := by
      intro ts ht
      induction ts with
      | nil => simp
      | cons t ts ih =>
        have i1 := ih fun x hx => ht x (List.mem_cons_of_mem _ hx)
        have i2 := ht t (List.mem_cons_self ..)
        rw [List.map_cons, List.sum_cons, List.length_cons, Nat.add_mul]
        omega
    have e2 := sb _ a4
    rw [a3] at e e2
    have e3 : zs.length * 12902 ≤ 3 * 12902 := Nat.mul_le_mul_right _ hl
    omega
theorem th_two {x y : Int} (hx : x.natAbs.log2 < 12900) (hy : y.natAbs.log2 < 12900) : Th (.tuple [.int x, .int y]) :=
  th_ints (zs := [x, y]) (by simp) fun z hz => by
    simp only [List.mem_cons, List.not_mem_nil, or_false] at hz
    rcases hz with rfl | rfl
    · exact hx
    · exact hy
theorem th_three {x y z : Int} (hx : x.natAbs.log2 < 12900) (hy : y.natAbs.log2 < 12900) (hz : z.natAbs.log2 < 12900) : Th (.tuple [.int x, .int y, .int z]) :=
  th_ints (zs := [x, y, z]) (by simp) fun u hu => by
    simp only [List.mem_cons, List.not_mem_nil, or_false] at hu
    rcases hu with rfl | rfl | rfl
    · exact hx
    · exact hy
    · exact hz
theorem lg {x : Int} (h : x.natAbs < 2 ^ 12900) : x.natAbs.log2 < 12900 := PySem.Flt.log2_lt_of (by decide) h
end K01

set_option Elab.async false
set_option linter.all false
set_option maxRecDepth 100000
set_option maxHeartbeats 1000000
namespace K01
open PySem PySem.Spec PyProof.Rows L2 Gd
variable {P : Program} {w : World} {K : PySem.W.Frag} {mg : Str → Option Value} {base : Heap}
theorem farC : CPowA ((10 : Int) ^ Int.toNat 60) 20 := ⟨by decide, by decide +kernel, by decide +kernel, by decide +kernel⟩
def hand1 : List PyData := [.tuple [.int 0, .int 1], .tuple [.int 1, .int 0], .tuple [.int 0, .int 0], .tuple [.int 0, .int 2], .tuple [.int 0, .int (-1)], .tuple [.int 1, .int 1], .tuple [.int (-1), .int 1], .tuple [.int 1, .int (-1)], .tuple [.int 2, .int 4], .tuple [.bool true, .int 1], .tuple [.int 1, .bool true]]
def hand2 : List PyData := [.none, .tuple [], .tuple [.int 1], .tuple [.int 1, .int 2, .int 3], .list [.int 1, .int 2], .tuple [.str "1", .int 2], .tuple [.int 1, .str "2"], .tuple [.tuple [.int 1, .int 2], .int 1], .int 1, .bool true, .str "1/2"]
def hand3 (far : Int) : List PyData := [.tuple [.none, .int 1], .tuple [.bool false, .int 1], .tuple [.int (far + 1), .int far], .tuple [.int far, .int 2], .tuple [.int (1 - far), .int far], .tuple [.int far, .int (far + 1), .int 1], .tuple [.int 3, .int far]]
theorem hand1_th : ∀ d ∈ hand1, Th d := by
  intro d hd
  simp only [hand1, List.mem_cons, List.not_mem_nil, or_false] at hd
  rcases hd with rfl | rfl | rfl | rfl | rfl | rfl | rfl | rfl | rfl | rfl | rfl <;> exact th_fn (M := 10 ^ 40) (k := 20) (m := 8000) ⟨by decide +kernel, by decide +kernel, by decide +kernel⟩ (by decide) (by decide) (by decide)
theorem hand2_th : ∀ d ∈ hand2, Th d := by
  intro d hd
  simp only [hand2, List.mem_cons, List.not_mem_nil, or_false] at hd
  rcases hd with rfl | rfl | rfl | rfl | rfl | rfl | rfl | rfl | rfl | rfl | rfl <;> exact th_fn (M := 10 ^ 40) (k := 20) (m := 8000) ⟨by decide +kernel, by decide +kernel, by decide +kernel⟩ (by decide) (by decide) (by decide)

theorem far_lt {far : Int} (h : ((10 : Int) ^ Int.toNat 60) ^ Int.toNat 20 = far) : far.natAbs < 2 ^ 4000 := by
  subst h
  decide +kernel
theorem lg4 {x : Int} (h : x.natAbs < 2 ^ 4001) : x.natAbs.log2 < 12900 := lg (Nat.lt_of_lt_of_le h (Nat.pow_le_pow_right (by decide) (by decide)))
theorem p4001 : (2 : Nat) ^ 4001 = 2 ^ 4000 + 2 ^ 4000 := by
  rw [Nat.pow_succ]
  omega
theorem hand3_th {far : Int} (h : ((10 : Int) ^ Int.toNat 60) ^ Int.toNat 20 = far) : ∀ d ∈ hand3 far, Th d := by
  have hf := far_lt h
  have hp := p4001
  have h0 : 0 < (2 : Nat) ^ 4000 := Nat.pow_pos (by decide)
  clear h
  generalize (2 : Nat) ^ 4000 = N at hf hp h0
  have lgN : ∀ x : Int, x.natAbs < N + N → x.natAbs.log2 < 12900 := fun x hx => lg4 (by rw [hp]; exact hx)
  have sm : ∀ x : Int, x.natAbs ≤ 3 → x.natAbs.log2 < 12900 := fun x hx => lg (Nat.lt_of_le_of_lt hx (Nat.lt_of_lt_of_le (by decide : 3 < 2 ^ 2) (Nat.pow_le_pow_right (by decide) (by decide))))
  intro d hd
  simp only [hand3, List.mem_cons, List.not_mem_nil, or_false] at hd
  rcases hd with rfl | rfl | rfl | rfl | rfl | rfl | rfl
  · exact th_fn (M := 10 ^ 40) (k := 20) (m := 8000) ⟨by decide +kernel, by decide +kernel, by decide +kernel⟩ (by decide) (by decide) (by decide)
  · exact th_fn (M := 10 ^ 40) (k := 20) (m := 8000) ⟨by decide +kernel, by decide +kernel, by decide +kernel⟩ (by decide) (by decide) (by decide)
  · exact th_two (lgN _ (by omega)) (lgN _ (by omega))
  · exact th_two (lgN _ (by omega)) (sm _ (by decide))
  · exact th_two (lgN _ (by omega)) (lgN _ (by omega))
  · exact th_three (lgN _ (by omega)) (lgN _ (by omega)) (sm _ (by decide))
  · exact th_two (sm _ (by decide)) (lgN _ (by omega))
def spLaw (K : PySem.W.Frag) : Sp := fun vs H Q _ => ∃ (a : Addr) (ns : List Int), vs = [.ref a] ∧ SqL K H a (ns.map V.int) ∧ ns.length ≤ 63 ∧ ∀ H', Q (.bl true) H'
abbrev FnP (K : PySem.W.Frag) (x : Str) (st : Stmt) (f : Addr) (fd : FuncData) : Prop := FunD K x x (defArgs st) (defBody st) (defScope st) [] [] f fd
theorem ok_law (nk : NoDigK K) {f : Addr} {fd : FuncData} (F : FnP K "law" s_law f fd) (B : Bn mg)
    (h_l_feed : Has P w K mg base "_law_feed" 1 p_l_feed (spFeed K))
    (h_l_draw : Has P w K mg base "_law_draw" 1 p_l_draw spDraw)
    (h_l_top : Has P w K mg base "_law_top" 4 p_l_top spTop)
    (h_l_size : Has P w K mg base "_law_size" 3 p_l_size spSize)
    (h_l_lowest : Has P w K mg base "_law_lowest" 2 p_l_lowest spLow)
    (h_l_bent : Has P w K mg base "_law_bent" 8 p_l_bent (spBent K 5))
    (h_l_odd : Has P w K mg base "_law_odd" 2 p_l_odd (spOdd K))
    (h_l_is_fraction : Has P w K mg base "_law_is_fraction" 2 p_l_is_fraction (spIsFr K))
    (h_is_fraction : Has P w K mg base "is_fraction" 2 p_is_fraction (spIsFr K)) :
    FnG P w K mg base 9 f fd ["_law_script"] (spLaw K) := by
  refine okG (k := 8) F sc_law ?_ ?_
  · rintro vs H Q E ⟨a, ns, rfl, _⟩
    rfl
  rintro cdv A outer s0 H vs Q E hG hr ⟨sc, ns, rfl, hS, hl, k⟩
  refine ⟨_, PSs.nox (pss_cons (ps_asg (pe_has (h_l_feed) (hr.mono (by first | decide | omega)) (by rfl) (pa_cons (pv 0) pa_nil)) (pg_name (i := 1) sc_law.nd rfl (by first | exact Or.inl rfl | exact Or.inr rfl)))
      (pss_cons (ps_asg (pe_lst (pa_cons (pe_tup (pa_cons pe_int (pa_cons pe_int pa_nil))) (pa_cons (pe_tup (pa_cons pe_int (pa_cons pe_int pa_nil))) (pa_cons (pe_tup (pa_cons pe_int (pa_cons pe_int pa_nil))) (pa_cons (pe_tup (pa_cons pe_int (pa_cons pe_int pa_nil))) (pa_cons (pe_tup (pa_cons pe_int (pa_cons (pe_un un_neg pe_int) pa_nil))) (pa_cons (pe_tup (pa_cons pe_int (pa_cons pe_int pa_nil))) (pa_cons (pe_tup (pa_cons (pe_un un_neg pe_int) (pa_cons pe_int pa_nil))) (pa_cons (pe_tup (pa_cons pe_int (pa_cons (pe_un un_neg pe_int) pa_nil))) (pa_cons (pe_tup (pa_cons pe_int (pa_cons pe_int pa_nil))) (pa_cons (pe_tup (pa_cons pe_bl (pa_cons pe_int pa_nil))) (pa_cons (pe_tup (pa_cons pe_int (pa_cons pe_bl pa_nil))) pa_nil)))))))))))) (pg_name (i := 2) sc_law.nd rfl (by first | exact Or.inl rfl | exact Or.inr rfl)))
      (pss_cons (ps_asg (pe_op op_cat (pv 2) (pe_lst (pa_cons pe_non (pa_cons (pe_tup pa_nil) (pa_cons (pe_tup (pa_cons pe_int pa_nil)) (pa_cons (pe_tup (pa_cons pe_int (pa_cons pe_int (pa_cons pe_int pa_nil)))) (pa_cons (pe_lst (pa_cons pe_int (pa_cons pe_int pa_nil))) (pa_cons (pe_tup (pa_cons pe_str (pa_cons pe_int pa_nil))) (pa_cons (pe_tup (pa_cons pe_int (pa_cons pe_str pa_nil))) (pa_cons (pe_tup (pa_cons (pe_tup (pa_cons pe_int (pa_cons pe_int pa_nil))) (pa_cons pe_int pa_nil))) (pa_cons pe_int (pa_cons pe_bl (pa_cons pe_str pa_nil))))))))))))) (pg_name (i := 2) sc_law.nd rfl (by first | exact Or.inl rfl | exact Or.inr rfl)))
      (pss_cons (ps_asg (pe_op op_powA (pe_op op_pow pe_int pe_int) pe_int) (pg_name (i := 3) sc_law.nd rfl (by first | exact Or.inl rfl | exact Or.inr rfl)))
      (pss_cons (ps_asg (pe_op op_cat (pv 2) (pe_lst (pa_cons (pe_tup (pa_cons pe_non (pa_cons pe_int pa_nil))) (pa_cons (pe_tup (pa_cons pe_bl (pa_cons pe_int pa_nil))) (pa_cons (pe_tup (pa_cons (pe_op op_add (pv 3) pe_int) (pa_cons (pv 3) pa_nil))) (pa_cons (pe_tup (pa_cons (pv 3) (pa_cons pe_int pa_nil))) (pa_cons (pe_tup (pa_cons (pe_op op_sub pe_int (pv 3)) (pa_cons (pv 3) pa_nil))) (pa_cons (pe_tup (pa_cons (pv 3) (pa_cons (pe_op op_add (pv 3) pe_int) (pa_cons pe_int pa_nil)))) (pa_cons (pe_tup (pa_cons pe_int (pa_cons (pv 3) pa_nil))) pa_nil))))))))) (pg_name (i := 2) sc_law.nd rfl (by first | exact Or.inl rfl | exact Or.inr rfl)))
      (pss_cons (ps_for PassesOwn.never rfl (pi_range1 (by rfl) B.range_ (pa_cons pe_int pa_nil)) (pg_name (i := 4) sc_law.nd rfl (by first | exact Or.inl rfl | exact Or.inr rfl)) (pss_cons (ps_par (i := 5) (j := 6) (by rfl) sc_law.nd rfl rfl (by decide) rfl rfl (pa_cons (pe_has (h_l_top) (hr.mono (by first | decide | omega)) (by rfl) (pa_cons (pv 1) pa_nil)) (pa_cons (pe_callB (call_max2 (by rfl)) (by rfl) B.max_ (by decide +kernel) (pa_cons pe_int (pa_cons (pe_has (h_l_size) (hr.mono (by first | decide | omega)) (by rfl) (pa_cons (pv 1) pa_nil)) pa_nil))) pa_nil)) (by rfl))
      (pss_cons (ps_asg (pe_has (h_l_lowest) (hr.mono (by first | decide | omega)) (by rfl) (pa_cons (pv 5) (pa_cons (pv 6) pa_nil))) (pg_name (i := 7) sc_law.nd rfl (by first | exact Or.inl rfl | exact Or.inr rfl)))
      (pss_cons (ps_asg (pe_op op_add pe_int (pe_has (h_l_draw) (hr.mono (by first | decide | omega)) (by rfl) (pa_cons (pv 1) (pa_cons pe_int pa_nil)))) (pg_name (i := 8) sc_law.nd rfl (by first | exact Or.inl rfl | exact Or.inr rfl)))
      (pss_cons (ps_asg (pe_has (h_l_bent) (hr.mono (by first | decide | omega)) (by rfl) (pa_cons (pv 1) (pa_cons (pv 7) pa_nil))) (pg_name (i := 9) sc_law.nd rfl (by first | exact Or.inl rfl | exact Or.inr rfl)))
      (pss_cons (ps_asg (pe_op op_cat (pv 2) (pe_lst (pa_cons (pv 7) (pa_cons (pe_tup (pa_cons (pv 5) (pa_cons (pv 6) pa_nil))) (pa_cons (pe_tup (pa_cons (pe_op op_mulW (pe_ix (ix_tupK (K := K) (by rfl)) (pv 7) pe_int (fun _ _ => rfl)) (pv 8)) (pa_cons (pe_op op_mulW (pe_ix (ix_tupK (K := K) (by rfl)) (pv 7) pe_int (fun _ _ => rfl)) (pv 8)) pa_nil))) (pa_cons (pe_tup (pa_cons (pe_ix (ix_tupK (K := K) (by rfl)) (pv 7) pe_int (fun _ _ => rfl)) (pa_cons (pe_un un_neg (pe_ix (ix_tupK (K := K) (by rfl)) (pv 7) pe_int (fun _ _ => rfl))) pa_nil))) (pa_cons (pe_revTK (K := K) (by rfl) (pv 7)) (pa_cons (pv 9) pa_nil)))))))) (pg_name (i := 2) sc_law.nd rfl (by first | exact Or.inl rfl | exact Or.inr rfl)))
      (pss_one (ps_asg (pe_op op_cat (pv 2) (pe_lst (pa_cons (pe_has (h_l_bent) (hr.mono (by first | decide | omega)) (by rfl) (pa_cons (pv 1) (pa_cons (pv 9) pa_nil))) (pa_cons (pe_has (h_l_bent) (hr.mono (by first | decide | omega)) (by rfl) (pa_cons (pv 1) (pa_cons (pv 7) pa_nil))) (pa_cons (pe_op (op_catK (K := K) (by rfl)) (pv 7) (pe_tup (pa_cons pe_int pa_nil))) (pa_cons (pe_callTy (call_listK (K := K) (by rfl)) (by rfl) B.list_ (by decide +kernel) (pa_cons (pv 7) pa_nil)) (pa_cons (pe_has (h_l_odd) (hr.mono (by first | decide | omega)) (by rfl) (pa_cons (pv 1) pa_nil)) pa_nil))))))) (pg_name (i := 2) sc_law.nd rfl (by first | exact Or.inl rfl | exact Or.inr rfl))))))))))
      (Evl.pss_cut (ps_if (pt_cmpR op_eq (pe_has (h_l_draw) (hr.mono (by first | decide | omega)) (by rfl) (pa_cons (pv 1) (pa_cons pe_int pa_nil))) pe_int (nomark _)) (pss_cons (ps_asg (pe_tup (pa_cons pe_int (pa_cons pe_int pa_nil))) (pg_tupK (K := K) (n := 2) (by rfl) (by rfl) (pgs_cons (pg_name (i := 10) sc_law.nd rfl (by first | exact Or.inl rfl | exact Or.inr rfl)) (pgs_cons (pg_name (i := 11) sc_law.nd rfl (by first | exact Or.inl rfl | exact Or.inr rfl)) pgs_nil))))
      (pss_cons (ps_for PassesOwn.never rfl (pi_range1 (by rfl) B.range_ (pa_cons pe_int pa_nil)) (pg_name (i := 4) sc_law.nd rfl (by first | exact Or.inl rfl | exact Or.inr rfl)) (pss_one (ps_par (i := 10) (j := 11) (by rfl) sc_law.nd rfl rfl (by decide) rfl rfl (pa_cons (pv 11) (pa_cons (pe_op op_add (pv 10) (pv 11)) pa_nil)) (by rfl))))
      (pss_one (ps_asg (pe_op op_cat (pv 2) (pe_lst (pa_cons (pe_tup (pa_cons (pv 10) (pa_cons (pv 11) pa_nil))) (pa_cons (pe_tup (pa_cons (pe_op op_mulW pe_int (pv 11)) (pa_cons (pe_op op_mulW pe_int (pv 10)) pa_nil))) pa_nil)))) (pg_name (i := 2) sc_law.nd rfl (by first | exact Or.inl rfl | exact Or.inr rfl)))))) pss_nil)
      (pss_cons (ps_for PassesOwn.never rfl (pi_listK (K := K) (by rfl) (pv 2)) (pg_name (i := 12) sc_law.nd rfl (by first | exact Or.inl rfl | exact Or.inr rfl)) (pss_cons (ps_asg (pe_callB (call_reprWK (K := K) (by rfl) nk hG hr.units) (by rfl) B.repr_ (by decide +kernel) (pa_cons (pv 12) pa_nil)) (pg_name (i := 13) sc_law.nd rfl (by first | exact Or.inl rfl | exact Or.inr rfl)))
      (pss_cons (ps_asg (pe_callB (call_reprWK (K := K) (by rfl) nk hG hr.units) (by rfl) B.repr_ (by decide +kernel) (pa_cons (pe_has (h_l_is_fraction) (hr.mono (by first | decide | omega)) (by rfl) (pa_cons (pv 12) pa_nil)) pa_nil)) (pg_name (i := 14) sc_law.nd rfl (by first | exact Or.inl rfl | exact Or.inr rfl)))
      (pss_one (ps_if (PW.pt (pw_or (pt_cmpR op_ne (pe_callB (call_reprWK (K := K) (by rfl) nk hG hr.units) (by rfl) B.repr_ (by decide +kernel) (pa_cons (pe_has (h_is_fraction) (hr.mono (by first | decide | omega)) (by rfl) (pa_cons (pv 12) pa_nil)) pa_nil)) (pv 14) (nomark _)) (pw_or (pt_cmpR op_ne (pe_callB (call_reprWK (K := K) (by rfl) nk hG hr.units) (by rfl) B.repr_ (by decide +kernel) (pa_cons (pe_has (h_is_fraction) (hr.mono (by first | decide | omega)) (by rfl) (pa_cons (pv 12) pa_nil)) pa_nil)) (pv 14) (nomark _)) (pw_or1 (pt_cmpR op_ne (pe_callB (call_reprWK (K := K) (by rfl) nk hG hr.units) (by rfl) B.repr_ (by decide +kernel) (pa_cons (pv 12) pa_nil)) (pv 13) (nomark _)))))) (pss_one (ps_ret pe_bl)) pss_nil)))))
      (pss_one (ps_ret pe_bl)))))))))), ?_⟩
  refine ⟨_, rfl, sc, ns, rfl, hS, hl, fun a s H0 na ns1 e0 f0 => ?_⟩
  have na0 := f0.nn
  refine ⟨by show 2 ≤ sizeLine; decide, fun p1 np1 => ?_⟩
  obtain ⟨H1, xH1, e1, h1⟩ := tupQ (K := K) na0 np1 (.cons (.int _) (.cons (.int _) .nil))
  rw [xH1]
  have na1 := Gd.Same.nn e1 na0
  refine ⟨by show 2 ≤ sizeLine; decide, fun p2 np2 => ?_⟩
  obtain ⟨H2, xH2, e2, h2⟩ := tupQ (K := K) na1 np2 (.cons (.int _) (.cons (.int _) .nil))
  rw [xH2]
  have na2 := Gd.Same.nn e2 na1
  refine ⟨by show 2 ≤ sizeLine; decide, fun p3 np3 => ?_⟩
  obtain ⟨H3, xH3, e3, h3⟩ := tupQ (K := K) na2 np3 (.cons (.int _) (.cons (.int _) .nil))
  rw [xH3]
  have na3 := Gd.Same.nn e3 na2
  refine ⟨by show 2 ≤ sizeLine; decide, fun p4 np4 => ?_⟩
  obtain ⟨H4, xH4, e4, h4⟩ := tupQ (K := K) na3 np4 (.cons (.int _) (.cons (.int _) .nil))
  rw [xH4]
  have na4 := Gd.Same.nn e4 na3
  refine ⟨_, rfl, ?_⟩
  refine ⟨by show 2 ≤ sizeLine; decide, fun p5 np5 => ?_⟩
  obtain ⟨H5, xH5, e5, h5⟩ := tupQ (K := K) na4 np5 (.cons (.int _) (.cons (.int _) .nil))
  rw [xH5]
  have na5 := Gd.Same.nn e5 na4
  refine ⟨by show 2 ≤ sizeLine; decide, fun p6 np6 => ?_⟩
  obtain ⟨H6, xH6, e6, h6⟩ := tupQ (K := K) na5 np6 (.cons (.int _) (.cons (.int _) .nil))
  rw [xH6]
  have na6 := Gd.Same.nn e6 na5
  refine ⟨_, rfl, ?_⟩
  refine ⟨by show 2 ≤ sizeLine; decide, fun p7 np7 => ?_⟩
  obtain ⟨H7, xH7, e7, h7⟩ := tupQ (K := K) na6 np7 (.cons (.int _) (.cons (.int _) .nil))
  rw [xH7]
  have na7 := Gd.Same.nn e7 na6
  refine ⟨_, rfl, ?_⟩
  refine ⟨by show 2 ≤ sizeLine; decide, fun p8 np8 => ?_⟩
  obtain ⟨H8, xH8, e8, h8⟩ := tupQ (K := K) na7 np8 (.cons (.int _) (.cons (.int _) .nil))
  rw [xH8]
  have na8 := Gd.Same.nn e8 na7
  refine ⟨by show 2 ≤ sizeLine; decide, fun p9 np9 => ?_⟩
  obtain ⟨H9, xH9, e9, h9⟩ := tupQ (K := K) na8 np9 (.cons (.int _) (.cons (.int _) .nil))
  rw [xH9]
  have na9 := Gd.Same.nn e9 na8
  refine ⟨by show 2 ≤ sizeLine; decide, fun p10 np10 => ?_⟩
  obtain ⟨H10, xH10, e10, h10⟩ := tupQ (K := K) na9 np10 (.cons (.bl _) (.cons (.int _) .nil))
  rw [xH10]
  have na10 := Gd.Same.nn e10 na9
  refine ⟨by show 2 ≤ sizeLine; decide, fun p11 np11 => ?_⟩
  obtain ⟨H11, xH11, e11, h11⟩ := tupQ (K := K) na10 np11 (.cons (.int _) (.cons (.bl _) .nil))
  rw [xH11]
  have na11 := Gd.Same.nn e11 na10
  refine ⟨by show 11 ≤ sizeLine; decide, fun p12 np12 => ?_⟩
  obtain ⟨H12, xH12, e12, g12, b12, l12⟩ := lstQ (K := K) na11 np12 (.cons (h1.same (((((((((e2.trans e3).trans e4).trans e5).trans e6).trans e7).trans e8).trans e9).trans e10).trans e11)) (.cons (h2.same ((((((((e3.trans e4).trans e5).trans e6).trans e7).trans e8).trans e9).trans e10).trans e11)) (.cons (h3.same (((((((e4.trans e5).trans e6).trans e7).trans e8).trans e9).trans e10).trans e11)) (.cons (h4.same ((((((e5.trans e6).trans e7).trans e8).trans e9).trans e10).trans e11)) (.cons (h5.same (((((e6.trans e7).trans e8).trans e9).trans e10).trans e11)) (.cons (h6.same ((((e7.trans e8).trans e9).trans e10).trans e11)) (.cons (h7.same (((e8.trans e9).trans e10).trans e11)) (.cons (h8.same ((e9.trans e10).trans e11)) (.cons (h9.same (e10.trans e11)) (.cons (h10.same e11) (.cons h11 .nil)))))))))))
  rw [xH12]
  have na12 := Gd.Same.nn e12 na11
  have h12 : Dq K a H12 (.ref p12) (.list [.tuple [.int 0, .int 1], .tuple [.int 1, .int 0], .tuple [.int 0, .int 0], .tuple [.int 0, .int 2], .tuple [.int 0, .int (-1)], .tuple [.int 1, .int 1], .tuple [.int (-1), .int 1], .tuple [.int 1, .int (-1)], .tuple [.int 2, .int 4], .tuple [.bool true, .int 1], .tuple [.int 1, .bool true]]) := Dq.lst g12 b12 l12
  refine ⟨_, rfl, ?_⟩
  refine ⟨by show 0 ≤ sizeLine; decide, fun p13 np13 => ?_⟩
  obtain ⟨H13, xH13, e13, h13⟩ := tupQ (K := K) na12 np13 .nil
  rw [xH13]
  have na13 := Gd.Same.nn e13 na12
  refine ⟨by show 1 ≤ sizeLine; decide, fun p14 np14 => ?_⟩
  obtain ⟨H14, xH14, e14, h14⟩ := tupQ (K := K) na13 np14 (.cons (.int _) .nil)
  rw [xH14]
  have na14 := Gd.Same.nn e14 na13
  refine ⟨by show 3 ≤ sizeLine; decide, fun p15 np15 => ?_⟩
  obtain ⟨H15, xH15, e15, h15⟩ := tupQ (K := K) na14 np15 (.cons (.int _) (.cons (.int _) (.cons (.int _) .nil)))
  rw [xH15]
  have na15 := Gd.Same.nn e15 na14
  refine ⟨by show 2 ≤ sizeLine; decide, fun p16 np16 => ?_⟩
  obtain ⟨H16, xH16, e16, g16, b16, l16⟩ := lstQ (K := K) na15 np16 (.cons (.int _) (.cons (.int _) .nil))
  rw [xH16]
  have na16 := Gd.Same.nn e16 na15
  have h16 : Dq K a H16 (.ref p16) (.list [.int 1, .int 2]) := Dq.lst g16 b16 l16
  refine ⟨by show 2 ≤ sizeLine; decide, fun p17 np17 => ?_⟩
  obtain ⟨H17, xH17, e17, h17⟩ := tupQ (K := K) na16 np17 (.cons (.str _) (.cons (.int _) .nil))
  rw [xH17]
  have na17 := Gd.Same.nn e17 na16
  refine ⟨by show 2 ≤ sizeLine; decide, fun p18 np18 => ?_⟩
  obtain ⟨H18, xH18, e18, h18⟩ := tupQ (K := K) na17 np18 (.cons (.int _) (.cons (.str _) .nil))
  rw [xH18]
  have na18 := Gd.Same.nn e18 na17
  refine ⟨by show 2 ≤ sizeLine; decide, fun p19 np19 => ?_⟩
  obtain ⟨H19, xH19, e19, h19⟩ := tupQ (K := K) na18 np19 (.cons (.int _) (.cons (.int _) .nil))
  rw [xH19]
  have na19 := Gd.Same.nn e19 na18
  refine ⟨by show 2 ≤ sizeLine; decide, fun p20 np20 => ?_⟩
  obtain ⟨H20, xH20, e20, h20⟩ := tupQ (K := K) na19 np20 (.cons h19 (.cons (.int _) .nil))
  rw [xH20]
  have na20 := Gd.Same.nn e20 na19
  refine ⟨by show 11 ≤ sizeLine; decide, fun p21 np21 => ?_⟩
  obtain ⟨H21, xH21, e21, g21, b21, l21⟩ := lstQ (K := K) na20 np21 (.cons .non (.cons (h13.same ((((((e14.trans e15).trans e16).trans e17).trans e18).trans e19).trans e20)) (.cons (h14.same (((((e15.trans e16).trans e17).trans e18).trans e19).trans e20)) (.cons (h15.same ((((e16.trans e17).trans e18).trans e19).trans e20)) (.cons (h16.same (((e17.trans e18).trans e19).trans e20)) (.cons (h17.same ((e18.trans e19).trans e20)) (.cons (h18.same (e19.trans e20)) (.cons h20 (.cons (.int _) (.cons (.bl _) (.cons (.str _) .nil)))))))))))
  rw [xH21]
  have na21 := Gd.Same.nn e21 na20
  have h21 : Dq K a H21 (.ref p21) (.list [.none, .tuple [], .tuple [.int 1], .tuple [.int 1, .int 2, .int 3], .list [.int 1, .int 2], .tuple [.str "1", .int 2], .tuple [.int 1, .str "2"], .tuple [.tuple [.int 1, .int 2], .int 1], .int 1, .bool true, .str "1/2"]) := Dq.lst g21 b21 l21
  refine ⟨_, _, _, _, rfl, rfl, ((((((((e13.trans e14).trans e15).trans e16).trans e17).trans e18).trans e19).trans e20).trans e21) _ _ g12, g21, by show 22 ≤ sizeLine; decide, fun p22 np22 => ?_⟩
  obtain ⟨H22, xH22, e22, g22, b22, l22⟩ := lstQ (K := K) na21 np22 (dpa_append _ _ _ _ (l12.same ((((((((e13.trans e14).trans e15).trans e16).trans e17).trans e18).trans e19).trans e20).trans e21)) l21)
  rw [xH22]
  have na22 := Gd.Same.nn e22 na21
  refine ⟨_, _, rfl, rfl, ⟨by decide, by decide, by decide⟩, ?_⟩
  refine ⟨_, _, rfl, rfl, farC, ?_⟩
  dsimp only
  generalize hfar : ((10 : Int) ^ Int.toNat 60) ^ Int.toNat 20 = far
  refine ⟨_, rfl, ?_⟩
  refine ⟨by show 2 ≤ sizeLine; decide, fun p23 np23 => ?_⟩
  obtain ⟨H23, xH23, e23, h23⟩ := tupQ (K := K) na22 np23 (.cons .non (.cons (.int _) .nil))
  rw [xH23]
  have na23 := Gd.Same.nn e23 na22
  refine ⟨by show 2 ≤ sizeLine; decide, fun p24 np24 => ?_⟩
  obtain ⟨H24, xH24, e24, h24⟩ := tupQ (K := K) na23 np24 (.cons (.bl _) (.cons (.int _) .nil))
  rw [xH24]
  have na24 := Gd.Same.nn e24 na23
  refine ⟨_, rfl, ?_⟩
  refine ⟨_, _, rfl, rfl, ?_⟩
  refine ⟨_, rfl, ?_⟩
  refine ⟨by show 2 ≤ sizeLine; decide, fun p25 np25 => ?_⟩
  obtain ⟨H25, xH25, e25, h25⟩ := tupQ (K := K) na24 np25 (.cons (.int _) (.cons (.int _) .nil))
  rw [xH25]
  have na25 := Gd.Same.nn e25 na24
  refine ⟨_, rfl, ?_⟩
  refine ⟨by show 2 ≤ sizeLine; decide, fun p26 np26 => ?_⟩
  obtain ⟨H26, xH26, e26, h26⟩ := tupQ (K := K) na25 np26 (.cons (.int _) (.cons (.int _) .nil))
  rw [xH26]
  have na26 := Gd.Same.nn e26 na25
  refine ⟨_, rfl, ?_⟩
  refine ⟨_, _, rfl, rfl, ?_⟩
  refine ⟨_, rfl, ?_⟩
  refine ⟨by show 2 ≤ sizeLine; decide, fun p27 np27 => ?_⟩
  obtain ⟨H27, xH27, e27, h27⟩ := tupQ (K := K) na26 np27 (.cons (.int _) (.cons (.int _) .nil))
  rw [xH27]
  have na27 := Gd.Same.nn e27 na26
  refine ⟨_, rfl, ?_⟩
  refine ⟨_, rfl, ?_⟩
  refine ⟨_, _, rfl, rfl, ?_⟩
  refine ⟨by show 3 ≤ sizeLine; decide, fun p28 np28 => ?_⟩
  obtain ⟨H28, xH28, e28, h28⟩ := tupQ (K := K) na27 np28 (.cons (.int _) (.cons (.int _) (.cons (.int _) .nil)))
  rw [xH28]
  have na28 := Gd.Same.nn e28 na27
  refine ⟨_, rfl, ?_⟩
  refine ⟨by show 2 ≤ sizeLine; decide, fun p29 np29 => ?_⟩
  obtain ⟨H29, xH29, e29, h29⟩ := tupQ (K := K) na28 np29 (.cons (.int _) (.cons (.int _) .nil))
  rw [xH29]
  have na29 := Gd.Same.nn e29 na28
  refine ⟨by show 7 ≤ sizeLine; decide, fun p30 np30 => ?_⟩
  obtain ⟨H30, xH30, e30, g30, b30, l30⟩ := lstQ (K := K) na29 np30 (.cons (h23.same (((((e24.trans e25).trans e26).trans e27).trans e28).trans e29)) (.cons (h24.same ((((e25.trans e26).trans e27).trans e28).trans e29)) (.cons (h25.same (((e26.trans e27).trans e28).trans e29)) (.cons (h26.same ((e27.trans e28).trans e29)) (.cons (h27.same (e28.trans e29)) (.cons (h28.same e29) (.cons h29 .nil)))))))
  rw [xH30]
  have na30 := Gd.Same.nn e30 na29
  have h30 : Dq K a H30 (.ref p30) (.list [.tuple [.none, .int 1], .tuple [.bool false, .int 1], .tuple [.int (far + 1), .int far], .tuple [.int far, .int 2], .tuple [.int (1 - far), .int far], .tuple [.int far, .int (far + 1), .int 1], .tuple [.int 3, .int far]]) := Dq.lst g30 b30 l30
  refine ⟨_, _, _, _, rfl, rfl, (((((((e23.trans e24).trans e25).trans e26).trans e27).trans e28).trans e29).trans e30) _ _ g22, g30, by show 29 ≤ sizeLine; decide, fun p31 np31 => ?_⟩
  obtain ⟨H31, xH31, e31, g31, b31, l31⟩ := lstQ (K := K) na30 np31 (dpa_append _ _ _ _ (l22.same (((((((e23.trans e24).trans e25).trans e26).trans e27).trans e28).trans e29).trans e30)) l30)
  rw [xH31]
  have na31 := Gd.Same.nn e31 na30

  have eAll : Same H0 H31 := ((((((((((((((((((((((((((((((e1.trans e2).trans e3).trans e4).trans e5).trans e6).trans e7).trans e8).trans e9).trans e10).trans e11).trans e12).trans e13).trans e14).trans e15).trans e16).trans e17).trans e18).trans e19).trans e20).trans e21).trans e22).trans e23).trans e24).trans e25).trans e26).trans e27).trans e28).trans e29).trans e30).trans e31)
  have f31 := f0.same eAll
  have th31 : ∀ d ∈ hand1 ++ hand2 ++ hand3 far, Th d := by
    intro d hd
    rcases List.mem_append.mp hd with h | h
    · rcases List.mem_append.mp h with h | h
      · exact hand1_th d h
      · exact hand2_th d h
    · exact hand3_th hfar d h
  clear hfar
  refine ⟨3, rfl, by decide, by decide, for_range (lo := 0) (n := 3) (fun i σ H' => ∃ (l : Addr) (xs : List V) (ds : List PyData) (v4 v5 v6 v7 v8 v9 v10 v11 v12 v13 v14 : Option V),
    σ = [some (.ref sc), some (.ref a), some (.ref l), some (.int far), v4, v5, v6, v7, v8, v9, v10, v11, v12, v13, v14] ∧ H' l = some (.lst xs) ∧ l ≠ a ∧ DqAll K a H' xs ds ∧ (∀ d ∈ ds, Th d) ∧ ds.length = 29 + 11 * i ∧ Fd H' a s (1000 * i)) ?_ ?_ ?_⟩
  · exact ⟨p31, _, _, _, _, _, _, _, _, _, _, _, _, _, rfl, g31, b31, l31, th31, rfl, f31⟩
  · clear th31 f31 eAll na0 H1 xH1 e1 h1 H2 xH2 e2 h2 H3 xH3 e3 h3 H4 xH4 e4 h4 H5 xH5 e5 h5 H6 xH6 e6 h6 H7 xH7 e7 h7 H8 xH8 e8 h8 H9 xH9 e9 h9 H10 xH10 e10 h10 H11 xH11 e11 h11 H12 xH12 e12 g12 b12 l12 H13 xH13 e13 h13 H14 xH14 e14 h14 H15 xH15 e15 h15 H16 xH16 e16 g16 b16 l16 H17 xH17 e17 h17 H18 xH18 e18 h18 H19 xH19 e19 h19 H20 xH20 e20 h20 H21 xH21 e21 g21 b21 l21 H22 xH22 e22 g22 b22 l22 H23 xH23 e23 h23 H24 xH24 e24 h24 H25 xH25 e25 h25 H26 xH26 e26 h26 H27 xH27 e27 h27 H28 xH28 e28 h28 H29 xH29 e29 h29 H30 xH30 e30 g30 b30 l30 H31 xH31 e31 g31 b31 l31 na1 na2 na3 na4 na5 na6 na7 na8 na9 na10 na11 na12 h12 na13 na14 na15 na16 h16 na17 na18 na19 na20 na21 h21 na22 na23 na24 na25 na26 na27 na28 na29 na30 h30 na31 p1 np1 p2 np2 p3 np3 p4 np4 p5 np5 p6 np6 p7 np7 p8 np8 p9 np9 p10 np10 p11 np11 p12 np12 p13 np13 p14 np14 p15 np15 p16 np16 p17 np17 p18 np18 p19 np19 p20 np20 p21 np21 p22 np22 p23 np23 p24 np24 p25 np25 p26 np26 p27 np27 p28 np28 p29 np29 p30 np30 p31 np31 f0 e0 na ns1 H0
    rintro i σ H0 hi ⟨l, xs, ds, v4, v5, v6, v7, v8, v9, v10, v11, v12, v13, v14, rfl, hl0, nla, hx0, th0, len0, f0⟩
    refine ⟨_, rfl, a, s, 1000 * i, rfl, f0, by omega, fun t H1 t0 t1 sb1 f1 => ?_⟩
    refine ⟨_, rfl, a, s, 1000 * i + 12, rfl, f1, by omega, fun z H2 z0 z1 sb2 f2 => ?_⟩
    refine ⟨_, _, rfl, ?_⟩
    have hz : ∃ b : Int, b = (if z > 1 then z else 1) ∧ 1 ≤ b ∧ b ≤ 10 ^ 40 := by
      refine ⟨_, rfl, ?_, ?_⟩
      · split <;> omega
      · split <;> omega
    obtain ⟨b, eb, b1, b2⟩ := hz
    rw [← eb]
    refine ⟨_, _, rfl, ?_⟩
    have hb2000 : b.natAbs < 2 ^ 2000 := Nat.lt_of_lt_of_le (show b.natAbs < 2 ^ 140 by omega) (Nat.pow_le_pow_right (by decide) (by decide))
    refine ⟨_, rfl, _, rfl, t, b, rfl, by omega, hb2000, fun p H3 np e3 h3 => ?_⟩
    have hT : (lowT t b).natAbs ≤ 10 ^ 40 := Nat.le_trans (lowT_le t b) (by omega)
    have hB : (lowB t b).natAbs ≤ 10 ^ 40 := Nat.le_trans (lowB_le t b) (by omega)
    generalize lowT t b = gt at h3 hT
    generalize lowB t b = gb at h3 hB
    have f3 := f2.same e3
    have npa : p ≠ a := new_ne f2.nn np
    have hg3 : Dq K a H3 (.ref p) (.tuple [.int gt, .int gb]) := L2.Dp.tup (SqT.of (hid_at h3 npa)) (.cons (.int _) (.cons (.int _) .nil))
    have Fg : Fn (10 ^ 40) 1 3 (.tuple [.int gt, .int gb]) := (fn_tup (k := 0)).mpr ⟨fun d hd => by
      simp only [List.mem_cons, List.not_mem_nil, or_false] at hd
      rcases hd with rfl | rfl
      · exact ⟨by simp only [fok, decide_eq_true_eq]; exact hT, by simp [PyData.depth]⟩
      · exact ⟨by simp only [fok, decide_eq_true_eq]; exact hB, by simp [PyData.depth]⟩, by simp [fzAll, fz]⟩
    refine ⟨_, rfl, a, s, _, 1000 * i + 22, rfl, f3, by omega, by decide, by decide, fun r H4 r0 r1 sb4 f4 => ?_⟩
    refine ⟨_, _, rfl, rfl, ?_⟩
    have hg4 := Dq.sb hg3 sb4
    have hp4 := sb4 _ _ npa h3
    refine ⟨_, rfl, _, rfl, a, s, .ref p, _, 1000 * i + 23, 10 ^ 40, 3, 1, rfl, f4, by omega, by decide, by decide, hg4, Fg, by decide, by decide, by decide, fun v5 H5 d5 sb5 f5 hv5 F5 => ?_⟩
    have hp5 := sb5 _ _ npa hp4
    have hg5 := Dq.sb hg4 sb5
    refine ⟨_, rfl, _, rfl, ?_⟩
    refine ⟨_, rfl, _, rfl, by show 2 ≤ sizeLine; decide, fun p6 np6 => ?_⟩
    obtain ⟨H6, xH6, e6, h6⟩ := tupQ (K := K) f5.nn np6 (.cons (.int t) (.cons (.int b) .nil))
    rw [xH6]
    have f6 := f5.same e6
    have hp6 := e6 _ _ hp5
    have mw : ∀ x : Int, x.natAbs ≤ 10 ^ 40 → CMulW x (2 + r) := fun x hx => wide_mul (a := 140) (b := 20) (Nat.lt_of_le_of_lt hx (by decide)) (by omega) (by decide) (by decide) (by decide)
    refine ⟨_, rfl, p, _, 0, _, rfl, rfl, SqT.of hp6, rfl, _, rfl, _, _, rfl, rfl, mw _ hT, ?_⟩
    refine ⟨_, rfl, p, _, 1, _, rfl, rfl, SqT.of hp6, rfl, _, rfl, _, _, rfl, rfl, mw _ hB, by show 2 ≤ sizeLine; decide, fun p7 np7 => ?_⟩
    obtain ⟨H7, xH7, e7, h7⟩ := tupQ (K := K) f6.nn np7 (.cons (.int (gt * (2 + r))) (.cons (.int (gb * (2 + r))) .nil))
    rw [xH7]
    have f7 := f6.same e7
    have hp7 := e7 _ _ hp6
    refine ⟨_, rfl, p, _, 0, _, rfl, rfl, SqT.of hp7, rfl, ?_⟩
    refine ⟨_, rfl, p, _, 1, _, rfl, rfl, SqT.of hp7, rfl, _, rfl, by show 2 ≤ sizeLine; decide, fun p8 np8 => ?_⟩
    obtain ⟨H8, xH8, e8, h8⟩ := tupQ (K := K) f7.nn np8 (.cons (.int gt) (.cons (.int (-gb)) .nil))
    rw [xH8]
    have f8 := f7.same e8
    have hp8 := e8 _ _ hp7
    refine ⟨_, rfl, p, _, rfl, SqT.of hp8, fun p9 np9 => ?_⟩
    obtain ⟨H9, xH9, e9, h9⟩ := tupQ (K := K) f8.nn np9 (.cons (.int gb) (.cons (.int gt) .nil))
    have er : [V.int gt, V.int gb].reverse = [V.int gb, V.int gt] := rfl
    rw [er, xH9]
    have f9 := f8.same e9
    refine ⟨_, rfl, by show 6 ≤ sizeLine; decide, fun p10 np10 => ?_⟩
    have e59 := ((e6.trans e7).trans e8).trans e9
    obtain ⟨H10, xH10, e10, g10, n10, l10⟩ := lstQ (K := K) f9.nn np10 (.cons (hg5.same e59) (.cons (h6.same ((e7.trans e8).trans e9)) (.cons (h7.same (e8.trans e9)) (.cons (h8.same e9) (.cons h9 (.cons (hv5.same e59) .nil))))))
    rw [xH10]
    have f10 := f9.same e10
    have sb05 := ((((sb1.trans sb2).trans (Sb.of e3)).trans sb4).trans sb5)
    have sb010 := sb05.trans (Sb.of (e59.trans e10))
    have hlx : xs.length = ds.length := dpa_len _ _ hx0
    refine ⟨l, p10, _, _, rfl, rfl, sb010 _ _ nla hl0, g10, Nat.le_trans (show xs.length + 6 ≤ 1000 by omega) (by decide), fun p11 np11 => ?_⟩
    obtain ⟨H11, xH11, e11, g11, n11, l11⟩ := lstQ (K := K) f10.nn np11 (dpa_append _ _ _ _ (DqAll.sb hx0 sb010) l10)
    rw [xH11]
    have f11 := f10.same e11
    have e511 := (e59.trans e10).trans e11
    have hg11 := hg5.same e511
    have hv11 := hv5.same e511
    refine ⟨_, rfl, ?_⟩
    refine ⟨_, rfl, _, rfl, a, s, v5, d5, _, 10 ^ 40 + 1, 1006, 3, rfl, f11, by omega, by decide, by decide, hv11, F5, by decide, by decide, by decide, fun v12 H12 d12 sb12 f12 hv12 F12 => ?_⟩
    have hg12 := Dq.sb hg11 sb12
    refine ⟨_, rfl, _, rfl, a, s, .ref p, _, _, 10 ^ 40, 3, 1, rfl, f12, by omega, by decide, by decide, hg12, Fg, by decide, by decide, by decide, fun v13 H13 d13 sb13 f13 hv13 F13 => ?_⟩
    have hg13 := Dq.sb hg12 sb13
    refine ⟨_, rfl, by show 1 ≤ sizeLine; decide, fun p14 np14 => ?_⟩
    obtain ⟨H14, xH14, e14, h14⟩ := tupQ (K := K) f13.nn np14 (.cons (.int 1) .nil)
    rw [xH14]
    have f14 := f13.same e14
    refine cat_dq f14.nn (hg13.same e14) h14 (by simp) fun v15 H15 e15 h15 => ?_
    have f15 := f14.same e15
    have hg15 := hg13.same (e14.trans e15)
    refine ⟨_, rfl, ?_⟩
    try dsimp only [tC, tNil]
    refine listT_dq f15.nn hg15 fun l16 H16 nl16 e16 h16 => ?_
    have f16 := f15.same e16
    refine ⟨_, rfl, a, s, _, rfl, f16, by omega, fun v17 H17 d17 sb17 f17 hv17 F17 => ?_⟩
    refine ⟨by show 5 ≤ sizeLine; decide, fun p18 np18 => ?_⟩
    have sb1316 := (Sb.of (a := a) ((e14.trans e15).trans e16)).trans sb17
    obtain ⟨H18, xH18, e18, g18, n18, l18⟩ := lstQ (K := K) f17.nn np18 (.cons (Dq.sb hv12 (sb13.trans sb1316)) (.cons (Dq.sb hv13 sb1316) (.cons (Dq.sb h15 ((Sb.of e16).trans sb17)) (.cons (Dq.sb h16 sb17) (.cons hv17 .nil)))))
    rw [xH18]
    have f18 := f17.same e18
    have sb1118 := ((sb12.trans sb13).trans sb1316).trans (Sb.of e18)
    refine ⟨p11, p18, _, _, rfl, rfl, sb1118 _ _ n11 g11, g18, Nat.le_trans (show (xs ++ _).length + 5 ≤ 1000 by rw [List.length_append]; show xs.length + 6 + 5 ≤ 1000; omega) (by decide), fun p19 np19 => ?_⟩
    obtain ⟨H19, xH19, e19, g19, n19, l19⟩ := lstQ (K := K) f18.nn np19 (dpa_append _ _ _ _ (DqAll.sb l11 sb1118) l18)
    rw [xH19]
    refine ⟨p19, _, _, _, _, _, _, _, _, _, _, _, _, _, rfl, g19, n19, l19, ?_, ?_, (f18.same e19).mono (by omega)⟩
    · have sm : ∀ x y : Int, x.natAbs ≤ 10 ^ 42 → y.natAbs ≤ 10 ^ 42 → Th (.tuple [.int x, .int y]) := fun x y hx hy => th_fn (M := 10 ^ 42) (k := 1) (m := 3) ((fn_tup (k := 0)).mpr ⟨fun d hd => by
        simp only [List.mem_cons, List.not_mem_nil, or_false] at hd
        rcases hd with rfl | rfl
        · exact ⟨by simp only [fok, decide_eq_true_eq]; exact hx, by simp [PyData.depth]⟩
        · exact ⟨by simp only [fok, decide_eq_true_eq]; exact hy, by simp [PyData.depth]⟩, by simp [fzAll, fz]⟩) (by decide) (by decide) (by decide)
      have mul42 : ∀ x : Int, x.natAbs ≤ 10 ^ 40 → (x * (2 + r)).natAbs ≤ 10 ^ 42 := fun x hx => by
        rw [Int.natAbs_mul]
        exact Nat.le_trans (Nat.mul_le_mul hx (show (2 + r).natAbs ≤ 100 by omega)) (by decide)
      intro d hd
      rcases List.mem_append.mp hd with h | h
      · rcases List.mem_append.mp h with h | h
        · exact th0 d h
        · simp only [List.mem_cons, List.not_mem_nil, or_false] at h
          rcases h with rfl | rfl | rfl | rfl | rfl | rfl
          · exact sm _ _ (Nat.le_trans hT (by decide)) (Nat.le_trans hB (by decide))
          · exact sm _ _ (by omega) (by omega)
          · exact sm _ _ (mul42 _ hT) (mul42 _ hB)
          · exact sm _ _ (Nat.le_trans hT (by decide)) (by rw [Int.natAbs_neg]; exact Nat.le_trans hB (by decide))
          · exact sm _ _ (Nat.le_trans hB (by decide)) (Nat.le_trans hT (by decide))
          · exact th_fn F5 (by decide) (by decide) (by decide)
      · simp only [List.mem_cons, List.not_mem_nil, or_false] at h
        rcases h with rfl | rfl | rfl | rfl | rfl
        · exact th_fn F12 (by decide) (by decide) (by decide)
        · exact th_fn F13 (by decide) (by decide) (by decide)
        · refine th_fn (M := 10 ^ 40) (k := 1) (m := 4) ((fn_tup (k := 0)).mpr ⟨fun d hd => ?_, by simp [fzAll, fz]⟩) (by decide) (by decide) (by decide)
          simp only [List.cons_append, List.nil_append, List.mem_cons, List.not_mem_nil, or_false] at hd
          rcases hd with rfl | rfl | rfl
          · exact ⟨by simp only [fok, decide_eq_true_eq]; exact hT, by simp [PyData.depth]⟩
          · exact ⟨by simp only [fok, decide_eq_true_eq]; exact hB, by simp [PyData.depth]⟩
          · exact ⟨by decide, by simp [PyData.depth]⟩
        · exact th_fn (fn_lst Fg) (by decide) (by decide) (by decide)
        · exact th_fn F17 (by decide) (by decide) (by decide)
    · rw [List.length_append, List.length_append, len0]
      show 29 + 11 * i + 6 + 5 = 29 + 11 * (i + 1)
      omega
  · clear th31 f31 eAll na0 H1 xH1 e1 h1 H2 xH2 e2 h2 H3 xH3 e3 h3 H4 xH4 e4 h4 H5 xH5 e5 h5 H6 xH6 e6 h6 H7 xH7 e7 h7 H8 xH8 e8 h8 H9 xH9 e9 h9 H10 xH10 e10 h10 H11 xH11 e11 h11 H12 xH12 e12 g12 b12 l12 H13 xH13 e13 h13 H14 xH14 e14 h14 H15 xH15 e15 h15 H16 xH16 e16 g16 b16 l16 H17 xH17 e17 h17 H18 xH18 e18 h18 H19 xH19 e19 h19 H20 xH20 e20 h20 H21 xH21 e21 g21 b21 l21 H22 xH22 e22 g22 b22 l22 H23 xH23 e23 h23 H24 xH24 e24 h24 H25 xH25 e25 h25 H26 xH26 e26 h26 H27 xH27 e27 h27 H28 xH28 e28 h28 H29 xH29 e29 h29 H30 xH30 e30 g30 b30 l30 H31 xH31 e31 g31 b31 l31 na1 na2 na3 na4 na5 na6 na7 na8 na9 na10 na11 na12 h12 na13 na14 na15 na16 h16 na17 na18 na19 na20 na21 h21 na22 na23 na24 na25 na26 na27 na28 na29 na30 h30 na31 p1 np1 p2 np2 p3 np3 p4 np4 p5 np5 p6 np6 p7 np7 p8 np8 p9 np9 p10 np10 p11 np11 p12 np12 p13 np13 p14 np14 p15 np15 p16 np16 p17 np17 p18 np18 p19 np19 p20 np20 p21 np21 p22 np22 p23 np23 p24 np24 p25 np25 p26 np26 p27 np27 p28 np28 p29 np29 p30 np30 p31 np31 f0 e0 na ns1 H0
    rintro σ H0 ⟨l, xs, ds, v4, v5, v6, v7, v8, v9, v10, v11, v12, v13, v14, rfl, hl0, nla, hx0, th0, len0, f0⟩
    refine ⟨fun σ' H' => ∃ (l : Addr) (xs : List V) (ds : List PyData) (v4 v5 v6 v7 v8 v9 v10 v11 v12 v13 v14 : Option V),
      σ' = [some (.ref sc), some (.ref a), some (.ref l), some (.int far), v4, v5, v6, v7, v8, v9, v10, v11, v12, v13, v14] ∧ H' l = some (.lst xs) ∧ DpAll K H' xs ds ∧ ∀ d ∈ ds, Th d, ?_, ?_⟩
    · refine ⟨_, rfl, a, s, _, 3000, rfl, f0, by omega, by decide, by decide, fun r H1 r0 r1 sb1 f1 => ?_⟩
      have hl1 := sb1 _ _ nla hl0
      have hx1 := DqAll.sb hx0 sb1
      refine ⟨rfl, _, rfl, ?_⟩
      refine ite2 (fun _ => ?_) (fun _ => ⟨l, xs, ds, _, _, _, _, _, _, _, _, _, _, _, rfl, hl1, hx1.dp, th0⟩)
      refine ⟨by show 2 ≤ sizeLine; decide, fun p2 np2 => ?_⟩
      obtain ⟨H2, xH2, e2, _⟩ := tupQ (K := K) f1.nn np2 (.cons (.int 1) (.cons (.int 1) .nil))
      have hp2 : H2 p2 = some (.tup [.int 1, .int 1]) := by
        rw [← xH2]
        exact upd_same
      rw [xH2]
      refine ⟨p2, _, rfl, SqT.of hp2, rfl, _, _, rfl, _, _, rfl, rfl, ?_⟩
      refine ⟨1200, rfl, by decide, by decide, for_range (lo := 0) (n := 1200) (fun j σ H' => H' = H2 ∧ ∃ (x y : Nat) (v4 : Option V), x ≤ 2 ^ j ∧ y ≤ 2 ^ j ∧
        σ = [some (.ref sc), some (.ref a), some (.ref l), some (.int far), v4, v5, v6, v7, v8, v9, some (.int (x : Int)), some (.int (y : Int)), v12, v13, v14]) ?_ ?_ ?_⟩
      · exact ⟨rfl, 1, 1, _, by decide, by decide, rfl⟩
      · rintro j σ H' hj ⟨rfl, x, y, v4, hx, hy, rfl⟩
        refine ⟨_, rfl, _, rfl, _, rfl, _, _, rfl, rfl, _, _, rfl, ?_⟩
        have hp : (2 : Nat) ^ (j + 1) = 2 ^ j + 2 ^ j := by
          rw [Nat.pow_succ]
          omega
        refine ⟨rfl, y, x + y, some (.int (0 + (j : Int))), by omega, by omega, ?_⟩
        rw [show ((x + y : Nat) : Int) = (x : Int) + (y : Int) from by omega]
        rfl
      · rintro σ H' ⟨rfl, x, y, v4, hx, hy, rfl⟩
        have c1 : ∀ x : Nat, x ≤ 2 ^ 1200 → CMulW 2 (x : Int) := fun x hx => wide_mul (a := 2) (b := 1201) (by decide) (Nat.lt_of_le_of_lt (show (x : Int).natAbs ≤ 2 ^ 1200 by omega) (Nat.pow_lt_pow_right (by decide) (by decide))) (by decide) (by decide) (by decide)
        have f2 := f1.same e2
        refine ⟨_, rfl, ?_⟩
        refine ⟨_, rfl, _, rfl, by show 2 ≤ sizeLine; decide, fun p3 np3 => ?_⟩
        obtain ⟨H3, xH3, e3, h3⟩ := tupQ (K := K) f2.nn np3 (.cons (.int (x : Int)) (.cons (.int (y : Int)) .nil))
        rw [xH3]
        have f3 := f2.same e3
        refine ⟨_, rfl, _, _, rfl, rfl, c1 y hy, _, rfl, _, _, rfl, rfl, c1 x hx, by show 2 ≤ sizeLine; decide, fun p4 np4 => ?_⟩
        obtain ⟨H4, xH4, e4, h4⟩ := tupQ (K := K) f3.nn np4 (.cons (.int (2 * (y : Int))) (.cons (.int (2 * (x : Int))) .nil))
        rw [xH4]
        have f4 := f3.same e4
        refine ⟨by show 2 ≤ sizeLine; decide, fun p5 np5 => ?_⟩
        obtain ⟨H5, xH5, e5, g5, n5, l5⟩ := lstQ (K := K) f4.nn np5 (.cons (h3.same e4) (.cons h4 .nil))
        rw [xH5]
        have f5 := f4.same e5
        have e15 := ((e2.trans e3).trans e4).trans e5
        have hlx : xs.length = ds.length := dpa_len _ _ hx1
        refine ⟨l, p5, _, _, rfl, rfl, e15 _ _ hl1, g5, Nat.le_trans (show xs.length + 2 ≤ 1000 by omega) (by decide), fun p6 np6 => ?_⟩
        obtain ⟨H6, xH6, e6, g6, n6, l6⟩ := lstQ (K := K) f5.nn np6 (dpa_append _ _ _ _ (hx1.same e15) l5)
        rw [xH6]
        refine ⟨p6, _, _, _, _, _, _, _, _, _, _, _, _, _, rfl, g6, l6.dp, ?_⟩
        intro d hd
        have b1 : ∀ x : Nat, x ≤ 2 ^ 1200 → (x : Int).natAbs < 2 ^ 4001 := fun x hx => Nat.lt_of_le_of_lt (show (x : Int).natAbs ≤ 2 ^ 1200 by omega) (Nat.pow_lt_pow_right (by decide) (by decide))
        have b2 : ∀ x : Nat, x ≤ 2 ^ 1200 → (2 * (x : Int)).natAbs < 2 ^ 4001 := fun x hx => Nat.lt_of_le_of_lt (show (2 * (x : Int)).natAbs ≤ 2 ^ 1201 by
          have hp : (2 : Nat) ^ 1201 = 2 ^ 1200 + 2 ^ 1200 := by
            rw [Nat.pow_succ]
            omega
          omega) (Nat.pow_lt_pow_right (by decide) (by decide))
        rcases List.mem_append.mp hd with h | h
        · exact th0 d h
        · simp only [List.mem_cons, List.not_mem_nil, or_false] at h
          rcases h with rfl | rfl
          · exact th_two (lg4 (b1 _ hx)) (lg4 (b1 _ hy))
          · exact th_two (lg4 (b2 _ hy)) (lg4 (b2 _ hx))
    · rintro σ' H1 ⟨l, xs, ds, v4, v5, v6, v7, v8, v9, v10, v11, v12, v13, v14, rfl, hl1, hx1, th1⟩
      refine ⟨_, rfl, l, rfl, ⟨_, SqL.of hl1⟩, for_list (K := K) (a := l) (xs := xs) (fun q σ H2 => Same H1 H2 ∧ ∃ (v12 v13 v14 : Option V), σ = [some (.ref sc), some (.ref a), some (.ref l), some (.int far), v4, v5, v6, v7, v8, v9, v10, v11, v12, v13, v14]) ?_ ?_ ?_ ?_⟩
      · exact ⟨Same.refl _, _, _, _, rfl⟩
      · rintro q σ H2 _ ⟨e2, _⟩
        exact SqL.of (e2 _ _ hl1)
      · rintro q x σ H2 hx ⟨e2, v12, v13, v14, rfl⟩
        obtain ⟨d, hd1, hd2⟩ := dpa_get _ _ q x hx1 hx
        have hd := Dp.same e2 _ _ hd2
        have th := th1 d (List.mem_of_getElem? hd1)
        obtain ⟨S1, hS1⟩ : ∃ S1, d.shown = S1 := ⟨_, rfl⟩
        obtain ⟨S2, hS2⟩ : ∃ S2, (PyData.bool (isFrD d)).shown = S2 := ⟨_, rfl⟩
        have hb : ∀ (H' : Hp) (Q' : VK), Q' (.str S2) H' → rReprW K [.bl (isFrD d)] H' Q' := fun H' Q' q => .inl (reprD (.bl _) (sh_one _) (by decide) (by decide) hS2 q)
        refine ⟨_, rfl, ?_⟩
        try dsimp only [tC, tNil]
        refine reprTh hd th hS1 ?_
        refine ⟨_, rfl, x, d, rfl, hd, ?_⟩
        try dsimp only [tC, tNil]
        refine hb _ _ ?_
        refine ⟨_, rfl, x, d, rfl, hd, ?_⟩
        try dsimp only [tC, tNil]
        refine hb _ _ ?_
        refine ⟨_, rfl, rfl, _, rfl, ?_⟩
        refine iteNS rfl ?_
        refine ⟨_, rfl, x, d, rfl, hd, ?_⟩
        try dsimp only [tC, tNil]
        refine hb _ _ ?_
        refine ⟨_, rfl, rfl, _, rfl, ?_⟩
        refine iteNS rfl ?_
        refine ⟨_, rfl, ?_⟩
        try dsimp only [tC, tNil]
        refine reprTh hd th hS1 ?_
        refine ⟨_, rfl, rfl, _, rfl, ?_⟩
        exact iteNS rfl ⟨e2, _, _, _, rfl⟩
      · rintro σ H2 _
        exact k _
def d_is_number : He.DefD := ⟨("is_number", none), "is_number", "is_number", defArgs s_is_number, defBody s_is_number, defScope s_is_number, [], []⟩
def d_common_divisor : He.DefD := ⟨("common_divisor", none), "common_divisor", "common_divisor", defArgs s_common_divisor, defBody s_common_divisor, defScope s_common_divisor, [], []⟩
def d_is_fraction : He.DefD := ⟨("is_fraction", none), "is_fraction", "is_fraction", defArgs s_is_fraction, defBody s_is_fraction, defScope s_is_fraction, [], []⟩
def d_l_feed : He.DefD := ⟨("_law_feed", none), "_law_feed", "_law_feed", defArgs s_l_feed, defBody s_l_feed, defScope s_l_feed, [], []⟩
def d_l_draw : He.DefD := ⟨("_law_draw", none), "_law_draw", "_law_draw", defArgs s_l_draw, defBody s_l_draw, defScope s_l_draw, [], []⟩
def d_l_wide : He.DefD := ⟨("_law_wide", none), "_law_wide", "_law_wide", defArgs s_l_wide, defBody s_l_wide, defScope s_l_wide, [], []⟩
def d_l_size : He.DefD := ⟨("_law_size", none), "_law_size", "_law_size", defArgs s_l_size, defBody s_l_size, defScope s_l_size, [], []⟩
def d_l_top : He.DefD := ⟨("_law_top", none), "_law_top", "_law_top", defArgs s_l_top, defBody s_l_top, defScope s_l_top, [], []⟩
def d_l_common : He.DefD := ⟨("_law_common", none), "_law_common", "_law_common", defArgs s_l_common, defBody s_l_common, defScope s_l_common, [], []⟩
def d_l_lowest : He.DefD := ⟨("_law_lowest", none), "_law_lowest", "_law_lowest", defArgs s_l_lowest, defBody s_l_lowest, defScope s_l_lowest, [], []⟩
def d_l_odd : He.DefD := ⟨("_law_odd", none), "_law_odd", "_law_odd", defArgs s_l_odd, defBody s_l_odd, defScope s_l_odd, [], []⟩
def d_l_bent : He.DefD := ⟨("_law_bent", none), "_law_bent", "_law_bent", defArgs s_l_bent, defBody s_l_bent, defScope s_l_bent, [], []⟩
def d_l_is_whole : He.DefD := ⟨("_law_is_whole", none), "_law_is_whole", "_law_is_whole", defArgs s_l_is_whole, defBody s_l_is_whole, defScope s_l_is_whole, [], []⟩
def d_l_is_fraction : He.DefD := ⟨("_law_is_fraction", none), "_law_is_fraction", "_law_is_fraction", defArgs s_l_is_fraction, defBody s_l_is_fraction, defScope s_l_is_fraction, [], []⟩
def d_law : He.DefD := ⟨("law", none), "law", "law", defArgs s_law, defBody s_law, defScope s_law, [], []⟩
def fnL : List He.DefD := [d_is_number, d_common_divisor, d_is_fraction, d_l_feed, d_l_draw, d_l_wide, d_l_size, d_l_top, d_l_common, d_l_lowest, d_l_odd, d_l_bent, d_l_is_whole, d_l_is_fraction, d_law]
def faL : List He.Fa := [.glo "is_number", .glo "common_divisor", .glo "is_fraction", .glo "_law_feed", .glo "_law_draw", .glo "_law_wide", .glo "_law_size", .glo "_law_top", .glo "_law_common", .glo "_law_lowest", .glo "_law_odd", .glo "_law_bent", .glo "_law_is_whole", .glo "_law_is_fraction", .glo "law", .free "isinstance", .free "int", .free "bool", .free "abs", .free "tuple", .free "len", .free "range", .free "list", .free "str", .free "repr", .free "max"]
abbrev Rw : PySem.W.OpenRow := PySem.W.OpenLaw.row PySem.Challenge.rw_stepforms_k01_what_is_a_fraction
abbrev hk : PySem.W.Hook := Gd.hookM 4 faL fnL
def ob (s : PySem.W.SharedT) : Gd.AlM := Gd.obsM 4 faL fnL (HandSHeadRun.getT s)
theorem ob_eq (s : PySem.W.SharedT) : ob s = hk.obs s.abs := Gd.obsM_eq (HandSHeadRun.getT_eq s)
abbrev loose : List Str := ["is_number", "common_divisor", "is_fraction", "_law_feed", "_law_draw", "_law_wide", "_law_size", "_law_top", "_law_common", "_law_lowest", "_law_odd", "_law_bent", "_law_is_whole", "_law_is_fraction"]
theorem run (w : World) : HandSHeadRun.RunEq Rw (PySem.W.view Rw.prog [16]) hk ob 2000 loose w := by
  intro os
  kernel_rfl
theorem facts {P : Program} {w : World} {K : PySem.W.Frag} {h : Heap} {mg : Str → Option Value} {f : Addr}
    (X : K.In h) (G : h.Ns mainGlobals mg) (hfa : mg ("law" : Str) = some (.ref f)) (c : He.SaysD faL fnL K) (nk : Gd.NoDigK K) :
    ∃ fd : FuncData, (∀ (s : Shared) (v : Value), BindsTo s fd ⟨[v], []⟩ [("_law_script", v)]) ∧
      ∀ base : Heap, K.In base → base.Ns mainGlobals mg →
        FnG P w K mg base 9 f fd ["_law_script"] (spLaw K) := by
  obtain ⟨fd0, F0⟩ := c.def_ 0 (d := d_is_number) rfl
  have D0 : Df K mg "is_number" s_is_number := ⟨_, _, F0, He.glo_ok X G (c.fact 0 (f := .glo "is_number") rfl)⟩
  obtain ⟨fd1, F1⟩ := c.def_ 1 (d := d_common_divisor) rfl
  have D1 : Df K mg "common_divisor" s_common_divisor := ⟨_, _, F1, He.glo_ok X G (c.fact 1 (f := .glo "common_divisor") rfl)⟩
  obtain ⟨fd2, F2⟩ := c.def_ 2 (d := d_is_fraction) rfl
  have D2 : Df K mg "is_fraction" s_is_fraction := ⟨_, _, F2, He.glo_ok X G (c.fact 2 (f := .glo "is_fraction") rfl)⟩
  obtain ⟨fd3, F3⟩ := c.def_ 3 (d := d_l_feed) rfl
  have D3 : Df K mg "_law_feed" s_l_feed := ⟨_, _, F3, He.glo_ok X G (c.fact 3 (f := .glo "_law_feed") rfl)⟩
  obtain ⟨fd4, F4⟩ := c.def_ 4 (d := d_l_draw) rfl
  have D4 : Df K mg "_law_draw" s_l_draw := ⟨_, _, F4, He.glo_ok X G (c.fact 4 (f := .glo "_law_draw") rfl)⟩
  obtain ⟨fd5, F5⟩ := c.def_ 5 (d := d_l_wide) rfl
  have D5 : Df K mg "_law_wide" s_l_wide := ⟨_, _, F5, He.glo_ok X G (c.fact 5 (f := .glo "_law_wide") rfl)⟩
  obtain ⟨fd6, F6⟩ := c.def_ 6 (d := d_l_size) rfl
  have D6 : Df K mg "_law_size" s_l_size := ⟨_, _, F6, He.glo_ok X G (c.fact 6 (f := .glo "_law_size") rfl)⟩
  obtain ⟨fd7, F7⟩ := c.def_ 7 (d := d_l_top) rfl
  have D7 : Df K mg "_law_top" s_l_top := ⟨_, _, F7, He.glo_ok X G (c.fact 7 (f := .glo "_law_top") rfl)⟩
  obtain ⟨fd8, F8⟩ := c.def_ 8 (d := d_l_common) rfl
  have D8 : Df K mg "_law_common" s_l_common := ⟨_, _, F8, He.glo_ok X G (c.fact 8 (f := .glo "_law_common") rfl)⟩
  obtain ⟨fd9, F9⟩ := c.def_ 9 (d := d_l_lowest) rfl
  have D9 : Df K mg "_law_lowest" s_l_lowest := ⟨_, _, F9, He.glo_ok X G (c.fact 9 (f := .glo "_law_lowest") rfl)⟩
  obtain ⟨fd10, F10⟩ := c.def_ 10 (d := d_l_odd) rfl
  have D10 : Df K mg "_law_odd" s_l_odd := ⟨_, _, F10, He.glo_ok X G (c.fact 10 (f := .glo "_law_odd") rfl)⟩
  obtain ⟨fd11, F11⟩ := c.def_ 11 (d := d_l_bent) rfl
  have D11 : Df K mg "_law_bent" s_l_bent := ⟨_, _, F11, He.glo_ok X G (c.fact 11 (f := .glo "_law_bent") rfl)⟩
  obtain ⟨fd12, F12⟩ := c.def_ 12 (d := d_l_is_whole) rfl
  have D12 : Df K mg "_law_is_whole" s_l_is_whole := ⟨_, _, F12, He.glo_ok X G (c.fact 12 (f := .glo "_law_is_whole") rfl)⟩
  obtain ⟨fd13, F13⟩ := c.def_ 13 (d := d_l_is_fraction) rfl
  have D13 : Df K mg "_law_is_fraction" s_l_is_fraction := ⟨_, _, F13, He.glo_ok X G (c.fact 13 (f := .glo "_law_is_fraction") rfl)⟩
  obtain ⟨fd14, F14⟩ := c.def_ 14 (d := d_law) rfl
  have D14 : Df K mg "law" s_law := ⟨_, _, F14, He.glo_ok X G (c.fact 14 (f := .glo "law") rfl)⟩
  have B : Bn mg := ⟨He.free_ok X G (c.fact 15 (f := .free "isinstance") rfl), He.free_ok X G (c.fact 16 (f := .free "int") rfl), He.free_ok X G (c.fact 17 (f := .free "bool") rfl), He.free_ok X G (c.fact 18 (f := .free "abs") rfl), He.free_ok X G (c.fact 19 (f := .free "tuple") rfl), He.free_ok X G (c.fact 20 (f := .free "len") rfl), He.free_ok X G (c.fact 21 (f := .free "range") rfl), He.free_ok X G (c.fact 22 (f := .free "list") rfl), He.free_ok X G (c.fact 23 (f := .free "str") rfl), He.free_ok X G (c.fact 24 (f := .free "repr") rfl), He.free_ok X G (c.fact 25 (f := .free "max") rfl)⟩
  have e := hfa.symm.trans (He.glo_ok X G (c.fact 14 (f := .glo "law") rfl))
  cases e
  have b := FunD.bindsA (ps := ["_law_script"]) F14 fun _ _ _ _ _ _ us hl => match us, hl with | [_], _ => rfl
  refine ⟨fd14, fun s v => b s [v] rfl, fun base _ _ => ?_⟩
  have H0 := ok_is_number (P := P) (w := w) (base := base) D0 B
  have H1 := ok_common_divisor (P := P) (w := w) (base := base) D1 B
  have H3 := ok_l_feed (P := P) (w := w) (base := base) D3 B
  have H4 := ok_l_draw (P := P) (w := w) (base := base) D4 B
  have H8 := ok_l_common (P := P) (w := w) (base := base) D8 B
  have H12 := ok_l_is_whole (P := P) (w := w) (base := base) D12 B
  have H2 := ok_is_fraction (P := P) (w := w) (base := base) D2 B (h_is_number := H0) (h_common_divisor := H1)
  have H5 := ok_l_wide (P := P) (w := w) (base := base) D5 B (h_l_draw := H4)
  have H9 := ok_l_lowest (P := P) (w := w) (base := base) D9 B (h_l_common := H8)
  have H10 := ok_l_odd (P := P) (w := w) (base := base) D10 B (h_l_draw := H4)
  have H13 := ok_l_is_fraction (P := P) (w := w) (base := base) D13 B (h_l_is_whole := H12) (h_l_common := H8)
  have H6 := ok_l_size (P := P) (w := w) (base := base) D6 B (h_l_draw := H4) (h_l_wide := H5)
  have H7 := ok_l_top (P := P) (w := w) (base := base) D7 B (h_l_size := H6) (h_l_draw := H4)
  have H11 := ok_l_bent (P := P) (w := w) (base := base) D11 B (h_l_draw := H4) (h_l_odd := H10)
  exact ok_law nk F14 B (h_l_feed := H3) (h_l_lowest := H9) (h_l_bent := H11) (h_l_draw := H4) (h_l_top := H7) (h_l_is_fraction := H13) (h_l_size := H6) (h_l_odd := H10) (h_is_fraction := H2)
end K01
open PySem PySem.W PySem.Calls PyProof.Rows
set_option maxRecDepth 100000 in
set_option maxHeartbeats 0 in
theorem PySem.Challenge.cw_stepforms_k01_what_is_a_fraction_holds : PySem.Challenge.rw_stepforms_k01_what_is_a_fraction.Holds := by
  w_on; o_law
  refine HandSHeadRun.head_any (r := OpenLaw.row PySem.Challenge.rw_stepforms_k01_what_is_a_fraction)
    (q := view (OpenLaw.row PySem.Challenge.rw_stepforms_k01_what_is_a_fraction).prog [16]) (H := K01.hk) (ob := K01.ob)
    (M := 2000) (loose := K01.loose) (d := HandSHeadRun.topDef (OpenLaw.row PySem.Challenge.rw_stepforms_k01_what_is_a_fraction).prog 16)
    (kwd := []) K01.ob_eq (by kernel_rfl) (fun s => by kernel_rfl) K01.run (by kernel_rfl) (by kernel_rfl)
    (by kernel_rfl) (by rfl) (by first | assumption | decide +kernel) (by decide +kernel)
    ⟨rfl, rfl, rfl, rfl, rfl, by decide +kernel⟩ ?hw ?hc
  case hw => w_witness2
  case hc =>
    refine Gd.walkG (l := PySem.Challenge.rw_stepforms_k01_what_is_a_fraction) (n := 63) (k := 9) (x := "_law_script") rfl
      (by decide) (by kernel_rfl) ⟨rfl, by decide, by decide⟩ ?F
    intro w mg fa h Y G hmg0
    obtain ⟨K, KX, c, nk⟩ := Y
    have hmg : mg ("law" : PySem.Str) = some (.ref fa) := by
      have e : (HandSHeadRun.topDef (OpenLaw.row PySem.Challenge.rw_stepforms_k01_what_is_a_fraction).prog 16).name = ("law" : PySem.Str) := by
        kernel_rfl
      rw [← e]
      exact hmg0
    obtain ⟨fd, hb, hF⟩ := K01.facts (P := (PySem.Challenge.rw_stepforms_k01_what_is_a_fraction).prog) (w := w) KX G hmg c nk
    exact ⟨K, fd, K01.spLaw K, KX, hb,
      fun H a ns hl _ hS => ⟨a, ns, rfl, hS, hl, fun _ => rfl⟩, hF⟩
