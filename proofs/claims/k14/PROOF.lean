import PyProof.Rows.All
import Wide.All
import OpenK.AllK
import Wide.FinOn
import KE.DatumIndex
import KE.GoesEnum
import KE.GoesMore
import PyProof.ReprRoads
import PyProof.ReprLen
import PyProof.StrLawsRepr
import HandS.ForMost
import HandS.WordsExc
import HandS.Wide
import HandS.Evl
import HandS.Style
import HandS.IsInst
import HandS.Conv
import HandS.Zip
import HandS.Rev
import HandS.TupMul
import HandS.TupAny
import HandS.TupLe
import HandS.Defaults
import HandS.DictComp
import HandS.TupSets
import HandS.WideBits
import PyProof.StrReplace2
import HandS.Head0
import HandS.Head1
import HandS.Head2
import HandS.HeadEnd
import HandS.HeadHook1
import HandS.HeadHook2
import PySem.Challenge.RW_stepforms_k14_whole_corners
set_option Elab.async false
set_option linter.all false
set_option maxRecDepth 100000
set_option maxHeartbeats 4000000
namespace Gd
open PySem PySem.Spec PyProof.Rows L2
/-- a def that is called where no repr is under way -/
structure FnG (P : Program) (w : World) (K : PySem.W.Frag) (mg : Str → Option Value)
    (base : Heap) (k : Nat) (f : Addr) (fd : FuncData) (ps : List Str) (sp : Sp) : Prop where
  len : ∀ vs H Q E, sp vs H Q E → vs.length = ps.length
  go : ∀ (A : Around) (outer : List Env) (s : Shared) (H : Hp) (args : Args)
    (us : List Value) (vs : List V) (Q : VK) (E : XK),
    A.guards = some [] → Room k A → Env0 P w K mg base A outer s H →
    BindsTo s fd args (ps.zip us) → Vals vs us → sp vs H Q E →
    codeAny (model P w) A (.call (.ref f) args) (CR CX0 outer P w H s Q E) s
theorem guards_deeper {A : Around} {env : Env} (h : A.guards = some []) :
    (A.deeper env).guards = some [] := by
  first
    | exact h
    | (unfold Around.deeper; exact h)
    | simp [Around.deeper, h]
section
variable {P : Program} {w : World} {K : PySem.W.Frag} {mg : Str → Option Value} {base : Heap}
  {x qual : Str} {params : Arguments} {body : List Stmt} {scope : Scope} {dvs : List V}
  {kws : List (Str × V)} {f : Addr} {fd : FuncData}
/-- such a def by its body; the body knows that no repr is under way -/
theorem okG {N ps : List Str} {k : Nat} {sp : Sp}
    (F : FunD K x qual params body scope dvs kws f fd) (S : FnScope N ps scope)
    (len : ∀ vs H Q E, sp vs H Q E → vs.length = ps.length)
    (hbody : ∀ (cdv : Value) (A : Around) (outer : List Env) (s : Shared) (H : Hp)
      (vs : List V) (Q : VK) (E : XK),
      (A.deeper (envOfC qual scope s.heap.objs.size f cdv)).guards = some [] →
      Room k (A.deeper (envOfC qual scope s.heap.objs.size f cdv)) → sp vs H Q E →
      ∃ t, PSs (cxOf CX0 P w K mg base N qual scope f cdv A outer s H E) body t ∧
        t { nx := fun _ H' => Q .non H', rt := Q } (start N vs) H) :
    FnG P w K mg base (k + 1) f fd ps sp := by
  obtain ⟨oc, od, dV, kV, doc, pm, an, cdv, ct, osl, rfl, hat, hcode, _, _⟩ := F.ex
  refine ⟨len, ?_⟩
  intro A outer s H args us vs Q E hG room env bind rel want
  have kin : K.In s.heap :=
    env.mod.kin.keeps (fun b o e => (env.bs b o e).1)
  have nolim : s.heap.NoLimit :=
    env.mod.nolimit.keeps (fun b o e => (env.bs b o e).1)
  refine codeAny_call_function room.depth (kin _ _ hat) rfl S.co S.gen rfl
    (PySem.W.codeRec_of kin hcode) (bind _ _ _ _ ?_)
  refine wpAny_newFunctionEnv_cells S.kind ?_ ?_
  · rintro ⟨n, v⟩ hy
    cases S.par n (List.of_mem_zip hy).1 with
    | inl q => exact Or.inl q
    | inr q => exact Or.inr ⟨q, PySem.W.cellsFrom_some _ _ _ (.inl q)⟩
  · intro en he s1 made
    subst he
    refine ⟨nolim.keeps made.toInCall.keep, codeAny_func ?_⟩
    obtain ⟨t, derived, told⟩ :=
      hbody cdv A outer s H vs Q E (guards_deeper hG) (room.deeper _) want
    have inv0 := inv_start (CX := CX0) (E := E) S room.hd env (len _ _ _ _ want) rel made
    refine wpAny_mono (derived.run [] s1 (start N vs) H _ inv0 told) ?_ (fun _ _ z => z)
    intro fl s' hs
    cases fl with
    | brk => exact False.elim hs.choose_spec.choose_spec.2
    | cont => exact False.elim hs.choose_spec.choose_spec.2
    | next =>
      obtain ⟨_, H', J, q⟩ := hs
      exact ⟨.non, H', J.os, J.bare, J.base, J.hok, rfl, q⟩
    | ret u =>
      obtain ⟨v, _, H', J, rv, q⟩ := hs
      exact ⟨v, H', J.os, J.bare, J.base, J.hok, rv, q⟩
end
section
variable {X : Cx} {k : Nat} {f : Addr} {fd : FuncData} {ps : List Str} {sp : Sp}
  {E : XK} {x : Str} {p pos : Pos} {e : Expr} {es : List Expr} {t : TA}
/-- the call of such a def from a body that knows the same -/
theorem pe_callG (F : FnG X.prog X.w X.K X.mg X.base k f fd ps sp)
    (hG : X.A.guards = some []) (hr : Room k X.A) (hg : Gl X x)
    (hm : X.mg x = some (.ref f)) (hk : PySem.W.keepIn X.K (.ref f) = true)
    (hb : Binds X.K fd ps []) (ha : PA X (e :: es) t)
    (hdb : (x == ("__debug__" : Str)) = false := by decide)
    (he : starEach (e :: es) X.env = (false, eval e X.env) :: starEach es X.env := by rfl)
    (hpl : (backTo pos (starEach es X.env)).any (·.1) = false := by rfl) :
    PE X (.Call (.Name x p) (e :: es) [] pos) (tCall sp [] E0 t) := by
  constructor
  intro pins s σ H Q I h
  refine wpAny_Call_Name_kw (ld_glob I hg hm ?_ hdb)
  refine PySem.W.callWith_K (h₀ := X.base) I.ok.mod.kin hk (thn (ha.run pos pins s σ H _ I h) ?_) he hpl
  rintro us s1 ⟨vs, H1, I1, r, q⟩
  refine ⟨I1.kIn, ?_⟩
  have q' : sp (vs ++ []) H1 Q E0 := q
  rw [List.append_nil] at q'
  have hl : (us ++ []).length = ps.length := by
    rw [List.append_nil, ← r.length]
    exact F.len _ _ _ _ q'
  have hbb := hb s1 us I1.kIn hl
  rw [List.append_nil] at hbb
  refine wpAny_call (codeAny_mono (F.go X.A X.stack s1 H1 ⟨us, []⟩ us vs Q E0 hG hr I1.env0 hbb r q') ?_)
  intro r s' hq
  cases r with
  | error e => exact False.elim hq
  | ok fl =>
    cases fl with
    | next => exact False.elim hq
    | brk => exact False.elim hq
    | cont => exact False.elim hq
    | ret u => exact I1.after hq
end
section
variable {X : Cx}
/-- repr of data -/
def rRepr (K : PySem.W.Frag) : List V → Hp → VK → Prop := fun vs H Q =>
  ∃ (a : Addr) (d : PyData), vs = [.ref a] ∧ Dp K H (.ref a) d ∧ d.showable = true ∧
    d.hasDict = false ∧ d.depth ≤ 60 ∧ d.shown.length ≤ sizeLine ∧ Q (.str d.shown) H
theorem call_repr (hG : X.A.guards = some []) (hu : X.A.units + 64 < cLine) :
    CallR X (.builtin "repr") (rRepr X.K) := by
  intro pins s σ H xs us Q I r h
  obtain ⟨a, d, rfl, hd, hs, hn, hdp, hz, q⟩ := h
  have hu1 := Vals.ref1 r
  rw [hu1]
  obtain ⟨as, rd⟩ := Dp.reads I d _ _ hd (show RelV (.ref a) (.ref a) from rfl)
  refine repr_of_reads' rd hs (fun e => by rw [hn] at e; cases e) hG (by omega) (fun _ _ e => e) ?_ hz
  intro h' u tk hk
  exact ⟨.str d.shown, H, I.kept hk, ⟨u, rfl⟩, q⟩
/-- floor division by any great divisor but 0 -/
def CDivA (_ j : Int) : Prop := j ≠ 0 ∧ j.natAbs.log2 < 9000
theorem op_fdivA : OpR X (binaryOp .FloorDiv) (rI CDivA fun i j => .int (i.fdiv j)) :=
  opI fun i j _ _ _ _ _ hc q =>
    floordiv_int hc.1 q (.inl (PyProof.noPylong_of_log2 hc.2))
end
end Gd
namespace Gd
open PySem PySem.Spec PyProof.Rows L2
section
variable {P : Program} {w : World} {K : PySem.W.Frag} {mg mb : Str → Option Value}
  {k : Nat} {fa a : Addr} {fd : FuncData} {x : Str} {sp : Sp} {s : Shared}
  {vs : List Value} {ns : List Int}
/-- the abstract heap of a law's entry tracks the script alone -/
theorem law_coreG (kin : K.In s.heap) (hns : s.heap.Ns mainGlobals mg)
    (hb : s.heap.Ns builtinsNs mb) (hbb : ∀ x : Str, x ≠ "__name__" → mb x = bootBuiltins x)
    (hlim : s.heap.NoLimit) (hgens : s.gens = #[])
    (hat : s.heap.get? a = some { cls := .type "list", data := .seq vs.toArray })
    (hr : Room k callerA)
    (F : ∀ base : Heap, K.In base → base.Ns mainGlobals mg → FnG P w K mg base k fa fd [x] sp)
    (hbind : ∀ (s : Shared) (u : Value), BindsTo s fd ⟨[u], []⟩ [(x, u)])
    (H : Hp) (hO : Only H) (hok : HOk P w H s.heap) (hA : ∀ b, H b ≠ none → b = a)
    (hK : H a ≠ none → K.lookup a = none)
    (hsp : sp [.ref a] H (fun v _ => v = .bl true) E0) :
    codeAny (model P w) callerA (.call (.ref fa) ⟨[.ref a], []⟩)
      (fun r s' => r = .ok (.ret (.bool true)) ∧ OldK s.heap s'.heap ∧ s'.os = s.os ∧
        AllBare s'.gens) s := by
  have free_of : ∀ b : Addr, b ≠ a → H b = none := by
    intro b hb
    cases q : H b with
    | none => rfl
    | some u => exact absurd (hA b (by rw [q]; exact Option.some_ne_none u)) hb
  have dictFree : ∀ {b : Addr} {o : Obj} {es : Array DictEntry} {ep : Nat},
      s.heap.get? b = some o → o.data = .dict es ep → H b = none := by
    intro b o es ep e d
    refine free_of b ?_
    rintro rfl
    rw [hat] at e
    cases e
    cases d
  have nsHid : ∀ {b : Addr} {m : Str → Option Value},
      s.heap.Ns b m → (hidT s.heap H).Ns b m := by
    rintro b m ⟨o, es, ep, e, d, r⟩
    exact ⟨o, es, ep, hidT_get e (dictFree e d), d, r⟩
  have kinHid : K.In (hidT s.heap H) := by
    intro b o e
    refine hidT_get (kin b o e) ?_
    by_cases h : b = a
    · subst h
      cases q : H b with
      | none => rfl
      | some u =>
        rw [hK (by rw [q]; exact Option.some_ne_none u)] at e
        cases e
    · exact free_of b h
  obtain ⟨mc, hl1, hl2⟩ := hlim
  have modHid : Mod K mg (hidT s.heap H) :=
    ⟨kinHid, nsHid hns, ⟨mb, nsHid hb, hbb⟩, ⟨mc, nsHid hl1, hl2⟩⟩
  have env : Env0 P w K mg (hidT s.heap H) callerA [] s H := by
    refine ⟨rfl, modHid, fun b o e => of_hidT e, Nat.le_of_eq (hidT_size _ _), trivial, ?_, hok, .of_eq hgens⟩
    intro b hb
    cases hb
  have run := (F _ kinHid (nsHid hns)).go callerA [] s H ⟨[.ref a], []⟩ [.ref a] [.ref a] _ _
    rfl hr env (hbind s (.ref a)) (.cons rfl .nil) hsp
  refine codeAny_mono run ?_
  intro r s' h
  cases r with
  | error e => exact False.elim h
  | ok fl =>
    cases fl with
    | next => exact False.elim h
    | brk => exact False.elim h
    | cont => exact False.elim h
    | ret u =>
      obtain ⟨v, H', os, bare, un, hok', rel, rfl⟩ := h
      cases rel
      refine ⟨rfl, OldK.of_keep ?_, os, bare⟩
      intro b o e
      cases q : H b with
      | none => exact un.keep b o e q (fun z => by cases z) (fun z => by cases z)
      | some u =>
        rcases hO b with z | ⟨ob, xs, z⟩
        · rw [q] at z
          cases z
        · have e1 := (hok b _ z).1
          have e2 := (hok' b _ (un.frzs b ob _ z)).1
          rw [e] at e1
          cases e1
          exact e2
theorem law_goG (kin : K.In s.heap) (hns : s.heap.Ns mainGlobals mg)
    (hb : s.heap.Ns builtinsNs mb) (hbb : ∀ x : Str, x ≠ "__name__" → mb x = bootBuiltins x)
    (hlim : s.heap.NoLimit) (hgens : s.gens = #[])
    (hat : s.heap.get? a = some { cls := .type "list", data := .seq vs.toArray })
    (hi : IntsAre vs ns) (hl : ns.length ≤ sizeLine) (hr : Room k callerA)
    (F : ∀ base : Heap, K.In base → base.Ns mainGlobals mg → FnG P w K mg base k fa fd [x] sp)
    (hbind : ∀ (s : Shared) (u : Value), BindsTo s fd ⟨[u], []⟩ [(x, u)])
    (hsp : ∀ H : Hp, Only H → SqL K H a (ns.map V.int) →
      sp [.ref a] H (fun v _ => v = .bl true) E0) :
    codeAny (model P w) callerA (.call (.ref fa) ⟨[.ref a], []⟩)
      (fun r s' => r = .ok (.ret (.bool true)) ∧ OldK s.heap s'.heap ∧ s'.os = s.os ∧
        AllBare s'.gens) s := by
  have rel := vals_ints hi
  have lenEq := hi.length
  cases hk : K.lookup a with
  | some o =>
    have e := kin a o hk
    rw [hat] at e
    cases e
    have hO : Only (fun _ => none) := fun _ => Or.inl rfl
    have hS : SqL K (fun _ => none) a (ns.map V.int) :=
      Or.inr ⟨_, vs.toArray, _, hk, rfl, rfl, rfl,
        by rw [List.size_toArray, lenEq]; exact hl, by simpa using rel⟩
    exact law_coreG kin hns hb hbb hlim hgens hat hr F hbind _ hO
      (fun b u z => nomatch z) (fun b z => absurd rfl z) (fun z => absurd rfl z) (hsp _ hO hS)
  | none =>
    let H : Hp := fun b => if b = a then
      some (.frz { cls := .type "list", data := .seq vs.toArray } (.lst (ns.map V.int))) else none
    have at_a : H a = some (.frz { cls := .type "list", data := .seq vs.toArray }
      (.lst (ns.map V.int))) := if_pos rfl
    have off : ∀ b, b ≠ a → H b = none := fun b h => if_neg h
    have hO : Only H := by
      intro b
      by_cases h : b = a
      · subst h
        exact Or.inr ⟨_, _, at_a⟩
      · exact Or.inl (off b h)
    have hS : SqL K H a (ns.map V.int) := Or.inl (Or.inr ⟨_, at_a⟩)
    refine law_coreG kin hns hb hbb hlim hgens hat hr F hbind H hO ?_ ?_ (fun _ => hk) (hsp H hO hS)
    · intro b u z
      by_cases h : b = a
      · subst h
        rw [at_a] at z
        cases z
        exact ⟨hat, by rw [List.length_map]; exact hl, vs, _, rel, hat⟩
      · rw [off b h] at z
        cases z
    · intro b z
      by_cases h : b = a
      · exact h
      · exact absurd (off b h) z
end
/-- a law's end -/
theorem walkG {l : PySem.W.OpenLaw} {n k : Nat} {q : Program} {loose : List Str}
    {XP : (Str → Option Value) → Heap → Prop} {YP : World → Heap → Prop} {d : DefRec} {x : Str}
    (hn : l.most = some n) (hn2 : n ≤ sizeLine) (hdf : d.params.defaults = [])
    (hr : Room k callerA)
    (F : ∀ (w : World) (mg : Str → Option Value) (fa : Addr) (h : Heap), YP w h →
      h.Ns mainGlobals mg → mg d.name = some (.ref fa) →
      ∃ (K : PySem.W.Frag) (fd : FuncData) (sp : Sp), K.In h ∧
        (∀ (s : Shared) (u : Value), BindsTo s fd ⟨[u], []⟩ [(x, u)]) ∧
        (∀ (H : Hp) (a : Addr) (ns : List Int), ns.length ≤ n → Only H →
          SqL K H a (ns.map V.int) → sp [.ref a] H (fun v _ => v = .bl true) E0) ∧
        ∀ base : Heap, K.In base → base.Ns mainGlobals mg → FnG l.prog w K mg base k fa fd [x] sp) :
    PySem.W.WalkO q loose XP YP l.row.toRowW d [] (fun f vs => PySem.call f vs) := by
  refine Att.attach_call hn hdf ?_
  intro w s₀ s₁ mg mb fa o pm cd doc a vs ns G Y _ _ _ hmg hobj hints hlen hgens
  obtain ⟨K, fd, sp, kin, hb, hsp, hF⟩ := F w mg fa _ Y G.T.g hmg
  exact law_goG kin G.T.g G.T.b G.T.builtins G.T.nolimit hgens hobj hints
    (Nat.le_trans hlen hn2) hr hF hb (fun H hO hS => hsp H a ns hlen hO hS)
end Gd
namespace Gd
open PySem PySem.Spec PyProof.Rows L2
/-- the def x of the text stands at its name -/
def Df (K : PySem.W.Frag) (mg : Str → Option Value) (x : Str) (st : Stmt) : Prop :=
  ∃ f fd, FunD K x x (defArgs st) (defBody st) (defScope st) [] [] f fd ∧ mg x = some (.ref f)
/-- the def x keeps its promise; the same where no repr is under way -/
def Has (P : Program) (w : World) (K : PySem.W.Frag) (mg : Str → Option Value) (base : Heap)
    (x : Str) (k : Nat) (ps : List Str) (sp : Sp) : Prop :=
  ∃ f fd, FnOk P w K mg base CX0 k f fd ps sp ∧ mg x = some (.ref f) ∧
    PySem.W.keepIn K (.ref f) = true ∧ Binds K fd ps []
def HasG (P : Program) (w : World) (K : PySem.W.Frag) (mg : Str → Option Value) (base : Heap)
    (x : Str) (k : Nat) (ps : List Str) (sp : Sp) : Prop :=
  ∃ f fd, FnG P w K mg base k f fd ps sp ∧ mg x = some (.ref f) ∧
    PySem.W.keepIn K (.ref f) = true ∧ Binds K fd ps []
abbrev BndOk (x : Str) (st : Stmt) (ps : List Str) : Prop :=
  ∀ (kV doc pm : Value) (an : Option Addr) (cdv ct : Value) (us : List Value),
    us.length = ps.length →
    bindArgs (PySem.W.fnOf x x (defArgs st) (defBody st) (defScope st) .none kV doc pm an cdv ct)
      ⟨us, []⟩ = pure (ps.zip us)
section
variable {P : Program} {w : World} {K : PySem.W.Frag} {mg : Str → Option Value} {base : Heap}
  {x : Str} {st : Stmt} {N ps : List Str} {k : Nat} {sp : Sp}
theorem has_of (D : Df K mg x st) (S : FnScope N ps (defScope st)) (hb : BndOk x st ps)
    (len : ∀ vs H Q E, sp vs H Q E → vs.length = ps.length)
    (hbody : ∀ (f : Addr) (cdv : Value) (A : Around) (outer : List Env) (s : Shared) (H : Hp)
      (vs : List V) (Q : VK) (E : XK),
      Room k (A.deeper (envOfC x (defScope st) s.heap.objs.size f cdv)) → sp vs H Q E →
      ∃ t, PSs (cxOf CX0 P w K mg base N x (defScope st) f cdv A outer s H E).nox (defBody st) t ∧
        t { nx := fun _ H' => Q .non H', rt := Q } (start N vs) H) :
    Has P w K mg base x (k + 1) ps sp := by
  obtain ⟨f, fd, F, hm⟩ := D
  refine ⟨f, fd, F.ok S len ?_, hm, F.kp, F.bindsN hb⟩
  intro cdv A outer s H vs Q E hr h
  obtain ⟨t, h1, h2⟩ := hbody f cdv A outer s H vs Q E hr h
  exact ⟨t, PSs.nox h1, h2⟩
theorem hasG_of (D : Df K mg x st) (S : FnScope N ps (defScope st)) (hb : BndOk x st ps)
    (len : ∀ vs H Q E, sp vs H Q E → vs.length = ps.length)
    (hbody : ∀ (f : Addr) (cdv : Value) (A : Around) (outer : List Env) (s : Shared) (H : Hp)
      (vs : List V) (Q : VK) (E : XK),
      (A.deeper (envOfC x (defScope st) s.heap.objs.size f cdv)).guards = some [] →
      Room k (A.deeper (envOfC x (defScope st) s.heap.objs.size f cdv)) → sp vs H Q E →
      ∃ t, PSs (cxOf CX0 P w K mg base N x (defScope st) f cdv A outer s H E).nox (defBody st) t ∧
        t { nx := fun _ H' => Q .non H', rt := Q } (start N vs) H) :
    HasG P w K mg base x (k + 1) ps sp := by
  obtain ⟨f, fd, F, hm⟩ := D
  refine ⟨f, fd, okG F S len ?_, hm, F.kp, F.bindsN hb⟩
  intro cdv A outer s H vs Q E hG hr h
  obtain ⟨t, h1, h2⟩ := hbody f cdv A outer s H vs Q E hG hr h
  exact ⟨t, PSs.nox h1, h2⟩
end
section
variable {X : Cx} {k : Nat} {ps : List Str} {sp : Sp} {x : Str} {p pos : Pos} {e : Expr}
  {es : List Expr} {t : TA}
theorem pe_has (F : Has X.prog X.w X.K X.mg X.base x k ps sp) (hr : Room k X.A) (hg : Gl X x)
    (ha : PA X (e :: es) t) (hdb : (x == ("__debug__" : Str)) = false := by decide)
    (he : starEach (e :: es) X.env = (false, eval e X.env) :: starEach es X.env := by rfl)
    (hpl : (backTo pos (starEach es X.env)).any (·.1) = false := by rfl) :
    PE X (.Call (.Name x p) (e :: es) [] pos) (tCall sp [] E0 t) := by
  obtain ⟨f, fd, G, hm, kp, hb⟩ := F
  exact pe_call G hr hg hm kp hb .nil pass0 ha hdb he hpl
theorem pe_hasG (F : HasG X.prog X.w X.K X.mg X.base x k ps sp) (hG : X.A.guards = some [])
    (hr : Room k X.A) (hg : Gl X x)
    (ha : PA X (e :: es) t) (hdb : (x == ("__debug__" : Str)) = false := by decide)
    (he : starEach (e :: es) X.env = (false, eval e X.env) :: starEach es X.env := by rfl)
    (hpl : (backTo pos (starEach es X.env)).any (·.1) = false := by rfl) :
    PE X (.Call (.Name x p) (e :: es) [] pos) (tCall sp [] E0 t) := by
  obtain ⟨f, fd, G, hm, kp, hb⟩ := F
  exact pe_callG G hG hr hg hm kp hb ha hdb he hpl
end
/-! ### heaps -/
/-- all but what stands at a is as it was -/
def Sb (a : Addr) (H H' : Hp) : Prop := ∀ b o, b ≠ a → H b = some o → H' b = some o
theorem Sb.refl (a : Addr) (H : Hp) : Sb a H H := fun _ _ _ h => h
theorem Sb.trans {a : Addr} {H H1 H2 : Hp} (x : Sb a H H1) (y : Sb a H1 H2) : Sb a H H2 :=
  fun b o n h => y b o n (x b o n h)
theorem Sb.of {a : Addr} {H H1 : Hp} (x : Same H H1) : Sb a H H1 := fun b o _ h => x b o h
theorem Same.new {H : Hp} {p : Addr} {o : HO} (h : H p = none) : Same H (upd H p o) :=
  fun b u e => by rw [upd_ne (ne_of_none e h)]; exact e
/-- an object that H does not know may change -/
theorem Same.mut {H H' : Hp} {p : Addr} {o : HO} (e : Same H H') (h : H p = none) :
    Same H (upd H' p o) := fun a u ha => by
  rw [upd_ne (ne_of_none ha h)]
  exact e a u ha
theorem Sb.mut {a : Addr} {H H' : Hp} {p : Addr} {o : HO} (e : Sb a H H') (h : H p = none) :
    Sb a H (upd H' p o) := fun b u n hb => by
  rw [upd_ne (ne_of_none hb h)]
  exact e b u n hb
theorem Sb.own {a : Addr} {H H' : Hp} {o : HO} (e : Sb a H H') : Sb a H (upd H' a o) :=
  fun b u n hb => by rw [upd_ne n]; exact e b u n hb
theorem Sb.new {a : Addr} {H : Hp} {p : Addr} {o : HO} (h : H p = none) : Sb a H (upd H p o) :=
  Sb.of (Same.new h)
theorem Sb.free {a p : Addr} {H H' : Hp} (e : Sb a H H') (n : p ≠ a) (h : H' p = none) :
    H p = none := by
  cases q : H p with
  | none => rfl
  | some o => rw [e p o n q] at h; cases h
/-- the feed of a law at a: its cells at s (the script's first ones), where it stands, what is left,
how many draws there were (n at most) -/
def Fd (H : Hp) (a s : Addr) (n : Nat) : Prop :=
  ∃ (ns : List Int) (p l c : Int),
    H a = some (.lst [.ref s, .int p, .int l, .int c]) ∧ H s = some (.lst (ns.map V.int)) ∧
    ns.length ≤ 63 ∧ 0 ≤ p ∧ 0 ≤ c ∧ c ≤ (n : Int)
theorem Fd.mono {H : Hp} {a s : Addr} {n m : Nat} (h : Fd H a s n) (e : n ≤ m) : Fd H a s m := by
  obtain ⟨ns, p, l, c, h1, h2, h3, h4, h5, h6⟩ := h
  exact ⟨ns, p, l, c, h1, h2, h3, h4, h5, by omega⟩
theorem Fd.same {H H' : Hp} {a s : Addr} {n : Nat} (h : Fd H a s n) (e : Same H H') : Fd H' a s n := by
  obtain ⟨ns, p, l, c, h1, h2, h3, h4, h5, h6⟩ := h
  exact ⟨ns, p, l, c, e _ _ h1, e _ _ h2, h3, h4, h5, h6⟩
theorem Fd.at {H : Hp} {a s : Addr} {n : Nat} (h : Fd H a s n) : ∃ xs, H a = some (.lst xs) := by
  obtain ⟨ns, p, l, c, h1, _⟩ := h
  exact ⟨_, h1⟩
/-- another object changes -/
theorem Fd.upd {H : Hp} {a s D : Addr} {n : Nat} {o : HO} (h : Fd H a s n) (h1 : D ≠ a) (h2 : D ≠ s) :
    Fd (L2.upd H D o) a s n := by
  obtain ⟨ns, p, l, c, e1, e2, h3, h4, h5, h6⟩ := h
  exact ⟨ns, p, l, c, by rw [upd_ne h1.symm]; exact e1, by rw [upd_ne h2.symm]; exact e2, h3, h4, h5, h6⟩
/-- what is new is none of the feed's -/
theorem Fd.apart {H : Hp} {a s D : Addr} {n : Nat} (h : Fd H a s n) (hD : H D = none) : D ≠ a ∧ D ≠ s := by
  obtain ⟨ns, p, l, c, e1, e2, _⟩ := h
  constructor
  · intro z
    rw [z, e1] at hD
    cases hD
  · intro z
    rw [z, e2] at hD
    cases hD
theorem Fd.tk {H H' : Hp} {a s : Addr} {n : Nat} (h : Fd H a s n) (e : Sb a H H') :
    ∀ b o, (∀ xs, o ≠ .lst xs) → H b = some o → H' b = some o := by
  obtain ⟨xs, hx⟩ := h.at
  intro b o no hb
  refine e b o ?_ hb
  rintro rfl
  rw [hx] at hb
  cases hb
  exact no _ rfl
end Gd
namespace Gd
open PySem PySem.Spec PyProof.Rows L2
/-- data whose repr is known: of this depth at most, its text of so many signs at most -/
def Sh (k n : Nat) (d : PyData) : Prop :=
  d.showable = true ∧ d.hasDict = false ∧ d.depth ≤ k ∧ d.shown.length ≤ n
theorem Sh.mono {k k' n n' : Nat} {d : PyData} (h : Sh k n d) (hk : k ≤ k') (hn : n ≤ n') :
    Sh k' n' d := ⟨h.1, h.2.1, Nat.le_trans h.2.2.1 hk, Nat.le_trans h.2.2.2 hn⟩
theorem Sh.int {i : Int} (h : i.natAbs < 2 ^ 1900) : Sh 0 1901 (.int i) := by
  have hl : i.natAbs.log2 < 1900 := PySem.Flt.log2_lt_of (by decide) h
  refine ⟨?_, ?_, ?_, ?_⟩
  · simp only [PyData.showable, decide_eq_true_eq]
    omega
  · simp only [PyData.hasDict]
  · simp only [PyData.depth]
    omega
  · have e := PySem.int_text_length_le (a := i) (k := 1900) (by decide) hl
    simp only [PyData.shown]
    have e2 := PySem.ofString_length (toString i)
    show (Str.ofString (toString i)).length ≤ 1901
    omega
theorem sh_all {k n : Nat} : ∀ ds : List PyData, (∀ d ∈ ds, Sh k n d) →
    PyData.showableAll ds = true ∧ PyData.hasDictAll ds = false ∧ PyData.depthAll ds ≤ k ∧
    ((PyData.shownAll ds).map (·.length)).sum ≤ ds.length * n ∧ (PyData.shownAll ds).length = ds.length
  | [], _ => by
    refine ⟨?_, ?_, ?_, ?_, ?_⟩
    · simp only [PyData.showableAll]
    · simp only [PyData.hasDictAll]
    · simp only [PyData.depthAll]
      omega
    · simp only [PyData.shownAll, List.map_nil, List.sum_nil, List.length_nil]
      omega
    · simp only [PyData.shownAll, List.length_nil]
  | d :: ds, h => by
    obtain ⟨a1, a2, a3, a4⟩ := h d (List.mem_cons_self ..)
    obtain ⟨b1, b2, b3, b4, b5⟩ := sh_all ds (fun x hx => h x (List.mem_cons_of_mem _ hx))
    refine ⟨?_, ?_, ?_, ?_, ?_⟩
    · simp only [PyData.showableAll, a1, b1, Bool.and_self]
    · simp only [PyData.hasDictAll, a2, b2, Bool.or_self]
    · simp only [PyData.depthAll]
      omega
    · simp only [PyData.shownAll, List.map_cons, List.sum_cons, List.length_cons, Nat.add_mul,
        Nat.one_mul]
      omega
    · simp only [PyData.shownAll, List.length_cons, b5]
theorem Sh.tup {k n m : Nat} {ds : List PyData} (h : ∀ d ∈ ds, Sh k n d) (hl : ds.length ≤ m) :
    Sh (k + 1) (m * (n + 2) + 3) (.tuple ds) := by
  obtain ⟨b1, b2, b3, b4, b5⟩ := sh_all ds h
  refine ⟨?_, ?_, ?_, ?_⟩
  · simp only [PyData.showable, b1]
  · simp only [PyData.hasDict, b2]
  · simp only [PyData.depth]
    omega
  · have e := PySem.tupleText_len_le (PyData.shownAll ds)
    simp only [PyData.shown]
    have e2 : ds.length * n ≤ m * n := Nat.mul_le_mul_right _ hl
    rw [Nat.mul_add]
    omega
theorem Sh.lst {k n m : Nat} {ds : List PyData} (h : ∀ d ∈ ds, Sh k n d) (hl : ds.length ≤ m) :
    Sh (k + 1) (m * (n + 2) + 3) (.list ds) := by
  obtain ⟨b1, b2, b3, b4, b5⟩ := sh_all ds h
  refine ⟨?_, ?_, ?_, ?_⟩
  · simp only [PyData.showable, b1]
  · simp only [PyData.hasDict, b2]
  · simp only [PyData.depth]
    omega
  · have e := PySem.listText_len_le (PyData.shownAll ds)
    simp only [PyData.shown]
    have e2 : ds.length * n ≤ m * n := Nat.mul_le_mul_right _ hl
    rw [Nat.mul_add]
    omega
theorem repr_at {K : PySem.W.Frag} {H : Hp} {a : Addr} {d : PyData} {k n : Nat} {Q : VK}
    (hd : Dp K H (.ref a) d) (hs : Sh k n d) (hk : k ≤ 60) (hn : n ≤ 16000000)
    (q : Q (.str d.shown) H) : rRepr K [.ref a] H Q :=
  ⟨a, d, rfl, hd, hs.1, hs.2.1, Nat.le_trans hs.2.2.1 hk,
    Nat.le_trans hs.2.2.2 (Nat.le_trans hn (by decide)), q⟩
/-- data that are there stay while what is tracked stays -/
theorem sql_same {K : PySem.W.Frag} {H H' : Hp} {a : Addr} {xs : List V} (e : Same H H')
    (h : SqL K H a xs) : SqL K H' a xs := e.seq h
theorem sqt_same {K : PySem.W.Frag} {H H' : Hp} {a : Addr} {xs : List V} (e : Same H H')
    (h : SqT K H a xs) : SqT K H' a xs := by
  rcases h with (h | ⟨o, h⟩) | h
  · exact Or.inl (Or.inl (e _ _ h))
  · exact Or.inl (Or.inr ⟨o, e _ _ h⟩)
  · exact Or.inr h
mutual
theorem Dp.same {K : PySem.W.Frag} {H H' : Hp} (e : Same H H') : ∀ (d : PyData) (v : V),
    Dp K H v d → Dp K H' v d
  | .none, _, h => by cases h; exact .non
  | .bool b, _, h => by cases h; exact .bl b
  | .int i, _, h => by cases h; exact .int i
  | .str x, _, h => by cases h; exact .str x
  | .list ds, _, h => by
    cases h with
    | lst hs ha => exact .lst (sql_same e hs) (DpAll.same e ds _ ha)
  | .tuple ds, _, h => by
    cases h with
    | tup hs ha => exact .tup (sqt_same e hs) (DpAll.same e ds _ ha)
  | .dict _, _, h => by cases h
theorem DpAll.same {K : PySem.W.Frag} {H H' : Hp} (e : Same H H') : ∀ (ds : List PyData)
    (vs : List V), DpAll K H vs ds → DpAll K H' vs ds
  | [], _, h => by cases h; exact .nil
  | d :: ds, _, h => by
    cases h with
    | cons h1 h2 => exact .cons (Dp.same e d _ h1) (DpAll.same e ds _ h2)
end
end Gd
namespace Gd
open PySem PySem.Spec PyProof.Rows L2
theorem tup_mul_one (l : Addr) (items : Array Value) (n : Nat) (dd : Option Addr)
    (sl : Array (Option Value)) (u : Tok) :
    Meets (Builtin.«tuple.__mul__» ⟨[.ref l, .int 1 u], []⟩) (fun _ R s =>
      s.heap.get? l = some { cls := .type "tuple", dict := dd, data := .seq items n, slots := sl } ∧
      R (.ok (.ret (Value.ref l))) s) :=
  .of_wp fun prog w A R s h => by
    obtain ⟨hp, g, d, tk, os⟩ := s
    obtain ⟨hl, h⟩ := h
    have f1 := AutoSeq1.idx_int
    have c1 : (items.isEmpty || (1 : Int) == 1) = true := by simp
    wp_walk using wpAny_loadPart' hl
    all_goals (try (refine wpAny_ite_true (decide_eq_true c1) ?_; wp_walk using wpAny_loadPart' hl))
    all_goals exact ⟨_, rfl, h⟩
theorem tup_mul_none (l : Addr) (items : Array Value) (n : Nat) (dd : Option Addr)
    (sl : Array (Option Value)) (x : Int) (u : Tok) (hx : x ≤ 0) (hx0 : -1000 ≤ x) (hi : items.isEmpty = false) :
    Meets (Builtin.«tuple.__mul__» ⟨[.ref l, .int x u], []⟩) (fun _ R s =>
      s.heap.get? l = some { cls := .type "tuple", dict := dd, data := .seq items n, slots := sl } ∧
      R (.ok (.ret (Value.ref s.heap.objs.size)))
        { s with heap := s.heap.push { cls := Value.type "tuple", data := Data.seq #[] }, toks := s.toks }) :=
  .of_wp fun prog w A R s h => by
    obtain ⟨hp, g, d, tk, os⟩ := s
    obtain ⟨hl, h⟩ := h
    have f1 := AutoSeq1.idx_int
    have c0 : (decide (x < -(2 ^ 63)) || decide (x ≥ 2 ^ 63)) = false := by
      rw [decide_eq_false (by omega), decide_eq_false (by omega)]; rfl
    have c1 : (items.isEmpty || x == 1) = false := by
      rw [hi, Bool.false_or]
      exact beq_eq_false_iff_ne.mpr (by omega)
    have c2 : (decide (x ≤ 0) || items.isEmpty) = true := by
      rw [decide_eq_true hx]; rfl
    wp_walk using wpAny_loadPart' hl
    repeat (first
      | (refine wpAny_ite_false (decide_eq_false (by rw [c0]; exact Bool.false_ne_true)) ?_; wp_walk using wpAny_loadPart' hl)
      | (refine wpAny_ite_false (decide_eq_false (by rw [c1]; exact Bool.false_ne_true)) ?_; wp_walk using wpAny_loadPart' hl)
      | (refine wpAny_ite_true (decide_eq_true c2) ?_; wp_walk using wpAny_loadPart' hl))
    exact ⟨_, rfl, h⟩
section
variable {X : Cx}
/-- t * k of a tuple with items, k small, of either sign -/
def rRepA (K : PySem.W.Frag) : R2 := fun x y H Q => ∃ (l : Addr) (k : Int) (xs : List V),
  x = .ref l ∧ y = .int k ∧ SqT K H l xs ∧ xs ≠ [] ∧ -1000 ≤ k ∧ k ≤ 1000 ∧ xs.length ≤ 1000 ∧
  ∀ (p : Addr) (H' : Hp), Same H H' → SqT K H' p (List.replicate k.toNat xs).flatten → Q (.ref p) H'
theorem op_repA : OpR X (binaryOp .Mult) (rRepA X.K) := by
  intro pins s σ H x y v u Q I rx ry h
  obtain ⟨l, k, xs, rfl, rfl, hT, hne, h1, h2, hz, q⟩ := h
  by_cases hk : 2 ≤ k
  · exact op_repT pins s σ H _ _ v u Q I rx ry ⟨l, k, xs, rfl, rfl, hT, hne, hk, h2, hz,
      fun p np => q p _ (Same.new np) (SqT.of upd_same)⟩
  · cases rx
    obtain ⟨t, rfl⟩ := ry
    obtain ⟨its, r, ⟨⟨cls, dd, data, sl⟩, ho, hc, n, hd⟩, hs⟩ := I.tuple hT
    simp only at hc hd
    subst hc hd
    by_cases hk1 : k = 1
    · subst hk1
      refine wpAny_binaryOp_repeat_ref (T := "tuple") (U := "int") (by decide) ⟨_, ho, rfl⟩
        (fun s' => typeIs_int s' 1 t) noFill_tuple_mul F.fills_int_mul F.slot_int_rmul repeat_tuple
        F.slot_int_index.lookup
        (call_meets F.slot_int_rmul (typeIs_int s 1 t) F.entry_int_rmul (F.args_int_rmul_2 _ _)
          (int_rmul_tuple 1 t l its.toArray n dd sl)
          ⟨ho, rfl, ⟨_, ho, rfl⟩, call_meets F.slot_tuple_mul ⟨_, ho, rfl⟩ F.entry_tuple_mul
            (F.args_tuple_mul_2 _ _) (tup_mul_one l its.toArray n dd sl t) ⟨ho, ?_⟩⟩)
      refine ⟨.ref l, H, I, rfl, q l H (Same.refl H) ?_⟩
      have e : (List.replicate (Int.toNat 1) xs).flatten = xs := by simp
      rw [e]
      exact hT
    · have hi : its.toArray.isEmpty = false := by
        have hle : its.length = xs.length := r.length.symm
        cases its with
        | nil => exact absurd (List.eq_nil_of_length_eq_zero hle.symm) hne
        | cons a b => rfl
      refine wpAny_binaryOp_repeat_ref (T := "tuple") (U := "int") (by decide) ⟨_, ho, rfl⟩
        (fun s' => typeIs_int s' k t) noFill_tuple_mul F.fills_int_mul F.slot_int_rmul repeat_tuple
        F.slot_int_index.lookup
        (call_meets F.slot_int_rmul (typeIs_int s k t) F.entry_int_rmul (F.args_int_rmul_2 _ _)
          (int_rmul_tuple k t l its.toArray n dd sl)
          ⟨ho, rfl, ⟨_, ho, rfl⟩, call_meets F.slot_tuple_mul ⟨_, ho, rfl⟩ F.entry_tuple_mul
            (F.args_tuple_mul_2 _ _) (tup_mul_none l its.toArray n dd sl k t (by omega) h1 hi) ⟨ho, ?_⟩⟩)
      have nf : H s.heap.objs.size = none := I.hok.fresh (Nat.le_refl _)
      refine ⟨.ref s.heap.objs.size, upd H s.heap.objs.size (.tup []), I.laid (t' := s.toks)
        (o := .tup []) (fun b ob q => Heap.get?_push_of_some _ q) (Nat.le_refl _) ?_, rfl, ?_⟩
      · exact ⟨Nat.zero_le _, [], .nil, IsTup.new _ _⟩
      · refine q _ _ (Same.new nf) ?_
        have e : (List.replicate k.toNat xs).flatten = [] := by
          rw [show k.toNat = 0 from by omega]
          rfl
        rw [e]
        exact SqT.of upd_same
end
end Gd
namespace Gd
open PySem PySem.Spec PyProof.Rows L2
/-! ### data of tuples -/
/-- all that is no list is kept -/
def Tk (H H' : Hp) : Prop := ∀ b o, (∀ xs, o ≠ .lst xs) → H b = some o → H' b = some o
theorem Tk.refl (H : Hp) : Tk H H := fun _ _ _ h => h
theorem Tk.trans {H H1 H2 : Hp} (x : Tk H H1) (y : Tk H1 H2) : Tk H H2 :=
  fun b o n h => y b o n (x b o n h)
theorem Tk.of {H H' : Hp} (e : Same H H') : Tk H H' := fun b o _ h => e b o h
theorem Tk.sb {a : Addr} {H H' : Hp} {xs : List V} (ha : H a = some (.lst xs)) (e : Sb a H H') :
    Tk H H' := fun b o n h => by
  refine e b o ?_ h
  rintro rfl
  rw [ha] at h
  cases h
  exact n _ rfl
theorem Tk.lst {H : Hp} {p : Addr} {o : HO} {xs : List V} (h : H p = some (.lst xs)) :
    Tk H (upd H p o) := fun b u n hb => by
  rw [upd_ne ?_]
  · exact hb
  · rintro rfl
    rw [h] at hb
    cases hb
    exact n _ rfl
mutual
/-- no list, no dict within -/
def tupOnly : PyData → Bool
  | .none | .bool _ | .int _ | .str _ => true
  | .tuple ds => tupAll ds
  | .list _ | .dict _ => false
def tupAll : List PyData → Bool
  | [] => true
  | d :: ds => tupOnly d && tupAll ds
end
theorem tupAll_iff : ∀ ds : List PyData, tupAll ds = true ↔ ∀ d ∈ ds, tupOnly d = true
  | [] => by simp [tupAll]
  | d :: ds => by
    simp only [tupAll, Bool.and_eq_true, List.mem_cons, forall_eq_or_imp, tupAll_iff ds]
theorem sqt_tk {K : PySem.W.Frag} {H H' : Hp} {a : Addr} {xs : List V} (e : Tk H H')
    (h : SqT K H a xs) : SqT K H' a xs := by
  rcases h with (h | ⟨o, h⟩) | h
  · exact Or.inl (Or.inl (e _ _ (fun _ z => by cases z) h))
  · exact Or.inl (Or.inr ⟨o, e _ _ (fun _ z => by cases z) h⟩)
  · exact Or.inr h
mutual
theorem Dp.tk {K : PySem.W.Frag} {H H' : Hp} (e : Tk H H') : ∀ (d : PyData) (v : V),
    tupOnly d = true → Dp K H v d → Dp K H' v d
  | .none, _, _, h => by cases h; exact .non
  | .bool b, _, _, h => by cases h; exact .bl b
  | .int i, _, _, h => by cases h; exact .int i
  | .str x, _, _, h => by cases h; exact .str x
  | .list ds, _, t, h => by simp [tupOnly] at t
  | .tuple ds, _, t, h => by
    cases h with
    | tup hs ha => exact .tup (sqt_tk e hs) (DpAll.tk e ds _ (by simpa [tupOnly] using t) ha)
  | .dict _, _, t, h => by simp [tupOnly] at t
theorem DpAll.tk {K : PySem.W.Frag} {H H' : Hp} (e : Tk H H') : ∀ (ds : List PyData)
    (vs : List V), tupAll ds = true → DpAll K H vs ds → DpAll K H' vs ds
  | [], _, _, h => by cases h; exact .nil
  | d :: ds, _, t, h => by
    have t' : tupOnly d = true ∧ tupAll ds = true := by simpa [tupAll] using t
    cases h with
    | cons h1 h2 => exact .cons (Dp.tk e d _ t'.1 h1) (DpAll.tk e ds _ t'.2 h2)
end
theorem dp_tup {K : PySem.W.Frag} {H : Hp} {v : V} {ds : List PyData} (h : Dp K H v (.tuple ds)) :
    ∃ a xs, v = .ref a ∧ SqT K H a xs ∧ DpAll K H xs ds := by
  cases h with
  | tup hs ha => exact ⟨_, _, rfl, hs, ha⟩
theorem dp_lst {K : PySem.W.Frag} {H : Hp} {v : V} {ds : List PyData} (h : Dp K H v (.list ds)) :
    ∃ a xs, v = .ref a ∧ SqL K H a xs ∧ DpAll K H xs ds := by
  cases h with
  | lst hs ha => exact ⟨_, _, rfl, hs, ha⟩
theorem dp_int {K : PySem.W.Frag} {H : Hp} {v : V} {i : Int} (h : Dp K H v (.int i)) : v = .int i := by
  cases h
  rfl
theorem dpa_cons {K : PySem.W.Frag} {H : Hp} {xs : List V} {d : PyData} {ds : List PyData}
    (h : DpAll K H xs (d :: ds)) : ∃ v vs, xs = v :: vs ∧ Dp K H v d ∧ DpAll K H vs ds := by
  cases h with
  | cons h1 h2 => exact ⟨_, _, rfl, h1, h2⟩
theorem dpa_nil {K : PySem.W.Frag} {H : Hp} {xs : List V} (h : DpAll K H xs []) : xs = [] := by
  cases h
  rfl
theorem dpa_ints {K : PySem.W.Frag} {H : Hp} : ∀ (r : List Int) (xs : List V),
    DpAll K H xs (r.map PyData.int) → xs = r.map V.int
  | [], xs, h => dpa_nil h
  | i :: r, xs, h => by
    obtain ⟨v, vs, rfl, h1, h2⟩ := dpa_cons h
    rw [dp_int h1, dpa_ints r vs h2]
    rfl
theorem dpa_len {K : PySem.W.Frag} {H : Hp} : ∀ (ds : List PyData) (xs : List V),
    DpAll K H xs ds → xs.length = ds.length
  | [], xs, h => by rw [dpa_nil h]; rfl
  | d :: ds, xs, h => by
    obtain ⟨v, vs, rfl, _, h2⟩ := dpa_cons h
    simp [dpa_len ds vs h2]
theorem dpa_get {K : PySem.W.Frag} {H : Hp} : ∀ (ds : List PyData) (xs : List V) (i : Nat) (x : V),
    DpAll K H xs ds → xs[i]? = some x → ∃ d, ds[i]? = some d ∧ Dp K H x d
  | [], xs, i, x, h, e => by rw [dpa_nil h] at e; simp at e
  | d :: ds, xs, i, x, h, e => by
    obtain ⟨v, vs, rfl, h1, h2⟩ := dpa_cons h
    cases i with
    | zero =>
      simp at e
      subst e
      exact ⟨d, rfl, h1⟩
    | succ i => exact dpa_get ds vs i x h2 (by simpa using e)
theorem dpa_at {K : PySem.W.Frag} {H : Hp} : ∀ (ds : List PyData) (xs : List V) (i : Nat) (d : PyData),
    DpAll K H xs ds → ds[i]? = some d → ∃ x, xs[i]? = some x ∧ Dp K H x d
  | [], xs, i, d, h, e => by simp at e
  | d0 :: ds, xs, i, d, h, e => by
    obtain ⟨v, vs, rfl, h1, h2⟩ := dpa_cons h
    cases i with
    | zero =>
      simp at e
      subst e
      exact ⟨v, rfl, h1⟩
    | succ i => exact dpa_at ds vs i d h2 (by simpa using e)
theorem dpa_snoc {K : PySem.W.Frag} {H : Hp} : ∀ (ds : List PyData) (xs : List V) (v : V) (d : PyData),
    DpAll K H xs ds → Dp K H v d → DpAll K H (xs ++ [v]) (ds ++ [d])
  | [], xs, v, d, h, e => by rw [dpa_nil h]; exact .cons e .nil
  | d0 :: ds, xs, v, d, h, e => by
    obtain ⟨x, vs, rfl, h1, h2⟩ := dpa_cons h
    exact .cons h1 (dpa_snoc ds vs v d h2 e)
theorem dpa_append {K : PySem.W.Frag} {H : Hp} : ∀ (ds es : List PyData) (xs ys : List V),
    DpAll K H xs ds → DpAll K H ys es → DpAll K H (xs ++ ys) (ds ++ es)
  | [], es, xs, ys, h, e => by rw [dpa_nil h]; exact e
  | d0 :: ds, es, xs, ys, h, e => by
    obtain ⟨x, vs, rfl, h1, h2⟩ := dpa_cons h
    exact .cons h1 (dpa_append ds es vs ys h2 e)
/-! ### rows and tables -/
def rowD (r : List Int) : PyData := .tuple (r.map .int)
def rowsD (rs : List (List Int)) : PyData := .tuple (rs.map rowD)
def tabD (w : Int) (rs : List (List Int)) : PyData := .tuple [.int w, rowsD rs]
theorem ints_tup : ∀ r : List Int, tupAll (r.map .int) = true
  | [] => by simp [tupAll]
  | i :: r => by simp [tupAll, tupOnly, ints_tup r]
theorem rowD_tup (r : List Int) : tupOnly (rowD r) = true := by simp [rowD, tupOnly, ints_tup]
theorem rows_tup : ∀ rs : List (List Int), tupAll (rs.map rowD) = true
  | [] => by simp [tupAll]
  | r :: rs => by simp [tupAll, rowD_tup, rows_tup rs]
theorem rowsD_tup (rs : List (List Int)) : tupOnly (rowsD rs) = true := by simp [rowsD, tupOnly, rows_tup]
theorem tabD_tup (w : Int) (rs : List (List Int)) : tupOnly (tabD w rs) = true := by
  simp [tabD, tupOnly, tupAll, rowsD_tup]
theorem dp_row {K : PySem.W.Frag} {H : Hp} {v : V} {r : List Int} (h : Dp K H v (rowD r)) :
    ∃ p, v = .ref p ∧ SqT K H p (r.map V.int) := by
  obtain ⟨a, xs, rfl, hs, ha⟩ := dp_tup h
  rw [dpa_ints r xs ha] at hs
  exact ⟨a, rfl, hs⟩
theorem dp_rows {K : PySem.W.Frag} {H : Hp} {v : V} {rs : List (List Int)} (h : Dp K H v (rowsD rs)) :
    ∃ p xs, v = .ref p ∧ SqT K H p xs ∧ DpAll K H xs (rs.map rowD) ∧ xs.length = rs.length := by
  obtain ⟨a, xs, rfl, hs, ha⟩ := dp_tup h
  exact ⟨a, xs, rfl, hs, ha, by rw [dpa_len _ _ ha, List.length_map]⟩
theorem dp_tab {K : PySem.W.Frag} {H : Hp} {v : V} {w : Int} {rs : List (List Int)}
    (h : Dp K H v (tabD w rs)) : ∃ p u, v = .ref p ∧ SqT K H p [.int w, u] ∧ Dp K H u (rowsD rs) := by
  obtain ⟨a, xs, rfl, hs, ha⟩ := dp_tup h
  obtain ⟨v1, vs, rfl, h1, h2⟩ := dpa_cons ha
  obtain ⟨v2, vs, rfl, h3, h4⟩ := dpa_cons h2
  rw [dpa_nil h4] at hs
  rw [dp_int h1] at hs
  exact ⟨a, v2, rfl, hs, h3⟩
theorem mk_row {K : PySem.W.Frag} {H : Hp} {p : Addr} {r : List Int} (h : SqT K H p (r.map V.int)) :
    Dp K H (.ref p) (rowD r) := by
  refine .tup h ?_
  clear h
  induction r with
  | nil => exact .nil
  | cons i r ih => exact .cons (.int i) ih
theorem mk_tab {K : PySem.W.Frag} {H : Hp} {p : Addr} {w : Int} {u : V} {rs : List (List Int)}
    (h : SqT K H p [.int w, u]) (hu : Dp K H u (rowsD rs)) : Dp K H (.ref p) (tabD w rs) :=
  .tup h (.cons (.int w) (.cons hu .nil))
theorem rows_at {K : PySem.W.Frag} {H : Hp} {xs : List V} {rs : List (List Int)} {i : Nat} {x : V}
    (h : DpAll K H xs (rs.map rowD)) (e : xs[i]? = some x) :
    rs[i]? = some (rs.getD i []) ∧ Dp K H x (rowD (rs.getD i [])) := by
  obtain ⟨d, h1, h2⟩ := dpa_get _ _ i x h e
  rw [List.getElem?_map] at h1
  cases q : rs[i]? with
  | none => rw [q] at h1; cases h1
  | some r =>
    rw [q] at h1
    cases h1
    have e2 : rs.getD i [] = r := by rw [List.getD_eq_getElem?_getD, q]; rfl
    rw [e2]
    exact ⟨rfl, h2⟩
theorem at_row {r : List Int} {i : Nat} (h : i < r.length) :
    atI (r.map V.int) (i : Int) = some (V.int (r.getD i 0)) := by
  refine atI_nat ?_
  rw [List.getElem?_map, List.getElem?_eq_getElem h, List.getD_eq_getElem?_getD,
    List.getElem?_eq_getElem h]
  rfl
/-! ### comprehensions that change nothing -/
section
variable {K : PySem.W.Frag}
/-- what stands at the list under way: the first i data -/
def Lw (K : PySem.W.Frag) (H : Hp) (f : Nat → PyData) (D : Addr) (i : Nat) (H' : Hp) : Prop :=
  Same H H' ∧ ∃ ys, H' D = some (.lst ys) ∧ DpAll K H' ys ((List.range i).map f)
theorem Lw.start {H : Hp} {f : Nat → PyData} {D : Addr} (h : H D = none) :
    Lw K H f D 0 (upd H D (.lst [])) := ⟨Same.new h, [], upd_same, .nil⟩
theorem Lw.len {H H' : Hp} {f : Nat → PyData} {D : Addr} {i : Nat} (h : Lw K H f D i H') :
    ∃ ys, H' D = some (.lst ys) ∧ ys.length = i := by
  obtain ⟨_, ys, h1, h2⟩ := h
  refine ⟨ys, h1, ?_⟩
  rw [dpa_len _ _ h2, List.length_map, List.length_range]
theorem Lw.turn {H H' H'' : Hp} {f : Nat → PyData} {D : Addr} {i : Nat} {y : V} (hD : H D = none)
    (ht : ∀ j, j ≤ i → tupOnly (f j) = true) (h : Lw K H f D i H') (e : Same H' H'')
    (hy : Dp K H'' y (f i)) (hi : i < 100000) :
    ∃ acc, H'' D = some (.lst acc) ∧ acc.length < sizeLine ∧
      Lw K H f D (i + 1) (upd H'' D (.lst (acc ++ [y]))) := by
  obtain ⟨h0, ys, h1, h2⟩ := h
  have h1' := e _ _ h1
  have hl : ys.length = i := by rw [dpa_len _ _ h2, List.length_map, List.length_range]
  refine ⟨ys, h1', by rw [hl]; exact Nat.lt_trans hi (by decide), Same.mut (h0.trans e) hD, _, upd_same, ?_⟩
  rw [List.range_succ, List.map_append]
  have tk : Tk H'' (upd H'' D (.lst (ys ++ [y]))) := Tk.lst h1'
  refine dpa_snoc _ _ _ _ (DpAll.tk tk _ _ ?_ (DpAll.same e _ _ h2)) (Dp.tk tk _ _ (ht i (Nat.le_refl _)) hy)
  rw [tupAll_iff]
  intro d hd
  obtain ⟨j, hj, rfl⟩ := List.mem_map.mp hd
  exact ht j (Nat.le_of_lt (List.mem_range.mp hj))
end
end Gd
namespace Gd
open PySem PySem.Spec PyProof.Rows L2
section
variable {K : PySem.W.Frag} {te : TE} {vs : List Nat} {σ : L2.St} {H : Hp} {D : Addr} {Qd : Hp → Prop}
theorem tupOnly_le {f : Nat → PyData} {n i : Nat} (ht : ∀ j, j < n → tupOnly (f j) = true) (hi : i < n) :
    ∀ j, j ≤ i → tupOnly (f j) = true := fun j hj => ht j (Nat.lt_of_le_of_lt hj hi)
/-- [e for x in range(n)], e data of tuples that changes nothing -/
theorem lcr {j n : Nat} (f : Nat → PyData) (hD : H D = none) (hn : n ≤ 50000)
    (ht : ∀ i, i < n → tupOnly (f i) = true)
    (hw : ∀ x, wipe ((wipe σ vs).set j (some x)) vs = wipe σ vs)
    (hs : ∀ (i : Nat) (H1 : Hp) (Q : VK), i < n → Same H H1 →
      (∀ y H2, Same H1 H2 → Dp K H2 y (f i) → Q y H2) →
      te ((wipe σ vs).set j (some (.int (0 + (i : Int))))) H1 Q)
    (hd : ∀ H' ys, Same H H' → H' D = some (.lst ys) → DpAll K H' ys ((List.range n).map f) → Qd H') :
    ∃ W : Nat → Nat → Hp → Prop, (∃ m, W 0 m (upd H D (.lst []))) ∧ ∀ i m H, W i m H →
      ((Itr 0 n).stop i H ∧ Qd H) ∨ ((Itr 0 n).go i H ∧ ∃ Nx : Hp → Prop,
        (∀ H', Nx H' → ∃ m', m' < m ∧ W (i + 1) m' H') ∧
        ∀ x H', (Itr 0 n).yld i H x H' → gName j x (wipe σ vs) H' fun σ2 H2 =>
          wipe σ2 vs = wipe σ vs ∧ tYes σ2 H2 fun b H3 =>
            if b = true then te σ2 H3 fun y H4 => ∃ acc, H4 D = some (.lst acc) ∧
              acc.length < sizeLine ∧ Nx (upd H4 D (.lst (acc ++ [y]))) else Nx H3) := by
  refine lc_range (lo := 0) (n := n) (Lw K H f D) (Lw.start hD) ?_ ?_
  · intro i H' hi p
    refine ⟨hw _, ?_⟩
    unfold tYes
    dsimp only
    rw [if_pos rfl]
    exact hs i H' _ hi p.1 fun y H2 e hy => Lw.turn hD (tupOnly_le ht hi) p e hy (by omega)
  · rintro H' ⟨h0, ys, h1, h2⟩
    exact hd H' ys h0 h1 h2
/-- [e for x in t], t a tuple -/
theorem lct {j : Nat} {a : Addr} {xs : List V} (f : Nat → PyData) (hD : H D = none)
    (hx : SqT K H a xs) (hn : xs.length ≤ 50000)
    (ht : ∀ i, i < xs.length → tupOnly (f i) = true)
    (hw : ∀ x, wipe ((wipe σ vs).set j (some x)) vs = wipe σ vs)
    (hs : ∀ (i : Nat) (x : V) (H1 : Hp) (Q : VK), xs[i]? = some x → Same H H1 →
      (∀ y H2, Same H1 H2 → Dp K H2 y (f i) → Q y H2) →
      te ((wipe σ vs).set j (some x)) H1 Q)
    (hd : ∀ H' ys, Same H H' → H' D = some (.lst ys) → DpAll K H' ys ((List.range xs.length).map f) → Qd H') :
    ∃ W : Nat → Nat → Hp → Prop, (∃ m, W 0 m (upd H D (.lst []))) ∧ ∀ i m H, W i m H →
      ((Itt K a).stop i H ∧ Qd H) ∨ ((Itt K a).go i H ∧ ∃ Nx : Hp → Prop,
        (∀ H', Nx H' → ∃ m', m' < m ∧ W (i + 1) m' H') ∧
        ∀ x H', (Itt K a).yld i H x H' → gName j x (wipe σ vs) H' fun σ2 H2 =>
          wipe σ2 vs = wipe σ vs ∧ tYes σ2 H2 fun b H3 =>
            if b = true then te σ2 H3 fun y H4 => ∃ acc, H4 D = some (.lst acc) ∧
              acc.length < sizeLine ∧ Nx (upd H4 D (.lst (acc ++ [y]))) else Nx H3) := by
  refine lc_tup (xs := xs) (Lw K H f D) (Lw.start hD) (fun i H' _ p => sqt_same p.1 hx) ?_ ?_
  · intro i x H' hi p
    have hlt := (List.getElem?_eq_some_iff.mp hi).1
    refine ⟨hw _, ?_⟩
    unfold tYes
    dsimp only
    rw [if_pos rfl]
    exact hs i x H' _ hi p.1 fun y H2 e hy => Lw.turn hD (tupOnly_le ht hlt) p e hy (by omega)
  · rintro H' ⟨h0, ys, h1, h2⟩
    exact hd H' ys h0 h1 h2
/-- [e for x, y in zip(t, u)], tuples of one length -/
theorem lcz {g : TG} {j1 j2 : Nat} {a b : Addr} {xs zs : List V} (f : Nat → PyData) (hD : H D = none)
    (hl : xs.length = zs.length) (hx : SqT K H a xs) (hz : SqT K H b zs) (hn : xs.length ≤ 50000)
    (ht : ∀ i, i < xs.length → tupOnly (f i) = true)
    (hw : ∀ x y, wipe (((wipe σ vs).set j1 (some x)).set j2 (some y)) vs = wipe σ vs)
    (hg : ∀ (T : Addr) (x y : V) (H1 : Hp) (R : L2.St → Hp → Prop), H1 T = some (.tup [x, y]) →
      R (((wipe σ vs).set j1 (some x)).set j2 (some y)) H1 → g (.ref T) (wipe σ vs) H1 R)
    (hs : ∀ (i : Nat) (x y : V) (H1 : Hp) (Q : VK), xs[i]? = some x → zs[i]? = some y → Same H H1 →
      (∀ y H2, Same H1 H2 → Dp K H2 y (f i) → Q y H2) →
      te (((wipe σ vs).set j1 (some x)).set j2 (some y)) H1 Q)
    (hd : ∀ H' ys, Same H H' → H' D = some (.lst ys) → DpAll K H' ys ((List.range xs.length).map f) → Qd H') :
    ∃ W : Nat → Nat → Hp → Prop, (∃ m, W 0 m (upd H D (.lst []))) ∧ ∀ i m H, W i m H →
      ((RZ.ItzT K a b).stop i H ∧ Qd H) ∨ ((RZ.ItzT K a b).go i H ∧ ∃ Nx : Hp → Prop,
        (∀ H', Nx H' → ∃ m', m' < m ∧ W (i + 1) m' H') ∧
        ∀ x H', (RZ.ItzT K a b).yld i H x H' → g x (wipe σ vs) H' fun σ2 H2 =>
          wipe σ2 vs = wipe σ vs ∧ tYes σ2 H2 fun b H3 =>
            if b = true then te σ2 H3 fun y H4 => ∃ acc, H4 D = some (.lst acc) ∧
              acc.length < sizeLine ∧ Nx (upd H4 D (.lst (acc ++ [y]))) else Nx H3) := by
  refine ⟨fun i m H' => m = xs.length - i ∧ i ≤ xs.length ∧ Lw K H f D i H',
    ⟨xs.length, rfl, Nat.zero_le _, Lw.start hD⟩, ?_⟩
  rintro i m H' ⟨rfl, hi, p⟩
  have qx := sqt_same p.1 hx
  have qz := sqt_same p.1 hz
  by_cases hlt : i < xs.length
  · have e1 : xs[i]? = some xs[i] := List.getElem?_eq_getElem hlt
    have hlt2 : i < zs.length := by omega
    have e2 : zs[i]? = some zs[i] := List.getElem?_eq_getElem hlt2
    refine .inr ⟨⟨xs, zs, _, _, qx, qz, e1, e2⟩, Lw K H f D (i + 1),
      fun H2 p2 => ⟨xs.length - (i + 1), by omega, rfl, hlt, p2⟩, ?_⟩
    intro v H2 hy
    obtain ⟨T, x', y', rfl, hT, rfl, f1, f2⟩ := hy
    have eT := Same.new (o := .tup [x', y']) hT
    refine hg T x' y' _ _ upd_same ⟨hw _ _, ?_⟩
    unfold tYes
    dsimp only
    rw [if_pos rfl]
    refine hs i x' y' _ _ (f1 xs qx) (f2 zs qz) (p.1.trans eT) ?_
    intro y H3 e hy
    exact Lw.turn hD (tupOnly_le ht hlt) p (eT.trans e) hy (by omega)
  · have e : i = xs.length := by omega
    subst e
    obtain ⟨h0, ys, h1, h2⟩ := p
    exact .inl ⟨⟨xs, zs, qx, qz, Or.inl (Nat.le_refl _)⟩, hd H' ys h0 h1 h2⟩
end
end Gd
namespace Gd
open PySem PySem.Spec PyProof.Rows L2
/-! ### tables of numbers, reckoned -/
def ent (rs : List (List Int)) (i k : Nat) : Int := (rs.getD i []).getD k 0
def unitRow (n k : Nat) : List Int := (List.range n).map fun c => if c = k then 1 else 0
def unitR (n : Nat) : List (List Int) := (List.range n).map (unitRow n)
def mulRow (r : List Int) (w : Nat) (rs : List (List Int)) : List Int :=
  (List.range w).map fun k => ((List.range r.length).map fun i => r.getD i 0 * ent rs i k).sum
def mulR (rs : List (List Int)) (w : Nat) (ts : List (List Int)) : List (List Int) :=
  (List.range rs.length).map fun i => mulRow (rs.getD i []) w ts
def turnR (w : Nat) (rs : List (List Int)) : List (List Int) :=
  (List.range w).map fun k => (List.range rs.length).map fun i => ent rs i k
/-- a table of this width, not too great -/
def Tb (w : Nat) (rs : List (List Int)) : Prop := rs.length ≤ 1000 ∧ w ≤ 1000 ∧ ∀ r ∈ rs, r.length = w
/-- numbers of less than 64 bits -/
def Sm (r : List Int) : Prop := ∀ x ∈ r, -(2 ^ 64) < x ∧ x < 2 ^ 64
theorem getD_mem {α : Type} {l : List α} {i : Nat} {d : α} (h : i < l.length) : l.getD i d ∈ l := by
  rw [List.getD_eq_getElem?_getD, List.getElem?_eq_getElem h]
  exact List.getElem_mem h
theorem Tb.len {w : Nat} {rs : List (List Int)} (h : Tb w rs) {i : Nat} (hi : i < rs.length) :
    (rs.getD i []).length = w := h.2.2 _ (getD_mem hi)
theorem Sm.at {r : List Int} (h : Sm r) (i : Nat) : -(2 ^ 64) < r.getD i 0 ∧ r.getD i 0 < 2 ^ 64 := by
  by_cases hi : i < r.length
  · exact h _ (getD_mem hi)
  · rw [List.getD_eq_getElem?_getD, List.getElem?_eq_none (by omega)]
    exact ⟨by decide, by decide⟩
theorem at_row0 {r : List Int} {i : Nat} (h : i < r.length) :
    atI (r.map V.int) (0 + (i : Int)) = some (V.int (r.getD i 0)) := by
  rw [Int.zero_add]
  exact at_row h
theorem mk_rowR {K : PySem.W.Frag} {H : Hp} {p : Addr} {ys : List V} {n : Nat} {g : Nat → Int}
    (h : SqT K H p ys) (ha : DpAll K H ys ((List.range n).map fun i => PyData.int (g i))) :
    Dp K H (.ref p) (rowD ((List.range n).map g)) := by
  unfold rowD
  rw [List.map_map]
  exact .tup h ha
theorem mk_rowsR {K : PySem.W.Frag} {H : Hp} {p : Addr} {ys : List V} {n : Nat} {g : Nat → List Int}
    (h : SqT K H p ys) (ha : DpAll K H ys ((List.range n).map fun i => rowD (g i))) :
    Dp K H (.ref p) (rowsD ((List.range n).map g)) := by
  unfold rowsD
  rw [List.map_map]
  exact .tup h ha
theorem intsR {K : PySem.W.Frag} {H : Hp} {ys : List V} {n : Nat} {g : Nat → Int}
    (ha : DpAll K H ys ((List.range n).map fun i => PyData.int (g i))) :
    ys = ((List.range n).map g).map V.int := by
  refine dpa_ints (K := K) (H := H) _ _ ?_
  rw [List.map_map]
  exact ha
theorem row_get {r : List Int} {i : Nat} {x : V} (e : (r.map V.int)[i]? = some x) :
    i < r.length ∧ x = .int (r.getD i 0) := by
  rw [List.getElem?_map] at e
  cases q : r[i]? with
  | none => rw [q] at e; cases e
  | some z =>
    rw [q] at e
    cases e
    refine ⟨(List.getElem?_eq_some_iff.mp q).1, ?_⟩
    rw [List.getD_eq_getElem?_getD, q]
    rfl
theorem rows_lt {K : PySem.W.Frag} {H : Hp} {xs : List V} {rs : List (List Int)} {i : Nat} {x : V}
    (h : DpAll K H xs (rs.map rowD)) (e : xs[i]? = some x) :
    i < rs.length ∧ ∃ p, x = .ref p ∧ SqT K H p ((rs.getD i []).map V.int) := by
  obtain ⟨h1, h2⟩ := rows_at h e
  exact ⟨(List.getElem?_eq_some_iff.mp h1).1, dp_row h2⟩
theorem rows_ix {K : PySem.W.Frag} {H : Hp} {xs : List V} {rs : List (List Int)} {i : Nat}
    (h : DpAll K H xs (rs.map rowD)) (hi : i < rs.length) :
    ∃ p, xs[i]? = some (.ref p) ∧ SqT K H p ((rs.getD i []).map V.int) := by
  have hl : xs.length = rs.length := by rw [dpa_len _ _ h, List.length_map]
  have e : xs[i]? = some xs[i] := List.getElem?_eq_getElem (by omega)
  obtain ⟨_, p, hp, hs⟩ := rows_lt h e
  rw [hp] at e
  exact ⟨p, e, hs⟩
end Gd
namespace Gd
open PySem PySem.Spec PyProof.Rows L2
/-! ### rules that name the written part by its letter -/
section
variable {X : Cx} {K : PySem.W.Frag}
theorem ix_tupK (hK : X.K = K) : IxR X (rIxT K) := by subst hK; exact ix_tup
theorem ix_listK (hK : X.K = K) : IxR X (rIxL K) := by subst hK; exact ix_list
theorem sl_listK (hK : X.K = K) : SlR X (rSlL K) := by subst hK; exact sl_list
theorem sl_tupK (hK : X.K = K) : SlR X (rSlA K) := by subst hK; exact sl_tupA
def rLenK (K : PySem.W.Frag) : List V → Hp → VK → Prop := fun xs H Q =>
  ∃ p ys, xs = [.ref p] ∧ (SqL K H p ys ∨ SqT K H p ys) ∧ Q (.int ys.length) H
theorem call_lenK (hK : X.K = K) : CallR X (.builtin "len") (rLenK K) := by
  subst hK; exact call_len_seq
def rTupleK (K : PySem.W.Frag) : List V → Hp → VK → Prop := fun xs H Q =>
  ∃ p ys, xs = [.ref p] ∧ ((SqL K H p ys ∧ ∀ l, H l = none → Q (.ref l) (upd H l (.tup ys))) ∨
    (SqT K H p ys ∧ Q (.ref p) H))
theorem call_tupleK (hK : X.K = K) : CallR X (.type "tuple") (rTupleK K) := by
  subst hK; exact call_tuple_of
def rListK (K : PySem.W.Frag) : List V → Hp → VK → Prop := fun xs H Q =>
  ∃ p ys, xs = [.ref p] ∧ (SqL K H p ys ∨ SqT K H p ys) ∧
    ∀ l, H l = none → Q (.ref l) (upd H l (.lst ys))
theorem call_listK (hK : X.K = K) : CallR X (.type "list") (rListK K) := by
  subst hK; exact call_list_of
theorem call_sumK (hK : X.K = K) (hc : X.calm = true) : CallR X (.builtin "sum") (rSum K) := by
  subst hK; exact cr_sum hc
theorem op_eqK (hK : X.K = K) (hu : X.A.units + 64 < cLine) : OpR X (compareOp .Eq) (rEqD K) := by
  subst hK; exact op_eqD hu
theorem op_neK (hK : X.K = K) (hu : X.A.units + 64 < cLine) : OpR X (compareOp .NotEq) (rNeD K) := by
  subst hK; exact op_neD hu
theorem op_catK (hK : X.K = K) : OpR X (binaryOp .Add) (rCatA K) := by subst hK; exact op_catA
theorem op_repK (hK : X.K = K) : OpR X (binaryOp .Mult) (rRepA K) := by subst hK; exact op_repA
theorem call_reprK (hK : X.K = K) (hG : X.A.guards = some []) (hu : X.A.units + 64 < cLine) :
    CallR X (.builtin "repr") (rRepr K) := by
  subst hK; exact call_repr hG hu
theorem pi_listK {tg l : Expr} {tl : TE} (hK : X.K = K) (hl : PE X l tl) : PI X tg l (iList K tl) := by
  subst hK; exact pi_list hl
theorem pi_tupK {tg l : Expr} {tl : TE} (hK : X.K = K) (hl : PE X l tl) : PI X tg l (iTup K tl) := by
  subst hK; exact pi_tup hl
theorem pi_zipK {e e2 : Expr} {ta : TA} {p pos tpos : Pos} {elts : List Expr} {kk : Nat}
    (hK : X.K = K) (hg : Gl X "zip") (hm : X.mg "zip" = none) (ha : PA X [e, e2] ta)
    (hs : starEach [e, e2] X.env = (false, eval e X.env) :: starEach [e2] X.env := by rfl)
    (hpl : (backTo pos (starEach [e2] X.env)).any (·.1) = false := by rfl) :
    PI X (.Tuple elts kk tpos) (.Call (.Name "zip" p) [e, e2] [] pos) (RZ.iZipA K ta) := by
  subst hK; exact RZ.pi_zipA hg hm ha hs hpl
theorem pg_tupK {es : List Expr} {k n : Nat} {t : TGs} {pos : Pos} (hK : X.K = K) (hc : X.calm = true)
    (h : PGs X es t) (hn : (assignEach es X.env).length = n := by rfl)
    (hst : (assignEach es X.env).findIdx? (·.1) = none := by rfl) :
    PG X (.Tuple es k pos) (gTup K n t) := by
  subst hK; exact pg_tup hc h hn hst
end
end Gd
namespace Gd
open PySem PySem.Spec PyProof.Rows L2
/-! ### readings told by data -/
section
variable {K : PySem.W.Frag} {H : Hp} {Q : VK} {x y : V} {ds es : List PyData} {d : PyData}
theorem ix_dp {i : Nat} (hx : Dp K H x (.tuple ds)) (hi : ds[i]? = some d)
    (k : ∀ v, Dp K H v d → Q v H) : rIxT K x (.int (i : Int)) H Q := by
  obtain ⟨a, xs, rfl, hs, ha⟩ := dp_tup hx
  obtain ⟨v, hv, hd⟩ := dpa_at _ _ i d ha hi
  exact ⟨a, xs, _, v, rfl, rfl, hs, atI_nat hv, k v hd⟩
theorem ix_dp0 {i : Nat} (hx : Dp K H x (.tuple ds)) (hi : ds[i]? = some d)
    (k : ∀ v, Dp K H v d → Q v H) : rIxT K x (.int (0 + (i : Int))) H Q := by
  rw [Int.zero_add]
  exact ix_dp hx hi k
theorem ix_dpI {i : Int} {j : Nat} (hj : i = (j : Int)) (hx : Dp K H x (.tuple ds)) (hi : ds[j]? = some d)
    (k : ∀ v, Dp K H v d → Q v H) : rIxT K x (.int i) H Q := by
  rw [hj]
  exact ix_dp hx hi k
theorem len_dp (hx : Dp K H x (.tuple ds)) (k : Q (.int (ds.length : Int)) H) : rLenK K [x] H Q := by
  obtain ⟨a, xs, rfl, hs, ha⟩ := dp_tup hx
  refine ⟨a, xs, rfl, .inr hs, ?_⟩
  rw [dpa_len _ _ ha]
  exact k
theorem cat_dp (hx : Dp K H x (.tuple ds)) (hy : Dp K H y (.tuple es))
    (hl : ds.length + es.length ≤ 100000)
    (k : ∀ v H', Same H H' → Dp K H' v (.tuple (ds ++ es)) → Q v H') : rCatA K x y H Q := by
  obtain ⟨a, xs, rfl, hs, ha⟩ := dp_tup hx
  obtain ⟨b, ys, rfl, hs2, hb⟩ := dp_tup hy
  have l1 := dpa_len _ _ ha
  have l2 := dpa_len _ _ hb
  refine ⟨a, b, xs, ys, rfl, rfl, hs, hs2, Nat.le_trans (by omega : _ ≤ 100000) (by decide), ?_, ?_, ?_⟩
  · intro h
    subst h
    have e : ds = [] := List.eq_nil_of_length_eq_zero (by rw [← l1]; rfl)
    subst e
    exact k _ _ (Same.refl H) (.tup hs2 hb)
  · intro _ h
    subst h
    have e : es = [] := List.eq_nil_of_length_eq_zero (by rw [← l2]; rfl)
    subst e
    exact k _ _ (Same.refl H) (by rw [List.append_nil]; exact .tup hs ha)
  · intro _ _ p np
    have e := Same.new (o := .tup (xs ++ ys)) np
    exact k _ _ e (.tup (SqT.of upd_same) (dpa_append _ _ _ _ (DpAll.same e _ _ ha) (DpAll.same e _ _ hb)))
theorem ints_rep (z : Int) : ∀ n : Nat, (List.replicate n [V.int z]).flatten = (List.replicate n z).map V.int
  | 0 => rfl
  | n + 1 => by
    rw [List.replicate_succ, List.replicate_succ, List.flatten_cons, List.map_cons, ints_rep z n]
    rfl
theorem rep_dp {z k : Int} (hx : Dp K H x (rowD [z])) (h1 : -1000 ≤ k) (h2 : k ≤ 1000)
    (q : ∀ v H', Same H H' → Dp K H' v (rowD (List.replicate k.toNat z)) → Q v H') :
    rRepA K x (.int k) H Q := by
  obtain ⟨p, rfl, hs⟩ := dp_row hx
  refine ⟨p, k, _, rfl, rfl, hs, (by simp), h1, h2, (by simp), ?_⟩
  intro p2 H2 e h
  have h' : SqT K H2 p2 ((List.replicate k.toNat z).map V.int) := by
    rw [← ints_rep]
    exact h
  exact q _ _ e (mk_row h')
theorem tupL_dp {p : Addr} {ys : List V} (h : H p = some (.lst ys)) (ha : DpAll K H ys ds)
    (k : ∀ v H', Same H H' → Dp K H' v (.tuple ds) → Q v H') : rTupleK K [.ref p] H Q := by
  refine ⟨p, ys, rfl, .inl ⟨SqL.of h, fun l nl => ?_⟩⟩
  have e := Same.new (o := .tup ys) nl
  exact k _ _ e (.tup (SqT.of upd_same) (DpAll.same e _ _ ha))
theorem listT_dp (hx : Dp K H x (.tuple ds))
    (k : ∀ l H' ys, H l = none → Same H H' → H' l = some (.lst ys) → DpAll K H' ys ds → Q (.ref l) H') :
    rListK K [x] H Q := by
  obtain ⟨a, xs, rfl, hs, ha⟩ := dp_tup hx
  refine ⟨a, xs, rfl, .inr hs, fun l nl => ?_⟩
  have e := Same.new (o := .lst xs) nl
  exact k l _ xs nl e upd_same (DpAll.same e _ _ ha)
theorem tup_dp {xs : List V} (ha : DpAll K H xs ds) (hl : ds.length ≤ 100000)
    (k : ∀ v H', Same H H' → Dp K H' v (.tuple ds) → Q v H') :
    xs.length ≤ sizeLine ∧ ∀ p, H p = none → Q (.ref p) (upd H p (.tup xs)) := by
  refine ⟨?_, fun p np => ?_⟩
  · rw [dpa_len _ _ ha]
    exact Nat.le_trans hl (by decide)
  · have e := Same.new (o := .tup xs) np
    exact k _ _ e (.tup (SqT.of upd_same) (DpAll.same e _ _ ha))
theorem lst_dp {xs : List V} (ha : DpAll K H xs ds) (hl : ds.length ≤ 100000)
    (k : ∀ l H', H l = none → Same H H' → H' l = some (.lst xs) → DpAll K H' xs ds → Q (.ref l) H') :
    xs.length ≤ sizeLine ∧ ∀ p, H p = none → Q (.ref p) (upd H p (.lst xs)) := by
  refine ⟨?_, fun p np => ?_⟩
  · rw [dpa_len _ _ ha]
    exact Nat.le_trans hl (by decide)
  · have e := Same.new (o := .lst xs) np
    exact k p _ np e upd_same (DpAll.same e _ _ ha)
theorem catL_dp {l b : Addr} {xs zs : List V} (h1 : H l = some (.lst xs)) (h2 : H b = some (.lst zs))
    (ha : DpAll K H xs ds) (hb : DpAll K H zs es) (hl : ds.length + es.length ≤ 100000)
    (k : ∀ p H', H p = none → Same H H' → H' p = some (.lst (xs ++ zs)) → DpAll K H' (xs ++ zs) (ds ++ es) → Q (.ref p) H') :
    rCat (.ref l) (.ref b) H Q := by
  have l1 := dpa_len _ _ ha
  have l2 := dpa_len _ _ hb
  refine ⟨l, b, xs, zs, rfl, rfl, h1, h2, Nat.le_trans (by omega : _ ≤ 100000) (by decide), fun p np => ?_⟩
  have e := Same.new (o := .lst (xs ++ zs)) np
  exact k p _ np e upd_same (dpa_append _ _ _ _ (DpAll.same e _ _ ha) (DpAll.same e _ _ hb))
theorem rows_getD {rs : List (List Int)} {i : Nat} (hi : i < rs.length) :
    (rs.map rowD)[i]? = some (rowD (rs.getD i [])) := by
  rw [List.getElem?_map, List.getElem?_eq_getElem hi, List.getD_eq_getElem?_getD, List.getElem?_eq_getElem hi]
  rfl
theorem row_getD {r : List Int} {i : Nat} (hi : i < r.length) :
    (r.map PyData.int)[i]? = some (.int (r.getD i 0)) := by
  rw [List.getElem?_map, List.getElem?_eq_getElem hi, List.getD_eq_getElem?_getD, List.getElem?_eq_getElem hi]
  rfl
theorem mapR_row {n : Nat} {g : Nat → Int} :
    PyData.tuple ((List.range n).map fun i => PyData.int (g i)) = rowD ((List.range n).map g) := by
  unfold rowD
  rw [List.map_map]
  rfl
theorem mapR_rows {n : Nat} {g : Nat → List Int} :
    PyData.tuple ((List.range n).map fun i => rowD (g i)) = rowsD ((List.range n).map g) := by
  unfold rowsD
  rw [List.map_map]
  rfl
end
end Gd
namespace Gd
open PySem PySem.Spec PyProof.Rows L2
theorem lst_new {K : PySem.W.Frag} {H : Hp} {l : Addr} {xs : List V} {ds : List PyData} (nl : H l = none)
    (ha : DpAll K H xs ds) : ∃ H', upd H l (.lst xs) = H' ∧ Same H H' ∧ H' l = some (.lst xs) ∧ DpAll K H' xs ds :=
  ⟨_, rfl, Same.new nl, upd_same, DpAll.same (Same.new nl) _ _ ha⟩
theorem tup_new {K : PySem.W.Frag} {H : Hp} {l : Addr} {xs : List V} {ds : List PyData} (nl : H l = none)
    (ha : DpAll K H xs ds) : ∃ H', upd H l (.tup xs) = H' ∧ Same H H' ∧ Dp K H' (.ref l) (.tuple ds) :=
  ⟨_, rfl, Same.new nl, .tup (SqT.of upd_same) (DpAll.same (Same.new nl) _ _ ha)⟩
end Gd
namespace Gd
open PySem PySem.Spec PyProof.Rows L2
theorem fmod_lt' {a b : Int} (hb : 0 < b) : a.fmod b < b := Int.fmod_lt_of_pos a hb
theorem fmod_nn {a b : Int} (hb : 0 < b) : 0 ≤ a.fmod b := Int.fmod_nonneg_of_pos a hb
/-! ### the feed -/
def spFeed (K : PySem.W.Frag) : Sp := fun vs H Q _ => ∃ (sc : Addr) (ns : List Int), vs = [.ref sc] ∧
  SqL K H sc (ns.map V.int) ∧ ns.length ≤ 63 ∧
  ∀ (a s : Addr) (H' : Hp), H a = none → H s = none → Same H H' → Fd H' a s 0 → Q (.ref a) H'
def spDraw : Sp := fun vs H Q _ => ∃ (a s : Addr) (m : Int) (n : Nat),
  vs = [.ref a, .int m] ∧ Fd H a s n ∧ n ≤ 1000000 ∧ 1 ≤ m ∧ m ≤ 1000000 ∧
  ∀ (r : Int) (H' : Hp), 0 ≤ r → r < m → Sb a H H' → Fd H' a s (n + 1) → Q (.int r) H'
theorem cut_ints (ns : List Int) (lo hi : Option Int) :
    ∃ ms : List Int, cutV (ns.map V.int) lo hi = ms.map V.int ∧ ms.length ≤ ns.length := by
  refine ⟨(ns.drop (HT.sIx ns.length 0 lo)).take (HT.sIx ns.length ns.length hi - HT.sIx ns.length 0 lo), ?_, ?_⟩
  · unfold cutV
    rw [List.length_map, List.map_take, List.map_drop]
  · rw [List.length_take, List.length_drop]
    omega
theorem ints_shaped (ns : List Int) : SeqAt.shaped (.list (ns.map PyData.int)) = true := by
  have h1 : ∀ l : List Int, PyData.canLayAll0 (l.map PyData.int) = true := by
    intro l
    induction l with
    | nil => simp [PyData.canLayAll0]
    | cons a l ih => simp [PyData.canLayAll0, PyData.canLay0, ih]
  have h2 : ∀ l : List Int, PyData.depthAll (l.map PyData.int) = 0 := by
    intro l
    induction l with
    | nil => simp [PyData.depthAll]
    | cons a l ih => simp [PyData.depthAll, PyData.depth, ih]
  simp [SeqAt.shaped, PyData.canLay0, PyData.depth, h1, h2]
theorem ints_nil (ns : List Int) : PyData.eqv (.list (ns.map PyData.int)) (.list []) = decide (ns = []) := by
  cases ns <;> simp [PyData.eqv, PyData.eqvAll]
theorem dp_ints {K : PySem.W.Frag} {H : Hp} : ∀ ns : List Int, DpAll K H (ns.map V.int) (ns.map PyData.int)
  | [] => .nil
  | n :: ns => .cons (.int n) (dp_ints ns)
theorem at_ints {ns : List Int} {i : Int} (h0 : 0 ≤ i) (h1 : i < ns.length) :
    ∃ z : Int, atI (ns.map V.int) i = some (V.int z) := by
  obtain ⟨j, rfl⟩ := Int.eq_ofNat_of_zero_le h0
  have hj : j < ns.length := by omega
  exact ⟨ns[j], atI_nat (by rw [List.getElem?_map, List.getElem?_eq_getElem hj]; rfl)⟩
theorem ref_ints {s : Addr} {ns : List Int} {r : List V} : HO.lst (ns.map V.int) ≠ HO.lst (.ref s :: r) := by
  intro z
  cases ns with
  | nil => cases z
  | cons n ns => cases z

/-- numbers drawn: from lo to below hi, by at most j draws -/
def spNum (lo hi : Int) (j : Nat) : Sp := fun vs H Q _ => ∃ (a s : Addr) (n : Nat),
  vs = [.ref a] ∧ Fd H a s n ∧ n + j ≤ 1000000 ∧
  ∀ (r : Int) (H' : Hp), lo ≤ r → r < hi → Sb a H H' → Fd H' a s (n + j) → Q (.int r) H'
theorem spNum_len {lo hi : Int} {j : Nat} : ∀ vs H Q E, spNum lo hi j vs H Q E → vs.length = 1 := by
  rintro vs H Q E ⟨a, s, n, rfl, _⟩
  rfl
section
variable {te : TE} {vs : List Nat} {σ : L2.St} {H : Hp} {D : Addr} {Qd : Hp → Prop}
/-- [e for x in range(m)], e a number that draws -/
theorem lcrF {j m n c : Nat} {a s : Addr} (Pz : Int → Prop) (hD : H D = none) (hf : Fd H a s n) (hm : m ≤ 50000)
    (hw : ∀ x, wipe ((wipe σ vs).set j (some x)) vs = wipe σ vs)
    (hs : ∀ (i : Nat) (H1 : Hp) (Q : VK), i < m → Sb a H H1 → Fd H1 a s (n + c * i) →
      (∀ (z : Int) (H2 : Hp), Sb a H1 H2 → Fd H2 a s (n + c * (i + 1)) → Pz z → Q (.int z) H2) →
      te ((wipe σ vs).set j (some (.int (0 + (i : Int))))) H1 Q)
    (hd : ∀ (H' : Hp) (ns : List Int), Sb a H H' → Fd H' a s (n + c * m) → H' D = some (.lst (ns.map V.int)) →
      ns.length = m → (∀ x ∈ ns, Pz x) → Qd H') :
    ∃ W : Nat → Nat → Hp → Prop, (∃ m, W 0 m (upd H D (.lst []))) ∧ ∀ i k H, W i k H →
      ((Itr 0 m).stop i H ∧ Qd H) ∨ ((Itr 0 m).go i H ∧ ∃ Nx : Hp → Prop,
        (∀ H', Nx H' → ∃ k', k' < k ∧ W (i + 1) k' H') ∧
        ∀ x H', (Itr 0 m).yld i H x H' → gName j x (wipe σ vs) H' fun σ2 H2 =>
          wipe σ2 vs = wipe σ vs ∧ tYes σ2 H2 fun b H3 =>
            if b = true then te σ2 H3 fun y H4 => ∃ acc, H4 D = some (.lst acc) ∧
              acc.length < sizeLine ∧ Nx (upd H4 D (.lst (acc ++ [y]))) else Nx H3) := by
  obtain ⟨dA, dS⟩ := hf.apart hD
  refine lc_range (lo := 0) (n := m) (fun i H' => Sb a H H' ∧ Fd H' a s (n + c * i) ∧ ∃ ns : List Int,
    H' D = some (.lst (ns.map V.int)) ∧ ns.length = i ∧ ∀ x ∈ ns, Pz x) ?_ ?_ ?_
  · exact ⟨Sb.new hD, (hf.upd dA dS).mono (by omega), [], upd_same, rfl, fun x h => by cases h⟩
  · rintro i H' hi ⟨sb, f, ns, h1, h2, h3⟩
    refine ⟨hw _, ?_⟩
    unfold tYes
    dsimp only
    rw [if_pos rfl]
    refine hs i H' _ hi sb f ?_
    intro z H2 sb2 f2 pz
    have h1' := sb2 _ _ dA h1
    refine ⟨_, h1', ?_, (Sb.trans sb sb2).mut hD, f2.upd dA dS, ns ++ [z], ?_, ?_, ?_⟩
    · rw [List.length_map, h2]
      exact Nat.lt_of_lt_of_le (show i < 50000 by omega) (by decide)
    · rw [upd_same, List.map_append]
      rfl
    · rw [List.length_append, h2]
      rfl
    · intro x hx
      rcases List.mem_append.mp hx with h | h
      · exact h3 x h
      · rw [List.mem_singleton.mp h]
        exact pz
  · rintro H' ⟨sb, f, ns, h1, h2, h3⟩
    exact hd H' ns sb f h1 h2 h3
end
/-- a drawn table's rows -/
def OkT (m w : Nat) (rs : List (List Int)) : Prop :=
  rs.length = m ∧ ∀ r ∈ rs, r.length = w ∧ ∀ x ∈ r, -99 ≤ x ∧ x ≤ 99
theorem OkT.tb {m w : Nat} {rs : List (List Int)} (h : OkT m w rs) (hm : m ≤ 1000) (hw : w ≤ 1000) : Tb w rs :=
  ⟨by rw [h.1]; exact hm, hw, fun r hr => (h.2 r hr).1⟩
theorem OkT.sm {m w : Nat} {rs : List (List Int)} (h : OkT m w rs) : ∀ r ∈ rs, Sm r := fun r hr x hx => by
  have := (h.2 r hr).2 x hx
  omega
end Gd
namespace Gd
open PySem PySem.Spec PyProof.Rows L2
theorem rows_shaped (rs : List (List Int)) : SeqAt.shaped (.list (rs.map rowD)) = true := by
  have a1 : ∀ l : List Int, PyData.canLayAll0 (l.map PyData.int) = true := by
    intro l
    induction l with
    | nil => simp [PyData.canLayAll0]
    | cons a l ih => simp [PyData.canLayAll0, PyData.canLay0, ih]
  have a2 : ∀ l : List Int, PyData.depthAll (l.map PyData.int) = 0 := by
    intro l
    induction l with
    | nil => simp [PyData.depthAll]
    | cons a l ih => simp [PyData.depthAll, PyData.depth, ih]
  have h1 : ∀ l : List (List Int), PyData.canLayAll0 (l.map rowD) = true := by
    intro l
    induction l with
    | nil => simp [PyData.canLayAll0]
    | cons a l ih => simp [PyData.canLayAll0, rowD, PyData.canLay0, a1, ih]
  have h2 : ∀ l : List (List Int), PyData.depthAll (l.map rowD) ≤ 1 := by
    intro l
    induction l with
    | nil => simp [PyData.depthAll]
    | cons a l ih =>
      simp only [List.map_cons, PyData.depthAll, rowD, PyData.depth, a2]
      omega
  have h3 := h2 rs
  show (PyData.canLay0 (.list (rs.map rowD)) && decide (PyData.depth (.list (rs.map rowD)) ≤ 64)) = true
  rw [Bool.and_eq_true]
  refine ⟨?_, decide_eq_true ?_⟩
  · simp only [PyData.canLay0]
    exact h1 rs
  · simp only [PyData.depth]
    omega
theorem rows_nil (rs : List (List Int)) : PyData.eqv (.list (rs.map rowD)) (.list []) = decide (rs = []) := by
  cases rs <;> simp [PyData.eqv, PyData.eqvAll]
end Gd
namespace Gd
open PySem PySem.Spec PyProof.Rows L2
theorem Same.sb {l : Addr} {H H1 H2 : Hp} (e : Same H H1) (n : H l = none) (s : Sb l H1 H2) : Same H H2 :=
  fun b o h => s b o (ne_of_none h n) (e b o h)
section
variable {K : PySem.W.Frag} {te : TE} {vs : List Nat} {σ : L2.St} {H : Hp} {D : Addr} {Qd : Hp → Prop}
/-- [e for x in range(m)], e data of tuples that draws -/
theorem lcrD {j m n c : Nat} {a s : Addr} (Pz : PyData → Prop) (hD : H D = none) (hf : Fd H a s n) (hm : m ≤ 50000)
    (ht : ∀ d, Pz d → tupOnly d = true)
    (hw : ∀ x, wipe ((wipe σ vs).set j (some x)) vs = wipe σ vs)
    (hs : ∀ (i : Nat) (H1 : Hp) (Q : VK), i < m → Sb a H H1 → Fd H1 a s (n + c * i) →
      (∀ (z : V) (d : PyData) (H2 : Hp), Sb a H1 H2 → Fd H2 a s (n + c * (i + 1)) → Pz d → Dp K H2 z d → Q z H2) →
      te ((wipe σ vs).set j (some (.int (0 + (i : Int))))) H1 Q)
    (hd : ∀ (H' : Hp) (ys : List V) (ds : List PyData), Sb a H H' → Fd H' a s (n + c * m) → H' D = some (.lst ys) →
      DpAll K H' ys ds → ds.length = m → (∀ x ∈ ds, Pz x) → Qd H') :
    ∃ W : Nat → Nat → Hp → Prop, (∃ m, W 0 m (upd H D (.lst []))) ∧ ∀ i k H, W i k H →
      ((Itr 0 m).stop i H ∧ Qd H) ∨ ((Itr 0 m).go i H ∧ ∃ Nx : Hp → Prop,
        (∀ H', Nx H' → ∃ k', k' < k ∧ W (i + 1) k' H') ∧
        ∀ x H', (Itr 0 m).yld i H x H' → gName j x (wipe σ vs) H' fun σ2 H2 =>
          wipe σ2 vs = wipe σ vs ∧ tYes σ2 H2 fun b H3 =>
            if b = true then te σ2 H3 fun y H4 => ∃ acc, H4 D = some (.lst acc) ∧
              acc.length < sizeLine ∧ Nx (upd H4 D (.lst (acc ++ [y]))) else Nx H3) := by
  obtain ⟨dA, dS⟩ := hf.apart hD
  refine lc_range (lo := 0) (n := m) (fun i H' => Sb a H H' ∧ Fd H' a s (n + c * i) ∧ ∃ (ys : List V) (ds : List PyData),
    H' D = some (.lst ys) ∧ DpAll K H' ys ds ∧ ds.length = i ∧ ∀ x ∈ ds, Pz x) ?_ ?_ ?_
  · exact ⟨Sb.new hD, (hf.upd dA dS).mono (by omega), [], [], upd_same, .nil, rfl, fun x h => by cases h⟩
  · rintro i H' hi ⟨sb, f, ys, ds, h1, h2, h3, h4⟩
    refine ⟨hw _, ?_⟩
    unfold tYes
    dsimp only
    rw [if_pos rfl]
    refine hs i H' _ hi sb f ?_
    intro z d H2 sb2 f2 pz hz
    have h1' := sb2 _ _ dA h1
    have tall : tupAll ds = true := (tupAll_iff ds).mpr fun x hx => ht x (h4 x hx)
    have hl : ys.length = i := by rw [dpa_len _ _ h2, h3]
    have tk := Tk.lst (o := .lst (ys ++ [z])) h1'
    refine ⟨_, h1', ?_, (Sb.trans sb sb2).mut hD, f2.upd dA dS, ys ++ [z], ds ++ [d], upd_same, ?_, ?_, ?_⟩
    · rw [hl]
      exact Nat.lt_of_lt_of_le (show i < 50000 by omega) (by decide)
    · exact dpa_snoc _ _ _ _ (DpAll.tk tk _ _ tall (DpAll.tk (f.tk sb2) _ _ tall h2)) (Dp.tk tk _ _ (ht d pz) hz)
    · rw [List.length_append, h3]
      rfl
    · intro x hx
      rcases List.mem_append.mp hx with h | h
      · exact h4 x h
      · rw [List.mem_singleton.mp h]
        exact pz
  · rintro H' ⟨sb, f, ys, ds, h1, h2, h3, h4⟩
    exact hd H' ys ds sb f h1 h2 h3 h4
end
end Gd
namespace Gd
open PySem PySem.Spec PyProof.Rows L2
/-! ### tables whose repr is known -/
def Rr (r : List Int) : Prop := r.length ≤ 8 ∧ ∀ x ∈ r, x.natAbs < 2 ^ 1900
def Rk (rs : List (List Int)) : Prop := rs.length ≤ 8 ∧ ∀ r ∈ rs, Rr r
theorem sh_row {r : List Int} (h : Rr r) : Sh 1 16000 (rowD r) := by
  refine (Sh.tup (k := 0) (n := 1901) (m := 8) ?_ (by rw [List.length_map]; exact h.1)).mono (by decide) (by decide)
  intro d hd
  obtain ⟨x, hx, rfl⟩ := List.mem_map.mp hd
  exact Sh.int (h.2 x hx)
theorem sh_rows {rs : List (List Int)} (h : Rk rs) : Sh 2 130000 (rowsD rs) := by
  refine (Sh.tup (k := 1) (n := 16000) (m := 8) ?_ (by rw [List.length_map]; exact h.1)).mono (by decide) (by decide)
  intro d hd
  obtain ⟨x, hx, rfl⟩ := List.mem_map.mp hd
  exact sh_row (h.2 x hx)
theorem sh_tab {w : Int} {rs : List (List Int)} (hw : w.natAbs < 2 ^ 1900) (h : Rk rs) : Sh 3 270000 (tabD w rs) := by
  refine (Sh.tup (k := 2) (n := 130000) (m := 2) ?_ (by simp)).mono (by decide) (by decide)
  intro d hd
  simp only [List.mem_cons, List.not_mem_nil, or_false] at hd
  rcases hd with rfl | rfl
  · exact (Sh.int hw).mono (by decide) (by decide)
  · exact sh_rows h
theorem nat_1900 {n : Nat} (h : n ≤ 1000000) : ((n : Int)).natAbs < 2 ^ 1900 :=
  Nat.lt_of_le_of_lt (by omega : _ ≤ 1000000) (Nat.lt_of_lt_of_le (by decide : 1000000 < 2 ^ 20) (Nat.pow_le_pow_right (by decide) (by decide)))
theorem int_1900 {x : Int} (h : -(10 ^ 30) ≤ x ∧ x ≤ 10 ^ 30) : x.natAbs < 2 ^ 1900 :=
  Nat.lt_of_le_of_lt (by omega : _ ≤ 10 ^ 30) (Nat.lt_of_lt_of_le (by decide : 10 ^ 30 < 2 ^ 100) (Nat.pow_le_pow_right (by decide) (by decide)))
/-- numbers from -b to b -/
def Bd (b : Int) (r : List Int) : Prop := ∀ x ∈ r, -b ≤ x ∧ x ≤ b
def Bs (b : Int) (rs : List (List Int)) : Prop := ∀ r ∈ rs, Bd b r
theorem Bd.at {b : Int} {r : List Int} (h : Bd b r) (hb : 0 ≤ b) (i : Nat) : -b ≤ r.getD i 0 ∧ r.getD i 0 ≤ b := by
  by_cases hi : i < r.length
  · exact h _ (getD_mem hi)
  · rw [List.getD_eq_getElem?_getD, List.getElem?_eq_none (by omega)]
    show -b ≤ 0 ∧ 0 ≤ b
    omega
theorem Bs.at {b : Int} {rs : List (List Int)} (h : Bs b rs) (hb : 0 ≤ b) (i k : Nat) : -b ≤ ent rs i k ∧ ent rs i k ≤ b := by
  unfold ent
  by_cases hi : i < rs.length
  · exact (h _ (getD_mem hi)).at hb k
  · rw [List.getD_eq_getElem?_getD (l := rs), List.getElem?_eq_none (by omega)]
    show -b ≤ ([] : List Int).getD k 0 ∧ ([] : List Int).getD k 0 ≤ b
    rw [List.getD_nil]
    omega
theorem sum_bd {b : Int} : ∀ l : List Int, Bd b l → -(b * l.length) ≤ l.sum ∧ l.sum ≤ b * l.length
  | [], _ => by simp
  | x :: l, h => by
    have h1 := h x (List.mem_cons_self ..)
    have h2 := sum_bd l (fun y hy => h y (List.mem_cons_of_mem _ hy))
    rw [List.sum_cons, List.length_cons]
    have e : b * ((l.length + 1 : Nat) : Int) = b * (l.length : Int) + b := by
      rw [Int.natCast_succ, Int.mul_add, Int.mul_one]
    rw [e]
    omega
theorem mul_bd {a b x y : Int} (ha : 0 ≤ a) (hb : 0 ≤ b) (hx : -a ≤ x ∧ x ≤ a) (hy : -b ≤ y ∧ y ≤ b) :
    -(a * b) ≤ x * y ∧ x * y ≤ a * b := by
  have h1 : x.natAbs ≤ a.natAbs := by omega
  have h2 : y.natAbs ≤ b.natAbs := by omega
  have h3 : (x * y).natAbs ≤ (a * b).natAbs := by
    rw [Int.natAbs_mul, Int.natAbs_mul]
    exact Nat.mul_le_mul h1 h2
  have h4 : 0 ≤ a * b := Int.mul_nonneg ha hb
  omega
theorem mulRow_bd {a b : Int} {r : List Int} {w : Nat} {ts : List (List Int)} {m : Nat} (ha : 0 ≤ a) (hb : 0 ≤ b)
    (hr : Bd a r) (ht : Bs b ts) (hm : r.length ≤ m) : Bd (a * b * m) (mulRow r w ts) := by
  intro x hx
  obtain ⟨k, hk, rfl⟩ := List.mem_map.mp hx
  have h0 : 0 ≤ a * b := Int.mul_nonneg ha hb
  have h := sum_bd (b := a * b) ((List.range r.length).map fun i => r.getD i 0 * ent ts i k) (by
    intro y hy
    obtain ⟨i, hi, rfl⟩ := List.mem_map.mp hy
    exact mul_bd ha hb (hr.at ha i) (ht.at hb i k))
  rw [List.length_map, List.length_range] at h
  have h2 : a * b * (r.length : Int) ≤ a * b * (m : Int) := Int.mul_le_mul_of_nonneg_left (by omega) h0
  omega
theorem mulRow_len {r : List Int} {w : Nat} {ts : List (List Int)} : (mulRow r w ts).length = w := by
  unfold mulRow
  rw [List.length_map, List.length_range]
theorem OkT.bs {m wd : Nat} {rs : List (List Int)} (h : OkT m wd rs) : Bs 99 rs := fun r hr x hx => (h.2 r hr).2 x hx
theorem rr_bd {r : List Int} (hl : r.length ≤ 8) (h : Bd 1000000 r) : Rr r :=
  ⟨hl, fun x hx => int_1900 (by have := h x hx; omega)⟩
theorem Bd.mono {a b : Int} {r : List Int} (h : Bd a r) (e : a ≤ b) : Bd b r := fun x hx => by
  have := h x hx
  omega
theorem rk_ok {m wd : Nat} {rs : List (List Int)} (h : OkT m wd rs) (hm : m ≤ 8) (hw : wd ≤ 8) : Rk rs :=
  ⟨by rw [h.1]; exact hm, fun r hr => rr_bd (by rw [(h.2 r hr).1]; exact hw) (Bd.mono (h.bs r hr) (by decide))⟩
theorem rk_unit {n : Nat} (h : n ≤ 8) : Rk (unitR n) := by
  refine ⟨by simp [unitR, h], fun r hr => ?_⟩
  obtain ⟨k, hk, rfl⟩ := List.mem_map.mp hr
  refine rr_bd (by simp [unitRow, h]) ?_
  intro x hx
  obtain ⟨c, hc, rfl⟩ := List.mem_map.mp hx
  split <;> decide
end Gd
namespace Gd
open PySem PySem.Spec PyProof.Rows L2
/-! ### sums over places, products of tables -/
def sumR (n : Nat) (f : Nat → Int) : Int := ((List.range n).map f).sum
theorem sumR_zero (f : Nat → Int) : sumR 0 f = 0 := rfl
theorem sumR_succ (n : Nat) (f : Nat → Int) : sumR (n + 1) f = sumR n f + f n := by
  unfold sumR
  rw [List.range_succ, List.map_append, List.sum_append]
  simp
theorem sumR_congr {n : Nat} {f g : Nat → Int} (h : ∀ i, i < n → f i = g i) : sumR n f = sumR n g := by
  unfold sumR
  congr 1
  refine List.map_congr_left ?_
  intro i hi
  exact h i (List.mem_range.mp hi)
theorem sumR_add (n : Nat) (f g : Nat → Int) : sumR n (fun i => f i + g i) = sumR n f + sumR n g := by
  induction n with
  | zero => rfl
  | succ n ih => rw [sumR_succ, sumR_succ, sumR_succ, ih]; omega
theorem sumR_mulr (n : Nat) (f : Nat → Int) (c : Int) : sumR n (fun i => f i * c) = sumR n f * c := by
  induction n with
  | zero => rw [sumR_zero, sumR_zero, Int.zero_mul]
  | succ n ih => rw [sumR_succ, sumR_succ, ih, Int.add_mul]
theorem sumR_mull (n : Nat) (f : Nat → Int) (c : Int) : sumR n (fun i => c * f i) = c * sumR n f := by
  induction n with
  | zero => rw [sumR_zero, sumR_zero, Int.mul_zero]
  | succ n ih => rw [sumR_succ, sumR_succ, ih, Int.mul_add]
theorem sumR_nought (n : Nat) : sumR n (fun _ => 0) = 0 := by
  induction n with
  | zero => rfl
  | succ n ih => rw [sumR_succ, ih]; rfl
theorem sumR_comm (n m : Nat) (f : Nat → Nat → Int) :
    sumR n (fun i => sumR m (fun j => f i j)) = sumR m (fun j => sumR n (fun i => f i j)) := by
  induction n with
  | zero =>
    rw [sumR_zero]
    exact (sumR_nought m).symm
  | succ n ih =>
    rw [sumR_succ, ih, ← sumR_add]
    exact sumR_congr fun j _ => (sumR_succ n fun i => f i j).symm
theorem sumR_one {n k : Nat} (hk : k < n) (f : Nat → Int) (h : ∀ i, i < n → i ≠ k → f i = 0) : sumR n f = f k := by
  induction n with
  | zero => omega
  | succ n ih =>
    rw [sumR_succ]
    by_cases e : k = n
    · subst e
      rw [sumR_congr (g := fun _ => 0) (fun i hi => h i (by omega) (by omega)), sumR_nought]
      omega
    · rw [ih (by omega) (fun i hi ne => h i (by omega) ne), h n (by omega) (by omega)]
      omega
theorem getD_range {α : Type} {n i : Nat} {g : Nat → α} {d : α} (h : i < n) : ((List.range n).map g).getD i d = g i := by
  rw [List.getD_eq_getElem?_getD, List.getElem?_map, List.getElem?_range h]
  rfl
theorem range_getD {α β : Type} (l : List α) (d : α) (f : α → β) : (List.range l.length).map (fun i => f (l.getD i d)) = l.map f := by
  apply List.ext_getElem
  · simp
  · intro i h1 h2
    have hi : i < l.length := by simpa using h2
    simp only [List.getElem_map, List.getElem_range]
    rw [List.getD_eq_getElem?_getD, List.getElem?_eq_getElem hi]
    rfl
theorem mulRow_eq (r : List Int) (w : Nat) (rs : List (List Int)) :
    mulRow r w rs = (List.range w).map fun k => sumR r.length fun i => r.getD i 0 * ent rs i k := rfl
theorem mulR_eq (rs : List (List Int)) (w : Nat) (ts : List (List Int)) : mulR rs w ts = rs.map fun r => mulRow r w ts :=
  range_getD rs [] fun r => mulRow r w ts
theorem turnR_eq (w : Nat) (rs : List (List Int)) : turnR w rs = (List.range w).map fun k => rs.map fun r => r.getD k 0 := by
  unfold turnR ent
  refine List.map_congr_left ?_
  intro k _
  exact range_getD rs [] fun r => r.getD k 0
theorem mulR_len {rs : List (List Int)} {w : Nat} {ts : List (List Int)} : (mulR rs w ts).length = rs.length := by
  rw [mulR_eq, List.length_map]
theorem mulR_at {rs : List (List Int)} {w : Nat} {ts : List (List Int)} {i : Nat} (h : i < rs.length) :
    (mulR rs w ts).getD i [] = mulRow (rs.getD i []) w ts := by
  unfold mulR
  rw [getD_range h]
theorem mulRow_at {r : List Int} {w : Nat} {ts : List (List Int)} {k : Nat} (h : k < w) :
    (mulRow r w ts).getD k 0 = sumR r.length fun i => r.getD i 0 * ent ts i k := by
  rw [mulRow_eq, getD_range h]
theorem ent_mul {rs : List (List Int)} {w : Nat} {ts : List (List Int)} {i k : Nat} (hi : i < rs.length) (hk : k < w) :
    ent (mulR rs w ts) i k = sumR (rs.getD i []).length fun j => ent rs i j * ent ts j k := by
  unfold ent
  rw [mulR_at hi, mulRow_at hk]
  rfl
theorem ent_turn {w : Nat} {rs : List (List Int)} {i k : Nat} (hk : k < w) (hi : i < rs.length) : ent (turnR w rs) k i = ent rs i k := by
  have h : (turnR w rs).getD k [] = (List.range rs.length).map fun i => ent rs i k := by
    unfold turnR
    rw [getD_range hk]
  unfold ent at h ⊢
  rw [h, getD_range hi]
theorem ent_unit {n i k : Nat} (hi : i < n) (hk : k < n) : ent (unitR n) i k = if k = i then 1 else 0 := by
  unfold ent unitR
  rw [getD_range hi]
  unfold unitRow
  rw [getD_range hk]
theorem row_assoc {r : List Int} {w w' : Nat} {bs cs : List (List Int)} (hr : r.length = bs.length) (hb : Tb w bs) (hw : w = cs.length) :
    mulRow (mulRow r w bs) w' cs = mulRow r w' (mulR bs w' cs) := by
  show (List.range w').map (fun k => sumR (mulRow r w bs).length (fun j => (mulRow r w bs).getD j 0 * ent cs j k)) =
    (List.range w').map (fun k => sumR r.length (fun i => r.getD i 0 * ent (mulR bs w' cs) i k))
  refine List.map_congr_left ?_
  intro k hk
  have hk := List.mem_range.mp hk
  rw [mulRow_len]
  have e1 : sumR w (fun j => (mulRow r w bs).getD j 0 * ent cs j k) =
      sumR w (fun j => sumR r.length (fun i => r.getD i 0 * ent bs i j * ent cs j k)) := by
    refine sumR_congr fun j hj => ?_
    rw [mulRow_at hj, ← sumR_mulr]
  have e2 : sumR r.length (fun i => r.getD i 0 * ent (mulR bs w' cs) i k) =
      sumR r.length (fun i => sumR w (fun j => r.getD i 0 * ent bs i j * ent cs j k)) := by
    refine sumR_congr fun i hi => ?_
    rw [ent_mul (by omega) hk, hb.len (by omega), ← sumR_mull]
    exact sumR_congr fun j _ => (Int.mul_assoc _ _ _).symm
  rw [e1, e2, sumR_comm]
theorem mul_assoc {as bs cs : List (List Int)} {v w w' : Nat} (ha : Tb v as) (hv : v = bs.length) (hb : Tb w bs) (hw : w = cs.length) :
    mulR (mulR as w bs) w' cs = mulR as w' (mulR bs w' cs) := by
  rw [mulR_eq (mulR as w bs), mulR_eq as, mulR_eq as, List.map_map]
  refine List.map_congr_left ?_
  intro r hr
  exact row_assoc (by rw [ha.2.2 r hr, hv]) hb hw
theorem row_id (r : List Int) : (List.range r.length).map (fun k => r.getD k 0) = r := by
  have := range_getD r 0 id
  simpa using this
theorem rows_id (rs : List (List Int)) : (List.range rs.length).map (fun k => rs.getD k []) = rs := by
  have := range_getD rs [] id
  simpa using this
theorem unit_mul {rs : List (List Int)} {w : Nat} (h : Tb w rs) : mulR (unitR rs.length) w rs = rs := by
  conv => rhs; rw [← rows_id rs]
  rw [mulR_eq]
  unfold unitR
  rw [List.map_map]
  refine List.map_congr_left ?_
  intro i hi
  have hi := List.mem_range.mp hi
  show mulRow (unitRow rs.length i) w rs = rs.getD i []
  conv => rhs; rw [← row_id (rs.getD i [])]
  rw [h.len hi, mulRow_eq]
  refine List.map_congr_left ?_
  intro k hk
  have hl : (unitRow rs.length i).length = rs.length := by simp [unitRow]
  rw [hl, sumR_one hi]
  · unfold unitRow
    rw [getD_range hi, if_pos rfl, Int.one_mul]
    rfl
  · intro j hj ne
    unfold unitRow
    rw [getD_range hj, if_neg ne, Int.zero_mul]
theorem mul_unit {rs : List (List Int)} {w : Nat} (h : Tb w rs) : mulR rs w (unitR w) = rs := by
  conv => rhs; rw [← List.map_id rs]
  rw [mulR_eq]
  refine List.map_congr_left ?_
  intro r hr
  show mulRow r w (unitR w) = r
  have hl := h.2.2 r hr
  conv => rhs; rw [← row_id r]
  rw [hl, mulRow_eq]
  refine List.map_congr_left ?_
  intro k hk
  have hk := List.mem_range.mp hk
  rw [hl, sumR_one hk]
  · rw [ent_unit hk hk, if_pos rfl, Int.mul_one]
  · intro j hj ne
    rw [ent_unit hj hk, if_neg (fun z => ne z.symm), Int.mul_zero]
theorem turn_mul {as bs : List (List Int)} {v w : Nat} (ha : Tb v as) (hv : v = bs.length) :
    turnR w (mulR as w bs) = mulR (turnR w bs) as.length (turnR v as) := by
  have hl : (turnR w bs).length = w := by simp [turnR]
  have e : mulR (turnR w bs) as.length (turnR v as) = (List.range w).map fun k => mulRow ((turnR w bs).getD k []) as.length (turnR v as) := by
    unfold mulR
    rw [hl]
  rw [e]
  unfold turnR
  refine List.map_congr_left ?_
  intro k hk
  have hk := List.mem_range.mp hk
  rw [mulR_len]
  have ek : ((List.range w).map fun k => (List.range bs.length).map fun i => ent bs i k).getD k [] = (List.range bs.length).map fun i => ent bs i k := getD_range hk
  rw [ek, mulRow_eq, List.length_map, List.length_range]
  refine List.map_congr_left ?_
  intro i hi
  have hi := List.mem_range.mp hi
  rw [ent_mul hi hk, ha.len hi, hv]
  refine sumR_congr fun j hj => ?_
  rw [getD_range hj]
  have et : ent ((List.range v).map fun k => (List.range as.length).map fun i => ent as i k) j i = ent as i j := ent_turn (w := v) (by omega) hi
  rw [← hv, et, Int.mul_comm]
theorem stack_mul {as ms bs : List (List Int)} {w : Nat} : mulR (as ++ ms) w bs = mulR as w bs ++ mulR ms w bs := by
  rw [mulR_eq, mulR_eq, mulR_eq, List.map_append]
theorem turn_stack {as ms : List (List Int)} {w : Nat} :
    turnR w (as ++ ms) = (List.range w).map fun k => (turnR w as).getD k [] ++ (turnR w ms).getD k [] := by
  rw [turnR_eq]
  refine List.map_congr_left ?_
  intro k hk
  have hk := List.mem_range.mp hk
  rw [turnR_eq, turnR_eq, getD_range hk, getD_range hk, List.map_append]
theorem mul_tb {as bs : List (List Int)} {v w : Nat} (ha : as.length ≤ 1000) (hw : w ≤ 1000) : Tb w (mulR as w bs) :=
  ⟨by rw [mulR_len]; exact ha, hw, fun r hr => by
    rw [mulR_eq] at hr
    obtain ⟨x, _, rfl⟩ := List.mem_map.mp hr
    exact mulRow_len⟩
theorem turn_tb {rs : List (List Int)} {w : Nat} (hr : rs.length ≤ 1000) (hw : w ≤ 1000) : Tb rs.length (turnR w rs) := by
  refine ⟨by simp [turnR]; exact hw, hr, fun r h => ?_⟩
  obtain ⟨x, _, rfl⟩ := List.mem_map.mp h
  simp
theorem turn_len {rs : List (List Int)} {w : Nat} : (turnR w rs).length = w := by simp [turnR]
theorem unit_tb {n : Nat} (h : n ≤ 1000) : Tb n (unitR n) := by
  refine ⟨by simp [unitR]; exact h, h, fun r hr => ?_⟩
  obtain ⟨x, _, rfl⟩ := List.mem_map.mp hr
  simp [unitRow]
theorem bs_mul {a b : Int} {as bs : List (List Int)} {v w m : Nat} (h0 : 0 ≤ a) (h1 : 0 ≤ b) (ha : Bs a as) (hv : ∀ r ∈ as, r.length ≤ m) (hb : Bs b bs) :
    Bs (a * b * m) (mulR as w bs) := by
  intro r hr
  rw [mulR_eq] at hr
  obtain ⟨x, hx, rfl⟩ := List.mem_map.mp hr
  exact mulRow_bd h0 h1 (ha x hx) hb (hv x hx)
theorem bs_turn {a : Int} {rs : List (List Int)} {w : Nat} (h0 : 0 ≤ a) (ha : Bs a rs) : Bs a (turnR w rs) := by
  intro r hr
  obtain ⟨k, _, rfl⟩ := List.mem_map.mp hr
  intro x hx
  obtain ⟨i, _, rfl⟩ := List.mem_map.mp hx
  exact ha.at h0 i k
theorem bs_unit {n : Nat} : Bs 1 (unitR n) := by
  intro r hr
  obtain ⟨k, _, rfl⟩ := List.mem_map.mp hr
  intro x hx
  obtain ⟨c, _, rfl⟩ := List.mem_map.mp hx
  show -1 ≤ (if c = k then (1 : Int) else 0) ∧ (if c = k then (1 : Int) else 0) ≤ 1
  split <;> decide
theorem bs_sm {a : Int} {rs : List (List Int)} (h : Bs a rs) (ha : a < 2 ^ 64) : ∀ r ∈ rs, Sm r := fun r hr x hx => by
  have := h r hr x hx
  omega
/-! ### == of tables -/
mutual
theorem eqv_self : ∀ d : PyData, tupOnly d = true → PyData.eqv d d = true
  | .none, _ => by simp [PyData.eqv]
  | .bool b, _ => by simp [PyData.eqv]
  | .int i, _ => by simp [PyData.eqv]
  | .str x, _ => by simp [PyData.eqv]
  | .tuple ds, h => by
    simp only [PyData.eqv]
    exact eqvAll_self ds (by simpa [tupOnly] using h)
  | .list _, h => by simp [tupOnly] at h
  | .dict _, h => by simp [tupOnly] at h
theorem eqvAll_self : ∀ ds : List PyData, tupAll ds = true → PyData.eqvAll ds ds = true
  | [], _ => by simp [PyData.eqvAll]
  | d :: ds, h => by
    have h' : tupOnly d = true ∧ tupAll ds = true := by simpa [tupAll] using h
    simp only [PyData.eqvAll, eqv_self d h'.1, eqvAll_self ds h'.2, Bool.and_self]
end
/-- may be compared -/
def Shp (k : Nat) (d : PyData) : Prop := d.canLay0 = true ∧ d.depth ≤ k
theorem shp_int (i : Int) : Shp 0 (.int i) := ⟨by simp [PyData.canLay0], by simp [PyData.depth]⟩
theorem shp_all {k : Nat} : ∀ ds : List PyData, (∀ d ∈ ds, Shp k d) → PyData.canLayAll0 ds = true ∧ PyData.depthAll ds ≤ k
  | [], _ => ⟨by simp [PyData.canLayAll0], by simp [PyData.depthAll]⟩
  | d :: ds, h => by
    obtain ⟨a1, a2⟩ := h d (List.mem_cons_self ..)
    obtain ⟨b1, b2⟩ := shp_all ds (fun x hx => h x (List.mem_cons_of_mem _ hx))
    refine ⟨by simp [PyData.canLayAll0, a1, b1], ?_⟩
    simp only [PyData.depthAll]
    omega
theorem shp_tup {k : Nat} {ds : List PyData} (h : ∀ d ∈ ds, Shp k d) : Shp (k + 1) (.tuple ds) := by
  obtain ⟨h1, h2⟩ := shp_all ds h
  refine ⟨by simp [PyData.canLay0, h1], ?_⟩
  simp only [PyData.depth]
  omega
theorem Shp.mono {k m : Nat} {d : PyData} (h : Shp k d) (e : k ≤ m) : Shp m d := ⟨h.1, Nat.le_trans h.2 e⟩
theorem Shp.shaped {k : Nat} {d : PyData} (h : Shp k d) (hk : k ≤ 64) : SeqAt.shaped d = true := by
  show (d.canLay0 && decide (d.depth ≤ 64)) = true
  rw [Bool.and_eq_true]
  exact ⟨h.1, decide_eq_true (Nat.le_trans h.2 hk)⟩
theorem shp_row (r : List Int) : Shp 1 (rowD r) := shp_tup fun d hd => by
  obtain ⟨x, _, rfl⟩ := List.mem_map.mp hd
  exact shp_int x
theorem shp_rows (rs : List (List Int)) : Shp 2 (rowsD rs) := shp_tup fun d hd => by
  obtain ⟨x, _, rfl⟩ := List.mem_map.mp hd
  exact shp_row x
theorem shp_tab (w : Int) (rs : List (List Int)) : Shp 3 (tabD w rs) := shp_tup fun d hd => by
  simp only [List.mem_cons, List.not_mem_nil, or_false] at hd
  rcases hd with rfl | rfl
  · exact (shp_int w).mono (by decide)
  · exact shp_rows rs
theorem ne_dp {K : PySem.W.Frag} {H : Hp} {x y : V} {d : PyData} {k : Nat} {Q : VK} (hx : Dp K H x d) (hy : Dp K H y d)
    (hs : Shp k d) (hk : k ≤ 64) (ht : tupOnly d = true) (q : Q (.bl false) H) : rNeD K x y H Q := by
  refine ⟨d, d, hx, hy, hs.shaped hk, hs.shaped hk, ?_⟩
  rw [eqv_self d ht]
  exact q
theorem eq_dp {K : PySem.W.Frag} {H : Hp} {x y : V} {d : PyData} {k : Nat} {Q : VK} (hx : Dp K H x d) (hy : Dp K H y d)
    (hs : Shp k d) (hk : k ≤ 64) (ht : tupOnly d = true) (q : Q (.bl true) H) : rEqD K x y H Q := by
  refine ⟨d, d, hx, hy, hs.shaped hk, hs.shaped hk, ?_⟩
  rw [eqv_self d ht]
  exact q
end Gd
namespace Gd
open PySem PySem.Spec PyProof.Rows L2
open PySem.AutoSeq1 (wpAny_loadPart')
/-! ### enumerate(t), t a tuple -/
theorem enum_new_tup (l : Addr) (items : Array Value) (n : Nat) (dct : Option Addr)
    (sl : Array (Option Value)) :
    Meets (Builtin.«enumerate.__new__» ⟨[.type "enumerate", .ref l], []⟩) (fun _ R s =>
      s.heap.get? l = some { cls := .type "tuple", dict := dct, data := .seq items n, slots := sl } ∧
      R (.ok (.ret (.ref (s.heap.push { cls := .type "tuple_iterator", data := .fields #[.ref l, .int 0 0] }).objs.size)))
        { s with heap := ((s.heap.push { cls := .type "tuple_iterator", data := .fields #[.ref l, .int 0 0] }).push ({ cls := .type "enumerate", data := .fields #[.none, .bool false, .ref s.heap.objs.size, rawInt 0, .none, .none] } : Obj)) }) :=
  .of_wp fun prog w A R s h => by
    obtain ⟨hp, g, d, tk, os⟩ := s
    obtain ⟨hl, h⟩ := h
    have hsub := sub_enumerate
    have hL : Heap.IsTuple (Shared.heap ⟨hp, g, d, tk, os⟩) l items := ⟨_, hl, rfl, n, rfl⟩
    wp_walk using wpAny_loadPart' hl
    refine wpAny_stack_any fun st => wpAny_pure ?_
    split
    · rename_i c _ _ _ _ _
      cases (c == Value.type "enumerate") <;> (wp_walk using wpAny_loadPart' hl, wpAny_pyIter_tuple hL) <;> exact ⟨_, rfl, h⟩
    · wp_walk using wpAny_loadPart' hl, wpAny_pyIter_tuple hL
      exact ⟨_, rfl, h⟩
theorem call_enum_tup {prog : Program} {w : World} {A : Around} {E : Value → Shared → Prop} {s : Shared}
    {l : Addr} {items : Array Value} {Q : Value → Shared → Prop} (hL : s.heap.IsTuple l items)
    (h : ∀ h', IsEnum h' (s.heap.objs.size + 1) s.heap.objs.size 0 .none →
      h'.IsTupleIter s.heap.objs.size l 0 → h'.objs.size = s.heap.objs.size + 2 →
      (∀ b o, s.heap.get? b = some o → h'.get? b = some o) →
      Q (.ref (s.heap.objs.size + 1)) { s with heap := h' }) :
    wpAny (model prog w) A (call (.type "enumerate") [.ref l]) Q E s := by
  obtain ⟨⟨c, dct, dt, sl⟩, hl, hc, n, hd⟩ := hL
  simp only at hc hd
  subst hc hd
  refine callType_new F.called_enumerate (by decide) (F.typeCall_enumerate_1 _) (F.newCall_enumerate_1 _)
    (fun obj => F.args_object_init_2 obj _) F.entry_enumerate_new (enum_new_tup l items n dct sl) ⟨hl, ?_⟩
  have hz := Heap.size_push s.heap { cls := .type "tuple_iterator", data := .fields #[.ref l, .int 0 0] }
  have he := Heap.get?_push_size (s.heap.push { cls := .type "tuple_iterator", data := .fields #[.ref l, .int 0 0] })
    (o := { cls := .type "enumerate", data := .fields #[.none, .bool false, .ref s.heap.objs.size, rawInt 0, .none, .none] }) rfl
  show _ ∧ _
  rw [hz] at he ⊢
  refine ⟨⟨_, he, rfl⟩, h _ he ⟨_, Heap.get?_push_of_some _ (Heap.get?_push_size _ rfl), rfl, rfl⟩
    (by rw [Heap.size_push, hz]) ?_⟩
  intro b o x
  exact Heap.get?_push_of_some _ (Heap.get?_push_of_some _ x)
/-- the tuple at a, each item in a new pair with its place -/
def ItE (K : PySem.W.Frag) (a : Addr) : It :=
  ⟨fun i H => ∃ (xs : List V) (x : V), SqT K H a xs ∧ xs[i]? = some x,
    fun i H v H' => ∃ T x, v = .ref T ∧ H T = none ∧ H' = upd H T (.tup [.int (i : Nat), x]) ∧
      ∀ xs, SqT K H a xs → xs[i]? = some x,
    fun i H => ∃ xs : List V, SqT K H a xs ∧ xs.length = i⟩
theorem turn_enumT {P : Program} {w : World} {K : PySem.W.Frag} {elts : List Expr} {kk : Nat}
    {tpos : Pos} (a e it : Addr) :
    Turn P w K (.Tuple elts kk tpos) (ItE K a) [e, it] e (fun i h =>
      (∃ old, IsEnum h e it ((i : Nat) : Int) old) ∧ h.IsTupleIter it a i ∧ e ≠ it ∧ e ≠ a ∧ a ≠ it) where
  mem := List.mem_cons_self ..
  obj := by
    rintro i h ⟨⟨old, he⟩, ⟨o, ho, hc, hd⟩, _⟩ b hb
    rcases List.mem_cons.mp hb with z | z
    · rw [z]
      exact ⟨_, he, fun v q => nomatch q⟩
    · rw [List.mem_singleton.mp z]
      exact ⟨o, ho, fun v q => by rw [hd] at q; cases q⟩
  keep := by
    rintro i h h' ⟨⟨old, he⟩, hi, r⟩ k
    exact ⟨⟨old, k e (by simp) _ he⟩, hi.at (fun o q => k it (by simp) o q), r⟩
  item := by
    intro X hP hw hK hc i pins s σ H E I hf st hg
    subst hP hw hK
    obtain ⟨⟨old, he⟩, hit, hne, hea, hai⟩ := st
    obtain ⟨xs, x, hq, hx⟩ := hg
    obtain ⟨its, rv, p, hz⟩ := I.tuple hq
    obtain ⟨u, hu, ru⟩ := rv.get hx
    have hel : e < s.heap.objs.size := Heap.lt_size he
    have hil : it < s.heap.objs.size := by
      obtain ⟨_, q, _⟩ := hit
      exact Heap.lt_size q
    have hlt : i < its.toArray.size := by
      have := (List.getElem?_eq_some_iff.mp hu).1
      simpa using this
    have hef : e ∉ [it, a] := by simp [hne, hea]
    refine wpAny_pyNext_enum_itemC (Draws.tuple (A := X.A.in1) (I.ok.hd hc) it a hai its.toArray) he ⟨hit, p⟩ hlt hne hef ?_
    intro y h' tk hy ho hst hT hsz hk
    have ey : y = u := by
      have h1 : its[i]? = some y := by simpa using hy
      rw [hu] at h1
      exact (Option.some.inj h1).symm
    subst ey
    refine ⟨_, rfl, wpAny_letOwnedTupleGo_enum (s := { s with heap := h', toks := tk + 1 }) ho fun h'' he' sb => ?_⟩
    have hT2 : h''.get? s.heap.objs.size = some { cls := .type "tuple", data := .seq #[.int i tk, y] } :=
      (sb.2 _ (Nat.ne_of_gt hel)).trans hT
    have new : ObjOk X.prog X.w (upd H s.heap.objs.size (.tup [.int (i : Nat), x])) h'' s.heap.objs.size (.tup [.int (i : Nat), x]) :=
      ⟨by show 2 ≤ sizeLine; decide, [.int i tk, y], .cons ⟨_, rfl⟩ (.cons ru .nil), ⟨_, hT2, rfl, _, rfl⟩⟩
    have I1 : Inv X pins σ (upd H s.heap.objs.size (.tup [.int (i : Nat), x])) { s with heap := h'', toks := tk + 1 } := by
      refine I.turnedNew (ch := [e, it]) ?_ hf (Nat.le_refl _) new
      intro b ob hb q
      have b1 : b ≠ e := fun z => hb (by simp [z])
      have b2 : b ≠ it := fun z => hb (by simp [z])
      exact (sb.2 b b1).trans (hk b ob b1 b2 q)
    refine ⟨.ref s.heap.objs.size, _, I1, rfl, ⟨_, x, rfl, I.hok.fresh (Nat.le_refl _), rfl, ?_⟩, ⟨⟨y, ?_⟩, ?_, hne, hea, hai⟩, ?_⟩
    · intro ys hys
      rw [I.tuple_inj hys hq]
      exact hx
    · rw [show ((i + 1 : Nat) : Int) = (i : Int) + 1 from by omega]
      exact he'
    · exact hst.1.at fun o q => (sb.2 it (Ne.symm hne)).trans q
    · intro b hb
      have hb' : b < s.heap.objs.size := by
        rcases List.mem_cons.mp hb with z | z
        · rw [z]; exact hel
        · rw [List.mem_singleton.mp z]; exact hil
      rw [upd_ne (Nat.ne_of_lt hb')]
      exact (hf b hb).1
  done := by
    intro X hP hw hK hc i pins s σ H E I hf st hg
    subst hP hw hK
    obtain ⟨⟨old, he⟩, hit, hne, hea, hai⟩ := st
    obtain ⟨xs, hq, hx⟩ := hg
    obtain ⟨its, rv, p, hz⟩ := I.tuple hq
    obtain ⟨f0, f1, f2, f3, f4, f5⟩ := hf it (by simp)
    have hsz : i = its.toArray.size := by
      rw [List.size_toArray, ← rv.length, hx]
    refine wpAny_pyNext_enum_endD (Draws.tuple (A := X.A.in1) (I.ok.hd hc) it a hai its.toArray) he ⟨hsz ▸ hit, p⟩ ?_
    intro h' eb
    exact ⟨rfl, I.turned (t' := s.toks) (fun b o hb q => eb b o hb q) f0 f1 f3 f4 f5⟩
  self := fun A i s Q E st h => by
    obtain ⟨⟨_, he⟩, _⟩ := st
    exact wpAny_pyIter_enum he h
def iEnumT (K : PySem.W.Frag) (ta : TA) : TI := fun σ H R => ta σ H fun vs H1 =>
  ∃ a xs, vs = [.ref a] ∧ SqT K H1 a xs ∧ R (ItE K a) H1
theorem pi_enumK {X : Cx} {K : PySem.W.Frag} {e : Expr} {ta : TA} {p pos tpos : Pos} {elts : List Expr} {kk : Nat}
    (hK : X.K = K) (hg : Gl X "enumerate") (hm : X.mg "enumerate" = none) (ha : PA X [e] ta)
    (hs : starEach [e] X.env = [(false, eval e X.env)] := by rfl) :
    PI X (.Tuple elts kk tpos) (.Call (.Name "enumerate" p) [e] [] pos) (iEnumT K ta) := by
  subst hK
  constructor
  intro pins s σ H R I h
  refine Call_ (ld_blt I hg hm boot_enumerate (PyProof.Rows.callWith_type1 (thn (ha.run pos pins s σ H _ I h) ?_) hs rfl))
  rintro us s1 ⟨vs, H1, I1, r1, a, xs, rfl, hq, q⟩
  rw [Vals.ref1 r1]
  obtain ⟨its, rv, p', hz⟩ := I1.tuple hq
  have hal : a < s1.heap.objs.size := p'.lt
  refine call_enum_tup p' fun h' he hit hsz hk => wpAny_pyIter_enum he ?_
  have I2 : Inv X pins σ H1 { s1 with heap := h' } := I1.kept (t' := s1.toks) hk
  refine ⟨s1.heap.objs.size + 1, [s1.heap.objs.size + 1, s1.heap.objs.size], _, _, H1, rfl, I2,
    turn_enumT a (s1.heap.objs.size + 1) s1.heap.objs.size, ⟨⟨.none, he⟩, hit, Nat.succ_ne_self _, Nat.ne_of_gt (Nat.lt_succ_of_lt hal), Nat.ne_of_lt hal⟩, ?_, q⟩
  intro b hb
  have hle : s1.heap.objs.size ≤ b := by
    rcases List.mem_cons.mp hb with z | z
    · rw [z]; exact Nat.le_add_right _ _
    · rw [List.mem_singleton.mp z]; exact Nat.le_refl _
  exact I1.fpOk hle (I1.hok.fresh hle)
/-- for i, x in enumerate(t) -/
theorem for_enumT {K : PySem.W.Frag} {a : Addr} {xs : List V} {g : TG} {tb : TS} {D : Ends} {σ : L2.St} {H : Hp}
    (Pv : Nat → L2.St → Hp → Prop) (h0 : Pv 0 σ H) (hq : ∀ i σ H, Pv i σ H → SqT K H a xs)
    (hs : ∀ (i : Nat) (x : V) (T : Addr) (σ : L2.St) (H : Hp), xs[i]? = some x → Pv i σ H → H T = none →
      g (.ref T) σ (upd H T (.tup [.int (i : Nat), x])) fun σ2 H2 =>
        tb { D with nx := Pv (i + 1), ct := Pv (i + 1), bk := D.nx } σ2 H2)
    (hd : ∀ σ H, Pv xs.length σ H → D.nx σ H) :
    ∃ W : Nat → Nat → L2.St → Hp → Prop, (∃ m, W 0 m σ H) ∧ ∀ i m σ H, W i m σ H →
      ((ItE K a).stop i H ∧ D.nx σ H) ∨ ((ItE K a).go i H ∧ ∃ N : L2.St → Hp → Prop,
        (∀ σ' H', N σ' H' → ∃ m', m' < m ∧ W (i + 1) m' σ' H') ∧
        ∀ v H', (ItE K a).yld i H v H' → g v σ H' fun σ2 H2 =>
          tb { D with nx := N, ct := N, bk := D.nx } σ2 H2) := by
  refine ⟨fun i m σ H => m = xs.length - i ∧ i ≤ xs.length ∧ Pv i σ H, ⟨xs.length, rfl, Nat.zero_le _, h0⟩, ?_⟩
  rintro i m σ H ⟨rfl, hi, p⟩
  have qx := hq i σ H p
  by_cases hlt : i < xs.length
  · have hx : xs[i]? = some xs[i] := List.getElem?_eq_getElem hlt
    refine .inr ⟨⟨xs, _, qx, hx⟩, Pv (i + 1), fun σ' H' p' => ⟨xs.length - (i + 1), by omega, rfl, hlt, p'⟩, ?_⟩
    intro v H' y
    obtain ⟨T, x', rfl, hT, rfl, f1⟩ := y
    exact hs i x' T σ H (f1 xs qx) p hT
  · have e : i = xs.length := by omega
    subst e
    exact .inl ⟨⟨xs, qx, rfl⟩, hd σ H p⟩
end Gd
namespace Gd
open PySem PySem.Spec PyProof.Rows L2
theorem call_isiK {X : Cx} {K : PySem.W.Frag} (hK : X.K = K) : CallR X (.builtin "isinstance") (rIsi K) := by
  subst hK; exact call_isi
theorem sqt_ty {K : PySem.W.Frag} {H : Hp} {a : Addr} {xs : List V} (h : SqT K H a xs) : TyX K H (.ref a) (.type "tuple") := by
  rcases h with (h | ⟨o, h⟩) | h
  · exact .base (.tup h)
  · exact .fTuple h
  · obtain ⟨o, its, n, hk, hc, _⟩ := h
    exact .kTuple hk hc
/-! ### deeds -/
inductive Deed where
  | swap (i j : Nat) | turn (i : Nat) | add (i j : Nat) (k : Int)
def deedD : Deed → PyData
  | .swap i j => .tuple [.str "swap", .int i, .int j]
  | .turn i => .tuple [.str "turn", .int i]
  | .add i j k => .tuple [.str "add", .int i, .int j, .int k]
def OkD (m : Nat) (b : Int) : Deed → Prop
  | .swap i j => i < m ∧ j < m ∧ i ≠ j
  | .turn i => i < m
  | .add i j k => i < m ∧ j < m ∧ i ≠ j ∧ -b ≤ k ∧ k ≤ b
def deedsD (ds : List Deed) : PyData := .tuple (ds.map deedD)
theorem deedD_tup (d : Deed) : tupOnly (deedD d) = true := by cases d <;> simp [deedD, tupOnly, tupAll]
theorem deedsD_tup (ds : List Deed) : tupOnly (deedsD ds) = true := by
  simp only [deedsD, tupOnly, tupAll_iff]
  intro d hd
  obtain ⟨x, _, rfl⟩ := List.mem_map.mp hd
  exact deedD_tup x
def scaleR (r : List Int) (k : Int) : List Int := (List.range r.length).map fun c => k * r.getD c 0
def sumRow (r t : List Int) : List Int := (List.range r.length).map fun c => r.getD c 0 + t.getD c 0
def stepD (rs : List (List Int)) : Deed → List (List Int)
  | .swap i j => (rs.set i (rs.getD j [])).set j (rs.getD i [])
  | .turn i => rs.set i (scaleR (rs.getD i []) (-1))
  | .add i j k => rs.set i (sumRow (rs.getD i []) (scaleR (rs.getD j []) k))
theorem stepD_len (rs : List (List Int)) (d : Deed) : (stepD rs d).length = rs.length := by
  cases d <;> simp [stepD]
theorem mem_set {α : Type} {l : List α} {i : Nat} {x y : α} (h : y ∈ l.set i x) : y = x ∨ y ∈ l := by
  rcases List.mem_or_eq_of_mem_set h with h | h
  · exact Or.inr h
  · exact Or.inl h
theorem stepD_wide {rs : List (List Int)} {w : Nat} {d : Deed} {m : Nat} {b : Int} (h : ∀ r ∈ rs, r.length = w) (hm : rs.length = m) (hd : OkD m b d) :
    ∀ r ∈ stepD rs d, r.length = w := by
  intro r hr
  cases d with
  | swap i j =>
    obtain ⟨h1, h2, _⟩ := hd
    rcases mem_set hr with rfl | hr
    · exact h _ (getD_mem (by omega))
    · rcases mem_set hr with rfl | hr
      · exact h _ (getD_mem (by omega))
      · exact h r hr
  | turn i =>
    have h1 : i < m := hd
    rcases mem_set hr with rfl | hr
    · simp only [scaleR, List.length_map, List.length_range]
      exact h _ (getD_mem (by omega))
    · exact h r hr
  | add i j k =>
    obtain ⟨h1, h2, _⟩ := hd
    rcases mem_set hr with rfl | hr
    · simp only [sumRow, List.length_map, List.length_range]
      exact h _ (getD_mem (by omega))
    · exact h r hr
theorem dpa_set {K : PySem.W.Frag} {H : Hp} : ∀ (ds : List PyData) (xs : List V) (i : Nat) (v : V) (d : PyData),
    DpAll K H xs ds → Dp K H v d → DpAll K H (xs.set i v) (ds.set i d)
  | [], xs, i, v, d, h, e => by rw [dpa_nil h]; exact .nil
  | d0 :: ds, xs, i, v, d, h, e => by
    obtain ⟨x, vs, rfl, h1, h2⟩ := dpa_cons h
    cases i with
    | zero => exact .cons e h2
    | succ i => exact .cons h1 (dpa_set ds vs i v d h2 e)
theorem map_set {α β : Type} (f : α → β) (l : List α) (i : Nat) (x : α) : (l.set i x).map f = (l.map f).set i (f x) := List.map_set
/-- the greatest number grows by a deed -/
theorem stepD_bd {rs : List (List Int)} {d : Deed} {m : Nat} {b c : Int} (hb : 0 ≤ b) (hc : 1 ≤ c) (h : Bs b rs) (hm : rs.length = m) (hd : OkD m c d) :
    Bs (b * (c + 1)) (stepD rs d) := by
  have e : b * (c + 1) = b * c + b := by rw [Int.mul_add, Int.mul_one]
  have hbc : 0 ≤ b * c := Int.mul_nonneg hb (by omega)
  have hbb : b ≤ b * c := by
    have := Int.mul_le_mul_of_nonneg_left hc hb
    rw [Int.mul_one] at this
    exact this
  have up : ∀ r, Bd b r → Bd (b * (c + 1)) r := fun r hr x hx => by
    have := hr x hx
    rw [e]
    omega
  intro r hr
  cases d with
  | swap i j =>
    obtain ⟨h1, h2, _⟩ := hd
    rcases mem_set hr with rfl | hr
    · exact up _ (h _ (getD_mem (by omega)))
    · rcases mem_set hr with rfl | hr
      · exact up _ (h _ (getD_mem (by omega)))
      · exact up _ (h r hr)
  | turn i =>
    have h1 : i < m := hd
    rcases mem_set hr with rfl | hr
    · intro x hx
      obtain ⟨k, _, rfl⟩ := List.mem_map.mp hx
      have := (h _ (getD_mem (d := []) (show i < rs.length by omega))).at hb k
      rw [e]
      omega
    · exact up _ (h r hr)
  | add i j k =>
    obtain ⟨h1, h2, _, k1, k2⟩ := hd
    rcases mem_set hr with rfl | hr
    · intro x hx
      obtain ⟨n, hn, rfl⟩ := List.mem_map.mp hx
      have a1 := (h _ (getD_mem (d := []) (show i < rs.length by omega))).at hb n
      have a2 : -(b * c) ≤ (scaleR (rs.getD j []) k).getD n 0 ∧ (scaleR (rs.getD j []) k).getD n 0 ≤ b * c := by
        refine Bd.at ?_ hbc n
        intro y hy
        obtain ⟨q, _, rfl⟩ := List.mem_map.mp hy
        have a3 := (h _ (getD_mem (d := []) (show j < rs.length by omega))).at hb q
        have := mul_bd (by omega) hb ⟨k1, k2⟩ a3
        rw [Int.mul_comm c b] at this
        exact this
      rw [e]
      omega
    · exact up _ (h r hr)
end Gd
namespace Gd
open PySem PySem.Spec PyProof.Rows L2
theorem ixN_of {n i : Nat} (h : i < n) : ixN n (i : Int) = some i := by
  unfold ixN
  rw [if_pos (by omega), if_pos (by omega)]
  simp
end Gd
namespace Gd
open PySem PySem.Spec PyProof.Rows L2
/-- [e for x in l], l a list that stays -/
theorem lcl {K : PySem.W.Frag} {te : TE} {vs : List Nat} {σ : L2.St} {H : Hp} {D : Addr} {Qd : Hp → Prop} {j : Nat} {a : Addr} {xs : List V} (f : Nat → PyData) (hD : H D = none)
    (hx : SqL K H a xs) (hn : xs.length ≤ 50000)
    (ht : ∀ i, i < xs.length → tupOnly (f i) = true)
    (hw : ∀ x, wipe ((wipe σ vs).set j (some x)) vs = wipe σ vs)
    (hs : ∀ (i : Nat) (x : V) (H1 : Hp) (Q : VK), xs[i]? = some x → Same H H1 →
      (∀ y H2, Same H1 H2 → Dp K H2 y (f i) → Q y H2) →
      te ((wipe σ vs).set j (some x)) H1 Q)
    (hd : ∀ H' ys, Same H H' → H' D = some (.lst ys) → DpAll K H' ys ((List.range xs.length).map f) → Qd H') :
    ∃ W : Nat → Nat → Hp → Prop, (∃ m, W 0 m (upd H D (.lst []))) ∧ ∀ i m H, W i m H →
      ((Itl K a).stop i H ∧ Qd H) ∨ ((Itl K a).go i H ∧ ∃ Nx : Hp → Prop,
        (∀ H', Nx H' → ∃ m', m' < m ∧ W (i + 1) m' H') ∧
        ∀ x H', (Itl K a).yld i H x H' → gName j x (wipe σ vs) H' fun σ2 H2 =>
          wipe σ2 vs = wipe σ vs ∧ tYes σ2 H2 fun b H3 =>
            if b = true then te σ2 H3 fun y H4 => ∃ acc, H4 D = some (.lst acc) ∧
              acc.length < sizeLine ∧ Nx (upd H4 D (.lst (acc ++ [y]))) else Nx H3) := by
  refine lc_list (xs := xs) (Lw K H f D) (Lw.start hD) (fun i H' _ p => sql_same p.1 hx) ?_ ?_
  · intro i x H' hi p
    have hlt := (List.getElem?_eq_some_iff.mp hi).1
    refine ⟨hw _, ?_⟩
    unfold tYes
    dsimp only
    rw [if_pos rfl]
    exact hs i x H' _ hi p.1 fun y H2 e hy => Lw.turn hD (tupOnly_le ht hlt) p e hy (by omega)
  · rintro H' ⟨h0, ys, h1, h2⟩
    exact hd H' ys h0 h1 h2
/-! ### a list of lists of numbers, one's own -/
def NLp (H0 H : Hp) (D : Addr) (rs : List (List Int)) (ps : List Addr) : Prop :=
  H D = some (.lst (ps.map V.ref)) ∧ ps.length = rs.length ∧ D ∉ ps ∧ H0 D = none ∧ (∀ p ∈ ps, H0 p = none) ∧
  (∀ (i j : Nat) (p : Addr), ps[i]? = some p → ps[j]? = some p → i = j) ∧
  (∀ (i : Nat) (p : Addr), ps[i]? = some p → H p = some (.lst ((rs.getD i []).map V.int))) ∧ Same H0 H
def NL (H0 H : Hp) (D : Addr) (rs : List (List Int)) : Prop := ∃ ps, NLp H0 H D rs ps
theorem NL.start {H : Hp} {D : Addr} (h : H D = none) : NL H (upd H D (.lst [])) D [] :=
  ⟨[], upd_same, rfl, List.not_mem_nil, h, (fun p hp => nomatch hp), (fun i j p e => nomatch e), (fun i p e => nomatch e), Same.new h⟩
theorem NL.same {H0 H H' : Hp} {D : Addr} {rs : List (List Int)} (h : NL H0 H D rs) (e : Same H H') : NL H0 H' D rs := by
  obtain ⟨ps, a1, a2, a3, a4, a5, a6, a7, a8⟩ := h
  exact ⟨ps, e _ _ a1, a2, a3, a4, a5, a6, fun i p hp => e _ _ (a7 i p hp), a8.trans e⟩
theorem NL.base {H0 H : Hp} {D : Addr} {rs : List (List Int)} (h : NL H0 H D rs) : Same H0 H := by
  obtain ⟨ps, _, _, _, _, _, _, _, a8⟩ := h
  exact a8
/-- one more row behind -/
theorem NL.push {H0 H : Hp} {D l : Addr} {rs : List (List Int)} {r : List Int} (h : NL H0 H D rs) (nl : H l = none) :
    ∃ ps : List Addr, upd H l (.lst (r.map V.int)) D = some (.lst (ps.map V.ref)) ∧ ps.length = rs.length ∧
      NL H0 (upd (upd H l (.lst (r.map V.int))) D (.lst (ps.map V.ref ++ [.ref l]))) D (rs ++ [r]) := by
  obtain ⟨ps, a1, a2, a3, a4, a5, a6, a7, a8⟩ := h
  have hDl : D ≠ l := ne_of_none a1 nl
  have l0 : H0 l = none := a8.free nl
  have lps : ∀ (i : Nat) (p : Addr), ps[i]? = some p → p ≠ l := fun i p hp => ne_of_none (a7 i p hp) nl
  refine ⟨ps, by rw [upd_ne hDl]; exact a1, a2, ps ++ [l], ?_, ?_, ?_, a4, ?_, ?_, ?_, ?_⟩
  · rw [upd_same, List.map_append]
    rfl
  · rw [List.length_append, List.length_append, a2]
    rfl
  · intro hm
    rcases List.mem_append.mp hm with h | h
    · exact a3 h
    · exact hDl (List.mem_singleton.mp h)
  · intro p hp
    rcases List.mem_append.mp hp with h | h
    · exact a5 p h
    · rw [List.mem_singleton.mp h]
      exact l0
  · have at_ : ∀ (i : Nat) (p : Addr), (ps ++ [l])[i]? = some p → (i < ps.length ∧ ps[i]? = some p) ∨ (i = ps.length ∧ p = l) := by
      intro i p hp
      by_cases hi : i < ps.length
      · rw [List.getElem?_append_left hi] at hp
        exact Or.inl ⟨hi, hp⟩
      · rw [List.getElem?_append_right (by omega)] at hp
        have : i - ps.length = 0 := by
          cases hq : i - ps.length with
          | zero => rfl
          | succ n => rw [hq] at hp; simp at hp
        rw [this] at hp
        simp at hp
        exact Or.inr ⟨by omega, hp.symm⟩
    intro i j p hi hj
    rcases at_ i p hi with ⟨b1, b2⟩ | ⟨b1, b2⟩ <;> rcases at_ j p hj with ⟨c1, c2⟩ | ⟨c1, c2⟩
    · exact a6 i j p b2 c2
    · exact absurd c2 (lps i p b2)
    · exact absurd b2 (lps j p c2)
    · omega
  · intro i p hp
    by_cases hi : i < ps.length
    · rw [List.getElem?_append_left hi] at hp
      have hne : p ≠ D := fun z => a3 (z ▸ List.mem_of_getElem? hp)
      rw [upd_ne hne, upd_ne (lps i p hp), a7 i p hp, List.getD_eq_getElem?_getD, List.getD_eq_getElem?_getD, List.getElem?_append_left (by omega)]
    · rw [List.getElem?_append_right (by omega)] at hp
      have e0 : i - ps.length = 0 := by
        cases hq : i - ps.length with
        | zero => rfl
        | succ n => rw [hq] at hp; simp at hp
      rw [e0] at hp
      simp at hp
      subst hp
      rw [upd_ne hDl.symm, upd_same, List.getD_eq_getElem?_getD, List.getElem?_append_right (by omega)]
      have e1 : i - rs.length = 0 := by omega
      rw [e1]
      rfl
  · exact Same.mut (Same.mut a8 l0) a4
theorem NL.row {H0 H : Hp} {D : Addr} {rs : List (List Int)} {i : Nat} (h : NL H0 H D rs) (hi : i < rs.length) :
    ∃ (ps : List Addr) (p : Addr), H D = some (.lst (ps.map V.ref)) ∧ ps.length = rs.length ∧ (ps.map V.ref)[i]? = some (.ref p) ∧ H p = some (.lst ((rs.getD i []).map V.int)) ∧
      ∀ (z : Int) (k : Nat), NL H0 (upd H p (.lst (((rs.getD i []).map V.int).set k (.int z)))) D (rs.set i ((rs.getD i []).set k z)) := by
  obtain ⟨ps, a1, a2, a3, a4, a5, a6, a7, a8⟩ := h
  have hlt : i < ps.length := by omega
  have ep : ps[i]? = some ps[i] := List.getElem?_eq_getElem hlt
  have hp0 := a5 _ (List.getElem_mem hlt)
  have hDp : D ≠ ps[i] := fun z => a3 (z ▸ List.getElem_mem hlt)
  refine ⟨ps, ps[i], a1, a2, by rw [List.getElem?_map, ep]; rfl, a7 i _ ep, ?_⟩
  intro z k
  refine ⟨ps, by rw [upd_ne hDp]; exact a1, by rw [List.length_set]; exact a2, a3, a4, a5, a6, ?_, Same.mut a8 hp0⟩
  intro j q hq
  by_cases hij : j = i
  · subst hij
    have eq : q = ps[j] := Option.some.inj (hq.symm.trans ep)
    rw [eq, upd_same, List.getD_eq_getElem?_getD (l := rs.set _ _), List.getElem?_set_self hi, ← List.map_set]
    rfl
  · have hne : q ≠ ps[i] := fun e => hij (a6 j i q hq (by rw [e]; exact ep))
    rw [upd_ne hne, a7 j q hq, List.getD_eq_getElem?_getD, List.getD_eq_getElem?_getD, List.getElem?_set_ne (fun e => hij e.symm)]
theorem NL.swap {H0 H : Hp} {D : Addr} {rs : List (List Int)} {i j : Nat} (h : NL H0 H D rs) (hi : i < rs.length) (hj : j < rs.length) (hij : i ≠ j) :
    ∃ (ps : List Addr) (p q : Addr), H D = some (.lst (ps.map V.ref)) ∧ ps.length = rs.length ∧ (ps.map V.ref)[i]? = some (.ref p) ∧ (ps.map V.ref)[j]? = some (.ref q) ∧
      ∀ o, NL H0 (upd (upd H D o) D (.lst (((ps.map V.ref).set i (.ref q)).set j (.ref p)))) D ((rs.set i (rs.getD j [])).set j (rs.getD i [])) := by
  obtain ⟨ps, a1, a2, a3, a4, a5, a6, a7, a8⟩ := h
  have hli : i < ps.length := by omega
  have hlj : j < ps.length := by omega
  have ei : ps[i]? = some ps[i] := List.getElem?_eq_getElem hli
  have ej : ps[j]? = some ps[j] := List.getElem?_eq_getElem hlj
  refine ⟨ps, ps[i], ps[j], a1, a2, by rw [List.getElem?_map, ei]; rfl, by rw [List.getElem?_map, ej]; rfl, ?_⟩
  intro o
  have at_ : ∀ (k : Nat) (p : Addr), ((ps.set i ps[j]).set j ps[i])[k]? = some p → (k = j ∧ p = ps[i]) ∨ (k = i ∧ k ≠ j ∧ p = ps[j]) ∨ (k ≠ i ∧ k ≠ j ∧ ps[k]? = some p) := by
    intro k p hk
    by_cases kj : k = j
    · subst kj
      rw [List.getElem?_set_self (by rw [List.length_set]; omega)] at hk
      exact Or.inl ⟨rfl, (Option.some.inj hk).symm⟩
    · rw [List.getElem?_set_ne (fun e => kj e.symm)] at hk
      by_cases ki : k = i
      · subst ki
        rw [List.getElem?_set_self (by omega)] at hk
        exact Or.inr (Or.inl ⟨rfl, kj, (Option.some.inj hk).symm⟩)
      · rw [List.getElem?_set_ne (fun e => ki e.symm)] at hk
        exact Or.inr (Or.inr ⟨ki, kj, hk⟩)
  have mem_ : ∀ p ∈ (ps.set i ps[j]).set j ps[i], p ∈ ps := by
    intro p hp
    rcases List.mem_or_eq_of_mem_set hp with h | h
    · rcases List.mem_or_eq_of_mem_set h with h | h
      · exact h
      · rw [h]
        exact List.getElem_mem hlj
    · rw [h]
      exact List.getElem_mem hli
  refine ⟨(ps.set i ps[j]).set j ps[i], ?_, by simp [a2], fun hm => a3 (mem_ D hm), a4, fun p hp => a5 p (mem_ p hp), ?_, ?_, Same.mut (Same.mut a8 a4) a4⟩
  · rw [upd_same, List.map_set, List.map_set]
  · intro k l p hk hl
    rcases at_ k p hk with ⟨b1, b2⟩ | ⟨b1, b0, b2⟩ | ⟨b1, b0, b2⟩ <;> rcases at_ l p hl with ⟨c1, c2⟩ | ⟨c1, c0, c2⟩ | ⟨c1, c0, c2⟩
    · omega
    · have := a6 i j p (by rw [b2]; exact ei) (by rw [c2]; exact ej)
      omega
    · have := a6 i l p (by rw [b2]; exact ei) c2
      omega
    · have := a6 i j p (by rw [c2]; exact ei) (by rw [b2]; exact ej)
      omega
    · omega
    · have := a6 j l p (by rw [b2]; exact ej) c2
      omega
    · have := a6 i k p (by rw [c2]; exact ei) b2
      omega
    · have := a6 j k p (by rw [c2]; exact ej) b2
      omega
    · exact a6 k l p b2 c2
  · intro k p hk
    have hne : p ≠ D := fun z => a3 (z ▸ mem_ p (List.mem_of_getElem? hk))
    rw [upd_ne hne, upd_ne hne]
    rcases at_ k p hk with ⟨b1, b2⟩ | ⟨b1, b0, b2⟩ | ⟨b1, b0, b2⟩
    · rw [b2, a7 i _ ei, b1, List.getD_eq_getElem?_getD (l := List.set _ _ _), List.getElem?_set_self (by rw [List.length_set]; omega)]
      rfl
    · rw [b2, a7 j _ ej, List.getD_eq_getElem?_getD (l := List.set _ _ _), List.getElem?_set_ne (fun e => b0 e.symm), b1, List.getElem?_set_self (by omega)]
      rfl
    · rw [a7 k p b2, List.getD_eq_getElem?_getD, List.getD_eq_getElem?_getD, List.getElem?_set_ne (fun e => b0 e.symm), List.getElem?_set_ne (fun e => b1 e.symm)]
end Gd
namespace Gd
open PySem PySem.Spec PyProof.Rows L2
theorem ixN_of0 {n i : Nat} (h : i < n) : ixN n (0 + (i : Int)) = some i := by
  rw [Int.zero_add]
  exact ixN_of h
def mix (old new : Nat → Int) (w c : Nat) : List Int := (List.range w).map fun k => if k < c then new k else old k
theorem mix_len {old new : Nat → Int} {w c : Nat} : (mix old new w c).length = w := by simp [mix]
theorem mix_zero {r : List Int} {new : Nat → Int} {w : Nat} (h : r.length = w) : mix (fun k => r.getD k 0) new w 0 = r := by
  subst h
  unfold mix
  conv => rhs; rw [← row_id r]
  refine List.map_congr_left ?_
  intro k _
  rw [if_neg (by omega)]
theorem mix_full {old new : Nat → Int} {w : Nat} : mix old new w w = (List.range w).map new := by
  unfold mix
  refine List.map_congr_left ?_
  intro k hk
  rw [if_pos (List.mem_range.mp hk)]
theorem mix_set {old new : Nat → Int} {w c : Nat} (h : c < w) : (mix old new w c).set c (new c) = mix old new w (c + 1) := by
  apply List.ext_getElem
  · simp [mix]
  · intro k h1 h2
    rw [List.getElem_set]
    simp only [mix, List.getElem_map, List.getElem_range]
    split
    · rename_i e
      subst e
      rw [if_pos (by omega)]
    · rename_i e
      by_cases hk : k < c
      · rw [if_pos hk, if_pos (by omega)]
      · rw [if_neg hk, if_neg (by omega)]
theorem mix_at {old new : Nat → Int} {w c k : Nat} (h : k < w) : (mix old new w c).getD k 0 = if k < c then new k else old k := by
  unfold mix
  rw [getD_range h]
theorem getD_set_self {rs : List (List Int)} {i : Nat} {r : List Int} (h : i < rs.length) : (rs.set i r).getD i [] = r := by
  rw [List.getD_eq_getElem?_getD, List.getElem?_set_self h]
  rfl
theorem getD_set_ne {rs : List (List Int)} {i j : Nat} {r : List Int} (h : i ≠ j) : (rs.set i r).getD j [] = rs.getD j [] := by
  rw [List.getD_eq_getElem?_getD, List.getElem?_set_ne h, List.getD_eq_getElem?_getD]
theorem set_self {rs : List (List Int)} {i : Nat} (h : i < rs.length) : rs.set i (rs.getD i []) = rs := by
  apply List.ext_getElem
  · simp
  · intro k h1 h2
    rw [List.getElem_set]
    split
    · rename_i e
      subst e
      rw [List.getD_eq_getElem?_getD, List.getElem?_eq_getElem h]
      rfl
    · rfl
end Gd
namespace Gd
open PySem PySem.Spec PyProof.Rows L2
/-! ### reversed(t), t a tuple -/
section
variable {X : Cx} {K : PySem.W.Frag}
theorem pi_revK {tg e : Expr} {te : TE} {p pos : Pos} (hK : X.K = K) (hg : Gl X "reversed") (hm : X.mg "reversed" = none) (he : PE X e te)
    (hs : starEach [e] X.env = (false, eval e X.env) :: starEach [] X.env := by rfl) :
    PI X tg (.Call (.Name "reversed" p) [e] [] pos) (RT.iRevA K te) := by
  subst hK; exact RT.pi_revA hg hm he hs
end
section
variable {K : PySem.W.Frag} {te : TE} {vs : List Nat} {σ : L2.St} {H : Hp} {D : Addr} {Qd : Hp → Prop}
/-- [e for x in reversed(t)], t a tuple -/
theorem lctR {j : Nat} {a : Addr} {xs : List V} (f : Nat → PyData) (hD : H D = none)
    (hx : SqT K H a xs) (hn : xs.length ≤ 50000)
    (ht : ∀ i, i < xs.length → tupOnly (f i) = true)
    (hw : ∀ x, wipe ((wipe σ vs).set j (some x)) vs = wipe σ vs)
    (hs : ∀ (i : Nat) (x : V) (H1 : Hp) (Q : VK), i < xs.length → xs[xs.length - 1 - i]? = some x → Same H H1 →
      (∀ y H2, Same H1 H2 → Dp K H2 y (f i) → Q y H2) →
      te ((wipe σ vs).set j (some x)) H1 Q)
    (hd : ∀ H' ys, Same H H' → H' D = some (.lst ys) → DpAll K H' ys ((List.range xs.length).map f) → Qd H') :
    ∃ W : Nat → Nat → Hp → Prop, (∃ m, W 0 m (upd H D (.lst []))) ∧ ∀ i m H, W i m H →
      ((RT.ItvT K a xs.length).stop i H ∧ Qd H) ∨ ((RT.ItvT K a xs.length).go i H ∧ ∃ Nx : Hp → Prop,
        (∀ H', Nx H' → ∃ m', m' < m ∧ W (i + 1) m' H') ∧
        ∀ x H', (RT.ItvT K a xs.length).yld i H x H' → gName j x (wipe σ vs) H' fun σ2 H2 =>
          wipe σ2 vs = wipe σ vs ∧ tYes σ2 H2 fun b H3 =>
            if b = true then te σ2 H3 fun y H4 => ∃ acc, H4 D = some (.lst acc) ∧
              acc.length < sizeLine ∧ Nx (upd H4 D (.lst (acc ++ [y]))) else Nx H3) := by
  refine ⟨fun i m H' => m = xs.length - i ∧ i ≤ xs.length ∧ Lw K H f D i H',
    ⟨xs.length, rfl, Nat.zero_le _, Lw.start hD⟩, ?_⟩
  rintro i m H' ⟨rfl, hi, p⟩
  have qx := sqt_same p.1 hx
  by_cases hlt : i < xs.length
  · have hj : xs.length - 1 - i < xs.length := by omega
    have e1 : xs[xs.length - 1 - i]? = some xs[xs.length - 1 - i] := List.getElem?_eq_getElem hj
    refine .inr ⟨⟨hlt, xs, _, qx, e1⟩, Lw K H f D (i + 1),
      fun H2 p2 => ⟨xs.length - (i + 1), by omega, rfl, hlt, p2⟩, ?_⟩
    intro v H2 hy
    obtain ⟨rfl, f1⟩ := hy
    refine ⟨hw _, ?_⟩
    unfold tYes
    dsimp only
    rw [if_pos rfl]
    refine hs i v _ _ hlt (f1 xs qx) p.1 ?_
    intro y H3 e hy
    exact Lw.turn hD (tupOnly_le ht hlt) p e hy (by omega)
  · have e : i = xs.length := by omega
    subst e
    obtain ⟨h0, ys, h1, h2⟩ := p
    exact .inl ⟨Nat.le_refl _, hd H' ys h0 h1 h2⟩
end
/-! ### contrary deeds -/
def conD : Deed → Deed
  | .swap i j => .swap i j
  | .turn i => .turn i
  | .add i j k => .add i j (-k)
def backD (ds : List Deed) : List Deed := ds.reverse.map conD
theorem conD_con (d : Deed) : conD (conD d) = d := by cases d <;> simp [conD]
theorem backD_back (ds : List Deed) : backD (backD ds) = ds := by
  unfold backD
  rw [← List.map_reverse, List.reverse_reverse, List.map_map]
  conv => rhs; rw [← List.map_id ds]
  refine List.map_congr_left ?_
  intro d _
  exact conD_con d
theorem conD_ok {m : Nat} {b : Int} {d : Deed} (h : OkD m b d) : OkD m b (conD d) := by
  cases d with
  | swap i j => exact h
  | turn i => exact h
  | add i j k => exact ⟨h.1, h.2.1, h.2.2.1, by have := h.2.2.2; omega, by have := h.2.2.2; omega⟩
theorem backD_ok {m : Nat} {b : Int} {ds : List Deed} (h : ∀ d ∈ ds, OkD m b d) : ∀ d ∈ backD ds, OkD m b d := by
  intro d hd
  obtain ⟨x, hx, rfl⟩ := List.mem_map.mp hd
  exact conD_ok (h x (List.mem_reverse.mp hx))
theorem backD_len (ds : List Deed) : (backD ds).length = ds.length := by simp [backD]
theorem deed_at {ds : List Deed} {i : Nat} {x : Deed} (h : ds[i]? = some x) {e : Deed} : ds.getD i e = x := by
  rw [List.getD_eq_getElem?_getD, h]
  rfl
theorem backD_range (ds : List Deed) : (List.range ds.length).map (fun i => deedD (conD (ds.getD (ds.length - 1 - i) (.turn 0)))) = (backD ds).map deedD := by
  unfold backD
  apply List.ext_getElem
  · simp
  · intro i h1 h2
    have hi : i < ds.length := by simpa using h1
    simp only [List.getElem_map, List.getElem_range, List.getElem_reverse]
    rw [List.getD_eq_getElem?_getD, List.getElem?_eq_getElem (by omega)]
    rfl
end Gd
namespace Gd
open PySem PySem.Spec PyProof.Rows L2
/-! ### is of truths; all; xs[::-1] -/
section
variable {X : Cx} {K : PySem.W.Frag}
theorem op_isB : OpR X (compareOp .Is) (fun x y H Q => ∃ m n, x = .bl m ∧ y = .bl n ∧ Q (.bl (decide (m = n))) H) := by
  intro pins s σ H x y v u Q I rx ry h
  obtain ⟨m, n, rfl, rfl, q⟩ := h
  cases (show v = Value.bool m from rx)
  cases (show u = Value.bool n from ry)
  by_cases e : m = n
  · subst e
    exact wpAny_is_self rfl ⟨.bl true, H, I, rfl, by simpa using q⟩
  · exact wpAny_is_other rfl (fun z => e (Value.bool.inj z)) ⟨.bl false, H, I, rfl, by simpa [e] using q⟩
theorem op_isNotB : OpR X (compareOp .IsNot) (fun x y H Q => ∃ m n, x = .bl m ∧ y = .bl n ∧ Q (.bl (!decide (m = n))) H) := by
  intro pins s σ H x y v u Q I rx ry h
  obtain ⟨m, n, rfl, rfl, q⟩ := h
  cases (show v = Value.bool m from rx)
  cases (show u = Value.bool n from ry)
  by_cases e : m = n
  · subst e
    exact wpAny_isNot_self rfl ⟨.bl false, H, I, rfl, by simpa using q⟩
  · exact wpAny_isNot_other rfl (fun z => e (Value.bool.inj z)) ⟨.bl true, H, I, rfl, by simpa [e] using q⟩
theorem call_allK (hK : X.K = K) (hc : X.calm = true) : CallR X (.builtin "all") (rAll K) := by
  subst hK; exact cr_all hc
theorem pe_revLK {e : Expr} {te : TE} {k : Nat} {p1 p2 p3 pos : Pos} (hK : X.K = K) (he : PE X e te) :
    PE X (.Subscript e (.Slice none none (some (.UnaryOp .USub (.Constant (.int 1) k p1) p2)) p3) pos) (tRevL K te) := by
  subst hK; exact pe_revL he
end
end Gd
namespace Gd
open PySem PySem.Spec PyProof.Rows L2
/-! ### deeds and products -/
theorem ext_getD {α : Type} {l t : List α} (d : α) (hl : l.length = t.length) (h : ∀ k, k < l.length → l.getD k d = t.getD k d) : l = t := by
  apply List.ext_getElem hl
  intro k h1 h2
  have e := h k h1
  rw [List.getD_eq_getElem?_getD, List.getD_eq_getElem?_getD, List.getElem?_eq_getElem h1, List.getElem?_eq_getElem h2] at e
  exact e
theorem getD_set {α : Type} {l : List α} {i k : Nat} {x d : α} (hi : i < l.length) : (l.set i x).getD k d = if k = i then x else l.getD k d := by
  rw [List.getD_eq_getElem?_getD, List.getD_eq_getElem?_getD]
  by_cases h : k = i
  · subst h
    rw [List.getElem?_set_self hi, if_pos rfl]
    rfl
  · rw [List.getElem?_set_ne (fun e => h e.symm), if_neg h]
theorem getD_out {α : Type} {l : List α} {k : Nat} {d : α} (h : l.length ≤ k) : l.getD k d = d := by
  rw [List.getD_eq_getElem?_getD, List.getElem?_eq_none h]
  rfl
theorem scaleR_len {r : List Int} {k : Int} : (scaleR r k).length = r.length := by simp [scaleR]
theorem sumRow_len {r t : List Int} : (sumRow r t).length = r.length := by simp [sumRow]
theorem scaleR_at {r : List Int} {k : Int} {c : Nat} : (scaleR r k).getD c 0 = k * r.getD c 0 := by
  by_cases h : c < r.length
  · unfold scaleR
    rw [getD_range h]
  · rw [getD_out (by rw [scaleR_len]; omega), getD_out (by omega), Int.mul_zero]
theorem sumRow_at {r t : List Int} {c : Nat} (h : c < r.length) : (sumRow r t).getD c 0 = r.getD c 0 + t.getD c 0 := by
  unfold sumRow
  rw [getD_range h]
theorem scaleR_twice {r : List Int} : scaleR (scaleR r (-1)) (-1) = r := by
  refine ext_getD 0 (by rw [scaleR_len, scaleR_len]) fun k _ => ?_
  rw [scaleR_at, scaleR_at]
  omega
theorem sum_back {r t : List Int} {k : Int} : sumRow (sumRow r (scaleR t k)) (scaleR t (-k)) = r := by
  refine ext_getD 0 (by rw [sumRow_len, sumRow_len]) fun c hc => ?_
  rw [sumRow_len, sumRow_len] at hc
  rw [sumRow_at (by rw [sumRow_len]; exact hc), sumRow_at hc, scaleR_at, scaleR_at, Int.neg_mul]
  omega
theorem mulRow_scale {r : List Int} {w : Nat} {ts : List (List Int)} {k : Int} : mulRow (scaleR r k) w ts = scaleR (mulRow r w ts) k := by
  refine ext_getD 0 (by rw [scaleR_len, mulRow_len, mulRow_len]) fun c hc => ?_
  rw [mulRow_len] at hc
  rw [scaleR_at, mulRow_at hc, mulRow_at hc, scaleR_len, ← sumR_mull]
  refine sumR_congr fun i _ => ?_
  rw [scaleR_at, Int.mul_assoc]
theorem mulRow_sum {r t : List Int} {w : Nat} {ts : List (List Int)} (h : r.length = t.length) : mulRow (sumRow r t) w ts = sumRow (mulRow r w ts) (mulRow t w ts) := by
  refine ext_getD 0 (by rw [sumRow_len, mulRow_len, mulRow_len]) fun c hc => ?_
  rw [mulRow_len] at hc
  rw [sumRow_at (by rw [mulRow_len]; exact hc), mulRow_at hc, mulRow_at hc, mulRow_at hc, sumRow_len, ← h, ← sumR_add]
  refine sumR_congr fun i hi => ?_
  rw [sumRow_at hi, Int.add_mul]
theorem stepD_mul {as ts : List (List Int)} {n w m : Nat} {b : Int} {d : Deed} (hw : ∀ r ∈ as, r.length = n) (hm : as.length = m) (hd : OkD m b d) :
    mulR (stepD as d) w ts = stepD (mulR as w ts) d := by
  cases d with
  | swap i j =>
    obtain ⟨h1, h2, _⟩ := hd
    simp only [stepD]
    rw [mulR_at (by omega), mulR_at (by omega), mulR_eq, mulR_eq, List.map_set, List.map_set]
  | turn i =>
    have h1 : i < m := hd
    simp only [stepD]
    rw [mulR_at (by omega), mulR_eq, mulR_eq, List.map_set, mulRow_scale]
  | add i j k =>
    obtain ⟨h1, h2, _⟩ := hd
    simp only [stepD]
    rw [mulR_at (by omega), mulR_at (by omega), mulR_eq, mulR_eq, List.map_set, mulRow_sum, mulRow_scale]
    rw [scaleR_len, hw _ (getD_mem (by omega)), hw _ (getD_mem (by omega))]
theorem stepD_con {rs : List (List Int)} {m : Nat} {b : Int} {d : Deed} (hm : rs.length = m) (hd : OkD m b d) : stepD (stepD rs d) (conD d) = rs := by
  cases d with
  | swap i j =>
    obtain ⟨h1, h2, h3⟩ := hd
    simp only [conD, stepD]
    have e1 : ((rs.set i (rs.getD j [])).set j (rs.getD i [])).getD j [] = rs.getD i [] := by
      rw [getD_set (by rw [List.length_set]; omega), if_pos rfl]
    have e2 : ((rs.set i (rs.getD j [])).set j (rs.getD i [])).getD i [] = rs.getD j [] := by
      rw [getD_set (by rw [List.length_set]; omega), if_neg h3, getD_set (by omega), if_pos rfl]
    rw [e1, e2]
    refine ext_getD [] (by simp) fun k hk => ?_
    rw [getD_set (by simp; omega)]
    by_cases e1 : k = j
    · subst e1
      rw [if_pos rfl]
    · rw [if_neg e1, getD_set (by simp; omega)]
      by_cases e2 : k = i
      · subst e2
        rw [if_pos rfl]
      · rw [if_neg e2, getD_set (by rw [List.length_set]; omega), if_neg e1, getD_set (by omega), if_neg e2]
  | turn i =>
    have h1 : i < m := hd
    simp only [conD, stepD]
    have e1 : (rs.set i (scaleR (rs.getD i []) (-1))).getD i [] = scaleR (rs.getD i []) (-1) := by
      rw [getD_set (by omega), if_pos rfl]
    rw [e1, scaleR_twice]
    refine ext_getD [] (by simp) fun k hk => ?_
    rw [getD_set (by simp; omega)]
    by_cases e : k = i
    · subst e
      rw [if_pos rfl]
    · rw [if_neg e, getD_set (by omega), if_neg e]
  | add i j n =>
    obtain ⟨h1, h2, h3, _⟩ := hd
    simp only [conD, stepD]
    have e1 : (rs.set i (sumRow (rs.getD i []) (scaleR (rs.getD j []) n))).getD i [] = sumRow (rs.getD i []) (scaleR (rs.getD j []) n) := by
      rw [getD_set (by omega), if_pos rfl]
    have e2 : (rs.set i (sumRow (rs.getD i []) (scaleR (rs.getD j []) n))).getD j [] = rs.getD j [] := by
      rw [getD_set (by omega), if_neg (fun e => h3 e.symm)]
    rw [e1, e2, sum_back]
    refine ext_getD [] (by simp) fun k hk => ?_
    rw [getD_set (by simp; omega)]
    by_cases e : k = i
    · subst e
      rw [if_pos rfl]
    · rw [if_neg e, getD_set (by omega), if_neg e]
theorem turn_turn {rs : List (List Int)} {w : Nat} (h : Tb w rs) : turnR rs.length (turnR w rs) = rs := by
  refine ext_getD [] (by rw [turn_len]) fun k hk => ?_
  rw [turn_len] at hk
  refine ext_getD 0 ?_ fun c hc => ?_
  · rw [turnR_eq, getD_range hk, List.length_map, turn_len, h.len hk]
  · rw [turnR_eq, getD_range hk, List.length_map, turn_len] at hc
    show ent (turnR rs.length (turnR w rs)) k c = ent rs k c
    rw [ent_turn hk (by rw [turn_len]; exact hc), ent_turn hc hk]
theorem unit_turn_ne {n i : Nat} (hi : i < n) : stepD (unitR n) (.turn i) ≠ unitR n := by
  intro e
  have hl : (unitR n).length = n := by simp [unitR]
  have h1 : ent (stepD (unitR n) (.turn i)) i i = -1 := by
    unfold ent
    simp only [stepD]
    rw [getD_set (by omega), if_pos rfl, scaleR_at]
    have := ent_unit hi hi
    unfold ent at this
    rw [this, if_pos rfl]
    rfl
  rw [e, ent_unit hi hi, if_pos rfl] at h1
  omega
theorem unit_add_ne {n i j : Nat} (hi : i < n) (hj : j < n) (hij : i ≠ j) : stepD (unitR n) (.add i j 1) ≠ unitR n := by
  intro e
  have hl : (unitR n).length = n := by simp [unitR]
  have hr : ((unitR n).getD i []).length = n := by
    unfold unitR
    rw [getD_range hi]
    simp [unitRow]
  have h1 : ent (stepD (unitR n) (.add i j 1)) i j = 1 := by
    have a1 := ent_unit hi hj
    have a2 := ent_unit hj hj
    unfold ent at a1 a2 ⊢
    simp only [stepD]
    rw [getD_set (by omega), if_pos rfl, sumRow_at (by omega), scaleR_at, a1, a2, if_pos rfl, if_neg (fun z => hij z.symm)]
    rfl
  rw [e, ent_unit hi hj, if_neg (fun z => hij z.symm)] at h1
  omega
end Gd
namespace Gd
open PySem PySem.Spec PyProof.Rows L2
/-! ### truth > int -/
theorem sub_int_bool : isSubtype (.type "int") (.type "bool") = pure false := by rw [isSubtype_type]; kernel_rfl
theorem gives_gt_bi (p : Bool) (j : Int) (u : Tok) : Gives (Builtin.«int.__gt__» ⟨[.bool p, .int j u], []⟩) (.val (Value.bool (decide ((if p = true then (1 : Int) else 0) > j)))) :=
  .of_wp fun M A E s Q h => by obtain ⟨hp, g, d, tk, os⟩ := s; wp_walk; exact ⟨_, rfl, h⟩
theorem gt_bi {prog : Program} {w : World} {A : Around} {E : Value → Shared → Prop} {s : Shared} {p : Bool} {j : Int} {u : Tok} {Q : Value → Shared → Prop}
    (h : Q (.bool (decide ((if p = true then (1 : Int) else 0) > j))) s) : wpAny (model prog w) A (compareOp .Gt (.bool p) (.int j u)) Q E s := by
  show wpAny (model prog w) A (richCompare .Gt (.bool p) (.int j u)) Q E s
  have ha := typeIs_bool' s p
  have hb := typeIs_int s j u
  simp only [richCompare, ha.oneThing_none, cmpInfo]
  try with_reducible refine wpAny_holding ?_
  refine wpAny_bind (wpAny_cRoomFor_or (.inl rfl) ?_)
  refine wpAny_bind (wpAny_typeOf ha (wpAny_bind (wpAny_typeOf hb ?_)))
  rw [if_pos (by decide)]
  refine wpAny_bind (wpAny_of_eq sub_int_bool ?_)
  simp only [Bool.false_eq_true, if_false, pure_bind]
  refine wpAny_bind (wpAny_tryCompare_slot ha F.slot_bool_gt ?_)
  exact call_gives F.slot_bool_gt ha F.entry_int_gt (F.args_int_gt_2 _ _) (gives_gt_bi p j u) ⟨(fun hq => nomatch hq), wpAny_pure h⟩
section
variable {X : Cx} {K : PySem.W.Frag}
/-- x > j, x an int or a truth -/
def rGtN : R2 := fun x y H Q => (∃ i j, x = .int i ∧ y = .int j ∧ Q (.bl (decide (j < i))) H) ∨ ∃ p j, x = .bl p ∧ y = .int j ∧ Q (.bl (decide (j < if p = true then (1 : Int) else 0))) H
theorem op_gtN : OpR X (compareOp .Gt) rGtN := by
  intro pins s σ H x y v u Q I rx ry h
  rcases h with h | ⟨p, j, rfl, rfl, q⟩
  · exact op_gt pins s σ H x y v u Q I rx ry h
  · cases (show v = Value.bool p from rx)
    obtain ⟨t, rfl⟩ := ry
    exact gt_bi ⟨.bl _, H, I, rfl, q⟩
end
/-! ### t[::-1], t a tuple -/
theorem adjust_rev (n : Nat) : Builtin.Slice.sliceAdjust none none (-1) (n : Int) = ((n : Int) - 1, -1) := by
  unfold Builtin.Slice.sliceAdjust
  simp
theorem places_rev (n : Nat) : Builtin.Slice.slicePlaces ((n : Int) - 1) (-1) (-1) = n := by
  unfold Builtin.Slice.slicePlaces
  have h1 : ¬ ((-1 : Int) > 0) := by omega
  simp only [h1, if_false]
  split <;> simp <;> omega
theorem pick_rev (xs : Array Value) : ((List.range xs.size).filterMap fun (m : Nat) => xs[(((xs.size : Nat) : Int) - 1 + (m : Int) * -1).toNat]?).toArray = xs.toList.reverse.toArray := by
  congr 1
  have e : (List.range xs.size).filterMap (fun (m : Nat) => xs[(((xs.size : Nat) : Int) - 1 + (m : Int) * -1).toNat]?) = (List.range xs.size).map (fun m => xs.toList.getD (xs.size - 1 - m) .none) := by
    have key : ∀ l : List Nat, (∀ m ∈ l, m < xs.size) → l.filterMap (fun (m : Nat) => xs[(((xs.size : Nat) : Int) - 1 + (m : Int) * -1).toNat]?) = l.map (fun m => xs.toList.getD (xs.size - 1 - m) .none) := by
      intro l
      induction l with
      | nil => intro _; rfl
      | cons m l ih =>
        intro hl
        have hm := hl m (List.mem_cons_self ..)
        have e1 : (((xs.size : Nat) : Int) - 1 + (m : Int) * -1).toNat = xs.size - 1 - m := by omega
        rw [List.filterMap_cons, List.map_cons, ih (fun z hz => hl z (List.mem_cons_of_mem _ hz)), e1, List.getD_eq_getElem?_getD, Array.getElem?_toList, Array.getElem?_eq_getElem (by omega)]
        rfl
    exact key _ fun m hm => List.mem_range.mp hm
  rw [e]
  apply List.ext_getElem
  · simp
  · intro i h1 h2
    have hi : i < xs.size := by simpa using h1
    simp only [List.getElem_map, List.getElem_range, List.getElem_reverse]
    rw [List.getD_eq_getElem?_getD, List.getElem?_eq_getElem (by rw [Array.length_toList]; omega)]
    simp
theorem getItem_rev {prog : Program} {w : World} {A : Around} {E : Value → Shared → Prop} {s : Shared} {t sl : Addr} {items : Array Value} {vl vu vs : Value} {Q : Value → Shared → Prop}
    (ht : IsTup s.heap t items) (hs : s.heap.IsSliceOf sl vl vu vs) (pl : IsPart vl none) (pu : IsPart vu none) (ps : IsPart vs (some (-1)))
    (h : Q (.ref s.heap.objs.size) { s with heap := s.heap.push { cls := .type "tuple", data := .seq items.toList.reverse.toArray } })
    (hsz : items.size ≤ sizeLine) : wpAny (model prog w) A (getItem (.ref t) (.ref sl)) Q E s := by
  have hok : sizeOk (.seq items.toList.reverse.toArray) := by
    show items.toList.reverse.toArray.size ≤ sizeLine
    simpa using hsz
  obtain ⟨os, hos, hcs, hds⟩ := id hs
  have hTs : s.TypeIs (.ref sl) "slice" := ⟨os, hos, hcs⟩
  unfold getItem
  try with_reducible refine wpAny_holding ?_
  first | refine wpAny_bind (wpAny_pure ?_) | skip
  refine wpAny_bind (wpAny_sequenceKey ht.typeIs (by decide) ?_)
  refine wpAny_bind (wpAny_callSpecial?_slot (name := Str.ofString "__getitem__") ht.typeIs PyProof.Rows.slot_tuple_getitem (wpAny_call_entry PyProof.Rows.slot_tuple_getitem ht.typeIs entry_tuple_getitem ?_ (args_tuple_getitem _ _)))
  show wpAny _ _ (Builtin.Tuple.tupleItemsOf (.ref t) >>= _) _ _ s
  refine wpAny_bind (tupleItemsOf_ ht ?_)
  refine wpAny_bind (wpAny_typeOf hTs ?_)
  rw [if_pos (by decide)]
  refine wpAny_bind ?_
  unfold Builtin.Slice.sliceApplied Builtin.Slice.sliceFields
  refine wpAny_bind (wpAny_bind (wpAny_field hos hds (x := vl) rfl (wpAny_bind (wpAny_field hos hds (x := vu) rfl (wpAny_bind (wpAny_field hos hds (x := vs) rfl (wpAny_pure ?_)))))))
  refine wpAny_bind (HT.slicePart_ ps ?_)
  show wpAny _ _ (if ((-1 : Int) == 0) = true then _ else _) _ _ s
  rw [if_neg (by decide)]
  refine wpAny_bind (HT.slicePart_ pl (wpAny_bind (HT.slicePart_ pu (wpAny_bind (wpAny_pure ?_)))))
  show wpAny _ _ (match Builtin.Slice.sliceAdjust none none (-1) (items.size : Int) with | (lo, hi) => pure (lo, (-1 : Int), Builtin.Slice.slicePlaces lo hi (-1))) _ _ s
  rw [adjust_rev]
  show wpAny _ _ (pure ((items.size : Int) - 1, (-1 : Int), Builtin.Slice.slicePlaces ((items.size : Int) - 1) (-1) (-1))) _ _ s
  rw [places_rev]
  refine wpAny_pure ?_
  show wpAny _ _ (if ((items.size : Int) - 1 == 0 && (-1 : Int) == 1 && items.size == items.size) = true then _ else _) _ _ s
  rw [if_neg (by simp), pick_rev]
  first
    | exact wpAny_bind (m := Builtin.Tuple.tupleExact _) (wpAny_newObj_type (wpAny_pure ⟨_, rfl, wpAny_pure h⟩) hok)
    | exact wpAny_bind (m := Builtin.Tuple.tupleExact _) (wpAny_newObj_type (wpAny_bind (wpAny_pure (wpAny_pure ⟨_, rfl, wpAny_pure h⟩))) hok)
    | exact wpAny_bind (wpAny_bind (m := Builtin.Tuple.tupleExact _) (wpAny_newObj_type (wpAny_pure (wpAny_pure ⟨_, rfl, wpAny_pure h⟩)) hok))
    | exact wpAny_bind (wpAny_bind (m := Builtin.Tuple.tupleExact _) (wpAny_newObj_type (wpAny_pure ⟨_, rfl, wpAny_pure h⟩) hok))
def tRevT (K : PySem.W.Frag) (te : TE) : TE := fun σ H Q => te σ H fun x H1 => ∃ a xs, x = .ref a ∧ SqT K H1 a xs ∧ ∀ p, H1 p = none → Q (.ref p) (upd H1 p (.tup xs.reverse))
theorem pe_revT {X : Cx} {e : Expr} {te : TE} {k : Nat} {p1 p2 p3 pos : Pos} (he : PE X e te) :
    PE X (.Subscript e (.Slice none none (some (.UnaryOp .USub (.Constant (.int 1) k p1) p2)) p3) pos) (tRevT X.K te) := by
  refine ⟨fun pins s σ H Q I h => Subscript_ (thn (he.run pins s σ H _ I h) fun v s1 hx => ?_)⟩
  obtain ⟨x, H1, I1, r1, a, xs, rfl, hq, q⟩ := hx
  cases r1
  have hm : PO X (some (.UnaryOp .USub (.Constant (.int 1) k p1) p2)) (tPart (tUn (rU fun i => .int (-i)) (tC (.int 1)))) := po_some (pe_un un_neg pe_int)
  refine wpAny_Slice (thn (po_none.run pins s1 σ H1 (fun o G => o = none ∧ G = H1) I1 ⟨rfl, rfl⟩) fun vl s2 hl => ?_)
  obtain ⟨o2, G2, I2, pl, eo, eG⟩ := hl
  subst eo eG
  refine thn (po_none.run pins s2 σ _ (fun o G => o = none ∧ G = G2) I2 ⟨rfl, rfl⟩) fun vu s3 hu => ?_
  obtain ⟨o3, G3, I3, pu, eo, eG⟩ := hu
  subst eo eG
  refine thn (hm.run pins s3 σ _ (fun o G => o = some (-1) ∧ G = G3) I3 ⟨1, rfl, -1, rfl, rfl, rfl⟩) fun vs s4 hv => ?_
  obtain ⟨o4, G4, I4, ps, eo, eG⟩ := hv
  subst eo eG
  have I5 : Inv X pins σ G4 { s4 with heap := s4.heap.push { cls := .type "slice", data := .fields #[vl, vu, vs] } } := I4.kept (t' := s4.toks) fun b o z => Heap.get?_push_of_some _ z
  obtain ⟨its, r, ht, hz⟩ := I5.tuple hq
  have hn := r.length
  refine tail_any (ops := [.ref a, .ref s4.heap.objs.size]) ht.typeIs (PyProof.Rows.slot_tuple_getitem.lookup) ?_ (by with_unfolding_all rfl)
  refine getItem_rev ht (Heap.IsSliceOf.new _ vl vu vs) pl pu ps ?_ (by rw [List.size_toArray]; omega)
  refine ⟨.ref _, _, I5.laid (t' := s4.toks) (o := .tup xs.reverse) (fun b o z => Heap.get?_push_of_some _ z) (Nat.le_refl _) ?_, rfl, q _ (I5.hok.fresh (Nat.le_refl _))⟩
  exact ⟨by rw [List.length_reverse]; omega, _, r.reverse, IsTup.new _ _⟩
theorem pe_revTK {X : Cx} {K : PySem.W.Frag} {e : Expr} {te : TE} {k : Nat} {p1 p2 p3 pos : Pos} (hK : X.K = K) (he : PE X e te) :
    PE X (.Subscript e (.Slice none none (some (.UnaryOp .USub (.Constant (.int 1) k p1) p2)) p3) pos) (tRevT K te) := by
  subst hK; exact pe_revT he
end Gd
namespace Gd
open PySem PySem.Spec PyProof.Rows L2
section
variable {X : Cx} {K : PySem.W.Frag}
theorem call_anyK (hK : X.K = K) (hc : X.calm = true) : CallR X (.builtin "any") (rAny K) := by
  subst hK; exact cr_any hc
theorem op_in_seqK (hK : X.K = K) : OpR X (compareOp .In) (rIn K false) := by subst hK; exact op_in_seq
theorem op_notIn_seqK (hK : X.K = K) : OpR X (compareOp .NotIn) (rIn K true) := by subst hK; exact op_notIn_seq
end
end Gd
namespace Gd
open PySem PySem.Spec PyProof.Rows L2
/-! ### a heap without one object -/
def hid (a : Addr) (H : Hp) : Hp := fun b => if b = a then none else H b
theorem hid_le {a : Addr} {H : Hp} : Same (hid a H) H := fun b o h => by
  unfold hid at h
  by_cases z : b = a
  · rw [if_pos z] at h; cases h
  · rw [if_neg z] at h; exact h
theorem hid_sb {a : Addr} {H H' : Hp} (e : Sb a H H') : Same (hid a H) (hid a H') := fun b o h => by
  unfold hid at h ⊢
  by_cases z : b = a
  · rw [if_pos z] at h; cases h
  · rw [if_neg z] at h ⊢; exact e b o z h
theorem hid_of {a : Addr} {H H' : Hp} (e : Same H H') : Same (hid a H) (hid a H') := hid_sb (Sb.of e)
theorem hid_upd {a p : Addr} {H : Hp} {o : HO} (h : p ≠ a) : hid a (upd H p o) = upd (hid a H) p o := by
  funext b
  unfold hid
  by_cases z : b = p
  · subst z
    rw [if_neg h, upd_same, upd_same]
  · rw [upd_ne z, upd_ne z]
theorem hid_none {a p : Addr} {H : Hp} (h : H p = none) : hid a H p = none := by
  unfold hid
  split
  · rfl
  · exact h
theorem hid_at {a p : Addr} {H : Hp} {o : HO} (h : H p = some o) (n : p ≠ a) : hid a H p = some o := by
  unfold hid
  rw [if_neg n]
  exact h
section
variable {K : PySem.W.Frag} {H : Hp} {a p : Addr} {xs : List V} {ds es : List PyData} {Q : VK} {x y v : V} {d : PyData}
theorem new_ne (na : H a ≠ none) (np : H p = none) : p ≠ a := fun z => na (z ▸ np)
theorem Fd.nn {s : Addr} {n : Nat} (f : Fd H a s n) : H a ≠ none := by
  obtain ⟨ys, h⟩ := f.at
  rw [h]
  exact Option.some_ne_none _
/-- data that don't hang on a -/
abbrev Dq (K : PySem.W.Frag) (a : Addr) (H : Hp) (v : V) (d : PyData) : Prop := Dp K (hid a H) v d
abbrev DqAll (K : PySem.W.Frag) (a : Addr) (H : Hp) (xs : List V) (ds : List PyData) : Prop := DpAll K (hid a H) xs ds
theorem Dq.dp (h : Dq K a H v d) : Dp K H v d := Dp.same hid_le _ _ h
theorem DqAll.dp (h : DqAll K a H xs ds) : DpAll K H xs ds := DpAll.same hid_le _ _ h
theorem Dq.sb {H' : Hp} (h : Dq K a H v d) (e : Sb a H H') : Dq K a H' v d := Dp.same (hid_sb e) _ _ h
theorem DqAll.sb {H' : Hp} (h : DqAll K a H xs ds) (e : Sb a H H') : DqAll K a H' xs ds := DpAll.same (hid_sb e) _ _ h
theorem Dq.same {H' : Hp} (h : Dq K a H v d) (e : Same H H') : Dq K a H' v d := Dp.same (hid_of e) _ _ h
theorem DqAll.same {H' : Hp} (h : DqAll K a H xs ds) (e : Same H H') : DqAll K a H' xs ds := DpAll.same (hid_of e) _ _ h
theorem tupQ (na : H a ≠ none) (np : H p = none) (ha : DqAll K a H xs ds) : ∃ H', upd H p (.tup xs) = H' ∧ Same H H' ∧ Dq K a H' (.ref p) (.tuple ds) := by
  refine ⟨_, rfl, Same.new np, ?_⟩
  show Dp K (hid a (upd H p (.tup xs))) (.ref p) (.tuple ds)
  rw [hid_upd (new_ne na np)]
  exact .tup (SqT.of upd_same) (DpAll.same (Same.new (hid_none np)) _ _ ha)
theorem lstQ (na : H a ≠ none) (np : H p = none) (ha : DqAll K a H xs ds) : ∃ H', upd H p (.lst xs) = H' ∧ Same H H' ∧ H' p = some (.lst xs) ∧ p ≠ a ∧ DqAll K a H' xs ds := by
  refine ⟨_, rfl, Same.new np, upd_same, new_ne na np, ?_⟩
  show DpAll K (hid a (upd H p (.lst xs))) xs ds
  rw [hid_upd (new_ne na np)]
  exact DpAll.same (Same.new (hid_none np)) _ _ ha
theorem Dq.lst (h : H p = some (.lst xs)) (n : p ≠ a) (ha : DqAll K a H xs ds) : Dq K a H (.ref p) (.list ds) := L2.Dp.lst (SqL.of (hid_at h n)) ha
theorem dpa_take : ∀ (n : Nat) (ds : List PyData) (xs : List V), DpAll K H xs ds → DpAll K H (xs.take n) (ds.take n)
  | 0, ds, xs, _ => by rw [List.take_zero, List.take_zero]; exact .nil
  | n + 1, [], xs, h => by rw [dpa_nil h]; exact .nil
  | n + 1, d :: ds, xs, h => by
    obtain ⟨v, vs, rfl, h1, h2⟩ := dpa_cons h
    exact .cons h1 (dpa_take n ds vs h2)
theorem dpa_drop : ∀ (n : Nat) (ds : List PyData) (xs : List V), DpAll K H xs ds → DpAll K H (xs.drop n) (ds.drop n)
  | 0, ds, xs, h => h
  | n + 1, [], xs, h => by rw [dpa_nil h]; exact .nil
  | n + 1, d :: ds, xs, h => by
    obtain ⟨v, vs, rfl, h1, h2⟩ := dpa_cons h
    exact dpa_drop n ds vs h2
theorem dpa_reverse : ∀ (ds : List PyData) (xs : List V), DpAll K H xs ds → DpAll K H xs.reverse ds.reverse
  | [], xs, h => by rw [dpa_nil h]; exact .nil
  | d :: ds, xs, h => by
    obtain ⟨v, vs, rfl, h1, h2⟩ := dpa_cons h
    rw [List.reverse_cons, List.reverse_cons]
    exact dpa_snoc _ _ _ _ (dpa_reverse ds vs h2) h1
theorem cat_dq (na : H a ≠ none) (hx : Dq K a H x (.tuple ds)) (hy : Dq K a H y (.tuple es)) (hl : ds.length + es.length ≤ 100000)
    (k : ∀ v H', Same H H' → Dq K a H' v (.tuple (ds ++ es)) → Q v H') : rCatA K x y H Q := by
  obtain ⟨b, xs, rfl, hs, ha⟩ := dp_tup hx
  obtain ⟨c, ys, rfl, hs2, hb⟩ := dp_tup hy
  have l1 := dpa_len _ _ ha
  have l2 := dpa_len _ _ hb
  refine ⟨b, c, xs, ys, rfl, rfl, sqt_same hid_le hs, sqt_same hid_le hs2, Nat.le_trans (by omega : _ ≤ 100000) (by decide), ?_, ?_, ?_⟩
  · intro h
    subst h
    have e : ds = [] := List.eq_nil_of_length_eq_zero (by rw [← l1]; rfl)
    subst e
    exact k _ _ (Same.refl H) hy
  · intro _ h
    subst h
    have e : es = [] := List.eq_nil_of_length_eq_zero (by rw [← l2]; rfl)
    subst e
    exact k _ _ (Same.refl H) (by rw [List.append_nil]; exact hx)
  · intro _ _ p np
    obtain ⟨H', e', e1, h1⟩ := tupQ na np (dpa_append _ _ _ _ ha hb)
    rw [e']
    exact k _ _ e1 h1
theorem sl_dq {lo hi : Option Int} {i j : Nat} (na : H a ≠ none) (hx : Dq K a H x (.tuple ds)) (hi1 : HT.sIx ds.length 0 lo = i) (hj1 : HT.sIx ds.length ds.length hi = j)
    (k : ∀ v H', Same H H' → Dq K a H' v (.tuple ((ds.drop i).take (j - i))) → Q v H') : rSlA K x lo hi H Q := by
  obtain ⟨b, xs, rfl, hs, ha⟩ := dp_tup hx
  have l1 := dpa_len _ _ ha
  refine ⟨b, xs, rfl, sqt_same hid_le hs, ?_, ?_⟩
  · rintro ⟨h1, h2⟩
    rw [l1] at h1 h2
    have e0 : i = 0 := by omega
    have e1 : j = ds.length := by omega
    have := k (.ref b) H (Same.refl H)
    rw [e0, e1, List.drop_zero, Nat.sub_zero, List.take_length] at this
    exact this hx
  · intro _ p np
    have e : cutV xs lo hi = (xs.drop i).take (j - i) := by
      unfold cutV
      rw [l1, hi1, hj1]
    rw [e]
    obtain ⟨H', e', e1, h1⟩ := tupQ na np (dpa_take (j - i) _ _ (dpa_drop i _ _ ha))
    rw [e']
    exact k _ _ e1 h1
theorem rev_dq (na : H a ≠ none) (hx : Dq K a H x (.tuple ds)) (k : ∀ v H', Same H H' → Dq K a H' v (.tuple ds.reverse) → Q v H') :
    ∃ b xs, x = .ref b ∧ SqT K H b xs ∧ ∀ p, H p = none → Q (.ref p) (upd H p (.tup xs.reverse)) := by
  obtain ⟨b, xs, rfl, hs, ha⟩ := dp_tup hx
  refine ⟨b, xs, rfl, sqt_same hid_le hs, fun p np => ?_⟩
  obtain ⟨H', e', e1, h1⟩ := tupQ na np (dpa_reverse _ _ ha)
  rw [e']
  exact k _ _ e1 h1
theorem ix_dq {i : Nat} (hx : Dq K a H x (.tuple ds)) (hi : ds[i]? = some d) (k : ∀ v, Dq K a H v d → Q v H) : rIxT K x (.int (i : Int)) H Q := by
  obtain ⟨b, xs, rfl, hs, ha⟩ := dp_tup hx
  obtain ⟨v, hv, hd⟩ := dpa_at _ _ i d ha hi
  exact ⟨b, xs, _, v, rfl, rfl, sqt_same hid_le hs, atI_nat hv, k v hd⟩
theorem listT_dq (na : H a ≠ none) (hx : Dq K a H x (.tuple ds))
    (k : ∀ l H', H l = none → Same H H' → Dq K a H' (.ref l) (.list ds) → Q (.ref l) H') : rListK K [x] H Q := by
  obtain ⟨b, xs, rfl, hs, ha⟩ := dp_tup hx
  refine ⟨b, xs, rfl, .inr (sqt_same hid_le hs), fun l nl => ?_⟩
  obtain ⟨H', e', e1, h1, h2, h3⟩ := lstQ na nl ha
  rw [e']
  exact k l _ nl e1 (Dq.lst h1 h2 h3)
end
/-! ### kinds of data -/
def tyN : PyData → String
  | .none => "NoneType" | .bool _ => "bool" | .int _ => "int" | .str _ => "str" | .list _ => "list" | .tuple _ => "tuple" | .dict _ => "dict"
def isT : PyData → Bool
  | .tuple _ => true | _ => false
def isB : PyData → Bool
  | .bool _ => true | _ => false
def isI : PyData → Bool
  | .int _ | .bool _ => true | _ => false
def isNum : PyData → Bool
  | .int _ => true | _ => false
theorem sql_ty {K : PySem.W.Frag} {H : Hp} {a : Addr} {xs : List V} (h : SqL K H a xs) : TyX K H (.ref a) (.type "list") := by
  rcases h with (h | ⟨o, h⟩) | h
  · exact .base (.lst h)
  · exact .base (.frz h)
  · obtain ⟨o, its, n, hk, hc, _⟩ := h
    exact .kList hk hc
section
variable {K : PySem.W.Frag} {H : Hp} {v : V} {d : PyData} {Q : VK}
theorem ty_dp (h : Dp K H v d) : TyX K H v (.type (tyN d)) := by
  cases h with
  | non => exact .base .non
  | bl b => exact .base (.bl b)
  | int i => exact .base (.int i)
  | str x => exact .base (.str x)
  | lst hs _ => exact sql_ty hs
  | tup hs _ => exact sqt_ty hs
theorem isi_dp {c : String} {b : Bool} (h : Dp K H v d) (hk : kitB (tyN d) c = some b) (q : Q (.bl b) H) : rIsi K [v, .ty c] H Q :=
  ⟨_, _, _, _, b, rfl, .ty c, ty_dp h, kit_ty hk, q⟩
theorem isi_tuple (h : Dp K H v d) (q : Q (.bl (isT d)) H) : rIsi K [v, .ty "tuple"] H Q := by
  refine isi_dp h ?_ q
  cases d <;> first | (simp only [tyN, isT]; decide +kernel) | cases h
theorem isi_int (h : Dp K H v d) (q : Q (.bl (isI d)) H) : rIsi K [v, .ty "int"] H Q := by
  refine isi_dp h ?_ q
  cases d <;> first | (simp only [tyN, isI]; decide +kernel) | cases h
theorem isi_bool (h : Dp K H v d) (q : Q (.bl (isB d)) H) : rIsi K [v, .ty "bool"] H Q := by
  refine isi_dp h ?_ q
  cases d <;> first | (simp only [tyN, isB]; decide +kernel) | cases h
end
/-! ### data of bounded numbers, depth and size -/
mutual
def fz : PyData → Nat
  | .none | .bool _ | .int _ => 1
  | .str x => 1 + x.length
  | .list ds | .tuple ds => 1 + fzAll ds
  | .dict _ => 1
def fzAll : List PyData → Nat
  | [] => 0
  | d :: ds => fz d + fzAll ds
end
mutual
def fok (M : Nat) : PyData → Bool
  | .none | .bool _ => true
  | .int i => decide (i.natAbs ≤ M)
  | .str x => PyData.strOk x
  | .list ds | .tuple ds => fokAll M ds
  | .dict _ => false
def fokAll (M : Nat) : List PyData → Bool
  | [] => true
  | d :: ds => fok M d && fokAll M ds
end
structure Fn (M k n : Nat) (d : PyData) : Prop where
  ok : fok M d = true
  dep : d.depth ≤ k
  sz : fz d ≤ n
mutual
theorem fok_mono {M M' : Nat} (hM : M ≤ M') : ∀ d : PyData, fok M d = true → fok M' d = true
  | .none, _ => by simp only [fok]
  | .bool _, _ => by simp only [fok]
  | .int i, h => by simp only [fok, decide_eq_true_eq] at h ⊢; omega
  | .str x, h => by simpa only [fok] using h
  | .list ds, h => by simp only [fok] at h ⊢; exact fokAll_mono hM ds h
  | .tuple ds, h => by simp only [fok] at h ⊢; exact fokAll_mono hM ds h
  | .dict _, h => by simp [fok] at h
theorem fokAll_mono {M M' : Nat} (hM : M ≤ M') : ∀ ds : List PyData, fokAll M ds = true → fokAll M' ds = true
  | [], _ => by simp only [fokAll]
  | d :: ds, h => by
    simp only [fokAll, Bool.and_eq_true] at h ⊢
    exact ⟨fok_mono hM d h.1, fokAll_mono hM ds h.2⟩
end
theorem Fn.mono {M k n M' k' n' : Nat} {d : PyData} (h : Fn M k n d) (hM : M ≤ M') (hk : k ≤ k') (hn : n ≤ n') : Fn M' k' n' d :=
  ⟨fok_mono hM d h.ok, Nat.le_trans h.dep hk, Nat.le_trans h.sz hn⟩
theorem fokAll_iff {M : Nat} : ∀ ds : List PyData, fokAll M ds = true ↔ ∀ d ∈ ds, fok M d = true
  | [] => by simp [fokAll]
  | d :: ds => by simp only [fokAll, Bool.and_eq_true, fokAll_iff ds, List.mem_cons, forall_eq_or_imp]
theorem depthAll_iff {k : Nat} : ∀ ds : List PyData, PyData.depthAll ds ≤ k ↔ ∀ d ∈ ds, d.depth ≤ k
  | [] => by simp [PyData.depthAll]
  | d :: ds => by
    simp only [PyData.depthAll, List.mem_cons, forall_eq_or_imp, ← depthAll_iff ds]
    omega
theorem fzAll_app : ∀ ds es : List PyData, fzAll (ds ++ es) = fzAll ds + fzAll es
  | [], es => by simp [fzAll]
  | d :: ds, es => by simp only [List.cons_append, fzAll, fzAll_app ds es]; omega
theorem fz_pos : ∀ d : PyData, 1 ≤ fz d
  | .none | .bool _ | .int _ | .dict _ => by simp [fz]
  | .str x => by simp only [fz]; omega
  | .list ds | .tuple ds => by simp only [fz]; omega
theorem fzAll_len : ∀ ds : List PyData, ds.length ≤ fzAll ds
  | [] => by simp [fzAll]
  | d :: ds => by
    have := fz_pos d
    have := fzAll_len ds
    simp only [fzAll, List.length_cons]
    omega
theorem fzAll_mem : ∀ {ds : List PyData} {d : PyData}, d ∈ ds → fz d ≤ fzAll ds
  | e :: ds, d, h => by
    simp only [fzAll]
    rcases List.mem_cons.mp h with rfl | h
    · omega
    · have := fzAll_mem h
      omega
/-- a tuple or list of such -/
theorem fn_tup {M k n : Nat} {ds : List PyData} : Fn M (k + 1) n (.tuple ds) ↔ (∀ d ∈ ds, fok M d = true ∧ d.depth ≤ k) ∧ 1 + fzAll ds ≤ n := by
  constructor
  · rintro ⟨h1, h2, h3⟩
    simp only [fok] at h1
    simp only [PyData.depth] at h2
    simp only [fz] at h3
    have h2 : PyData.depthAll ds ≤ k := by omega
    exact ⟨fun d hd => ⟨(fokAll_iff ds).mp h1 d hd, (depthAll_iff ds).mp h2 d hd⟩, h3⟩
  · rintro ⟨h1, h3⟩
    refine ⟨?_, ?_, ?_⟩
    · simp only [fok]
      exact (fokAll_iff ds).mpr fun d hd => (h1 d hd).1
    · simp only [PyData.depth]
      have := (depthAll_iff (k := k) ds).mpr fun d hd => (h1 d hd).2
      omega
    · simpa only [fz] using h3
theorem fn_lst {M k n : Nat} {ds : List PyData} (h : Fn M k n (.tuple ds)) : Fn M k n (.list ds) := by
  refine ⟨?_, ?_, ?_⟩
  · simpa only [fok] using h.ok
  · simpa only [PyData.depth] using h.dep
  · simpa only [fz] using h.sz
/-! ### what repr and == ask -/
mutual
theorem fok_sh {M : Nat} (hM : M < 2 ^ 1900) : ∀ d : PyData, fok M d = true → d.showable = true ∧ d.hasDict = false ∧ d.canLay0 = true ∧ d.shown.length + 3 ≤ 1910 * fz d
  | .none, _ => ⟨by simp [PyData.showable], by simp [PyData.hasDict], by simp [PyData.canLay0], by simp only [PyData.shown, fz]; decide +kernel⟩
  | .bool b, _ => by
    refine ⟨by simp [PyData.showable], by simp [PyData.hasDict], by simp [PyData.canLay0], ?_⟩
    simp only [PyData.shown, fz]
    cases b <;> decide +kernel
  | .int i, h => by
    simp only [fok, decide_eq_true_eq] at h
    have s := Sh.int (i := i) (by omega)
    refine ⟨s.1, s.2.1, by simp [PyData.canLay0], ?_⟩
    have := s.2.2.2
    simp only [fz]
    omega
  | .str x, h => by
    simp only [fok] at h
    refine ⟨by simp [PyData.showable], by simp [PyData.hasDict], by simpa [PyData.canLay0] using h, ?_⟩
    have hx : ∀ c ∈ x.cps.toList, c < 16 ^ 8 := by
      intro c hc
      unfold PyData.strOk at h
      rw [Array.all_eq_true_iff_forall_mem] at h
      have := of_decide_eq_true (h c (by simpa using hc))
      omega
    have := PySem.StrLaws.reprText_len x hx
    simp only [PyData.shown, fz]
    omega
  | .list ds, h => by
    simp only [fok] at h
    obtain ⟨h1, h2, h3, h4, h5⟩ := fokAll_sh hM ds h
    refine ⟨by simpa only [PyData.showable] using h1, by simpa only [PyData.hasDict] using h2, by simpa only [PyData.canLay0] using h3, ?_⟩
    have e := PySem.listText_len_le (PyData.shownAll ds)
    simp only [PyData.shown, fz]
    omega
  | .tuple ds, h => by
    simp only [fok] at h
    obtain ⟨h1, h2, h3, h4, h5⟩ := fokAll_sh hM ds h
    refine ⟨by simpa only [PyData.showable] using h1, by simpa only [PyData.hasDict] using h2, by simpa only [PyData.canLay0] using h3, ?_⟩
    have e := PySem.tupleText_len_le (PyData.shownAll ds)
    simp only [PyData.shown, fz]
    omega
  | .dict _, h => by simp [fok] at h
theorem fokAll_sh {M : Nat} (hM : M < 2 ^ 1900) : ∀ ds : List PyData, fokAll M ds = true → PyData.showableAll ds = true ∧ PyData.hasDictAll ds = false ∧ PyData.canLayAll0 ds = true ∧
    ((PyData.shownAll ds).map (·.length)).sum + 3 * ds.length ≤ 1910 * fzAll ds ∧ (PyData.shownAll ds).length = ds.length
  | [], _ => ⟨by simp [PyData.showableAll], by simp [PyData.hasDictAll], by simp [PyData.canLayAll0], by simp [PyData.shownAll, fzAll], by simp [PyData.shownAll]⟩
  | d :: ds, h => by
    simp only [fokAll, Bool.and_eq_true] at h
    obtain ⟨a1, a2, a3, a4⟩ := fok_sh hM d h.1
    obtain ⟨b1, b2, b3, b4, b5⟩ := fokAll_sh hM ds h.2
    refine ⟨by simp only [PyData.showableAll, a1, b1, Bool.and_self], by simp only [PyData.hasDictAll, a2, b2, Bool.or_self], by simp only [PyData.canLayAll0, a3, b3, Bool.and_self], ?_, by simp only [PyData.shownAll, List.length_cons, b5]⟩
    simp only [PyData.shownAll, List.map_cons, List.sum_cons, fzAll, List.length_cons]
    omega
end
theorem Fn.sh {M k n : Nat} {d : PyData} (h : Fn M k n d) (hM : M < 2 ^ 1900) (hn : n ≤ 8000) : Sh k 15300000 d := by
  obtain ⟨h1, h2, _, h4⟩ := fok_sh hM d h.ok
  have := h.sz
  exact ⟨h1, h2, h.dep, by omega⟩
theorem Fn.shaped {M k n : Nat} {d : PyData} (h : Fn M k n d) (hM : M < 2 ^ 1900) (hk : k ≤ 64) : SeqAt.shaped d = true := by
  obtain ⟨_, _, h3, _⟩ := fok_sh hM d h.ok
  show (d.canLay0 && decide (d.depth ≤ 64)) = true
  rw [Bool.and_eq_true]
  exact ⟨h3, decide_eq_true (Nat.le_trans h.dep hk)⟩
theorem strOk_of (t : String) : PyData.strOk (Str.ofString t) = true := by
  rw [Str.ofString_eq_toList]
  unfold PyData.strOk
  rw [Array.all_eq_true_iff_forall_mem]
  intro c hc
  simp only [List.mem_toArray, List.mem_map] at hc
  obtain ⟨x, _, rfl⟩ := hc
  refine decide_eq_true ?_
  have hv := x.valid
  unfold UInt32.isValidChar Nat.isValidChar at hv
  show x.val.toNat < 1114112
  omega
end Gd
namespace Gd
open PySem PySem.Spec PyProof.Rows L2
theorem tup_or (d : PyData) : isT d = false ∨ ∃ ds, d = .tuple ds := by
  cases d <;> first | exact Or.inl rfl | exact Or.inr ⟨_, rfl⟩
theorem hid_self {D : Addr} {H : Hp} {o : HO} : hid D (upd H D o) = hid D H := by
  funext b
  unfold hid
  by_cases z : b = D
  · rw [if_pos z, if_pos z]
  · rw [if_neg z, if_neg z, upd_ne z]
theorem hid_new {D : Addr} {H H' : Hp} (e : Same H H') (n : H D = none) : Same H (hid D H') := fun b o h => by
  unfold hid
  rw [if_neg (ne_of_none h n)]
  exact e b o h
/-- what a comprehension has got so far -/
def Ac (K : PySem.W.Frag) (D : Addr) (H H' : Hp) (es : List PyData) : Prop := Same H H' ∧ ∃ ys, H' D = some (.lst ys) ∧ DqAll K D H' ys es
theorem Ac.start {K : PySem.W.Frag} {D : Addr} {H : Hp} (h : H D = none) : Ac K D H (upd H D (.lst [])) [] := ⟨Same.new h, [], upd_same, .nil⟩
theorem Ac.keep {K : PySem.W.Frag} {D : Addr} {H H1 H2 : Hp} {es : List PyData} (h : Ac K D H H1 es) (e : Same H1 H2) : Ac K D H H2 es := by
  obtain ⟨h0, ys, h1, h2⟩ := h
  exact ⟨h0.trans e, ys, e _ _ h1, h2.same e⟩
theorem Ac.push {K : PySem.W.Frag} {D : Addr} {H H1 H2 : Hp} {es : List PyData} {y : V} {d : PyData} (hD : H D = none) (h : Ac K D H H1 es) (e : Same H1 H2) (hy : Dp K (hid D H2) y d) (hl : es.length < 60000) :
    ∃ acc, H2 D = some (.lst acc) ∧ acc.length < sizeLine ∧ Ac K D H (upd H2 D (.lst (acc ++ [y]))) (es ++ [d]) := by
  obtain ⟨h0, ys, h1, h2⟩ := h.keep e
  refine ⟨ys, h1, ?_, Same.mut h0 hD, _, upd_same, ?_⟩
  · rw [dpa_len _ _ h2]
    exact Nat.lt_trans hl (by decide)
  · show DpAll K (hid D (upd H2 D (.lst (ys ++ [y])))) (ys ++ [y]) (es ++ [d])
    rw [hid_self]
    exact dpa_snoc _ _ _ _ h2 hy
section
variable {K : PySem.W.Frag} {te : TE} {tt : TT} {vs : List Nat} {σ : L2.St} {H : Hp} {D : Addr} {Qd : Hp → Prop}
/-- [x for x in t if c], t a tuple of data -/
theorem lctP {j : Nat} {a : Addr} {xs : List V} {ds : List PyData} (p : PyData → Bool) (hD : H D = none) (hx : SqT K H a xs) (ha : DpAll K H xs ds) (hn : ds.length ≤ 50000)
    (hw : ∀ x, wipe ((wipe σ vs).set j (some x)) vs = wipe σ vs)
    (hs : ∀ (x : V) (d : PyData) (H1 : Hp) (R : Bool → Hp → Prop), d ∈ ds → Dp K H1 x d → Same H H1 → (∀ H2, Same H1 H2 → R (p d) H2) → tt ((wipe σ vs).set j (some x)) H1 R)
    (he : ∀ (x : V) (H1 : Hp) (Q : VK), Q x H1 → te ((wipe σ vs).set j (some x)) H1 Q)
    (hd : ∀ H' ys, Same H H' → H' D = some (.lst ys) → DpAll K H' ys (ds.filter p) → Qd H') :
    ∃ W : Nat → Nat → Hp → Prop, (∃ m, W 0 m (upd H D (.lst []))) ∧ ∀ i m H, W i m H →
      ((Itt K a).stop i H ∧ Qd H) ∨ ((Itt K a).go i H ∧ ∃ Nx : Hp → Prop,
        (∀ H', Nx H' → ∃ m', m' < m ∧ W (i + 1) m' H') ∧
        ∀ x H', (Itt K a).yld i H x H' → gName j x (wipe σ vs) H' fun σ2 H2 =>
          wipe σ2 vs = wipe σ vs ∧ tt σ2 H2 fun b H3 =>
            if b = true then te σ2 H3 fun y H4 => ∃ acc, H4 D = some (.lst acc) ∧
              acc.length < sizeLine ∧ Nx (upd H4 D (.lst (acc ++ [y]))) else Nx H3) := by
  have hl : xs.length = ds.length := dpa_len _ _ ha
  refine lc_tup (xs := xs) (fun i H' => Ac K D H H' ((ds.take i).filter p)) (Ac.start hD) (fun i H' _ q => sqt_same q.1 hx) ?_ ?_
  · intro i x H' hi q
    obtain ⟨d, hd1, hd2⟩ := dpa_get _ _ i x ha hi
    have hlt := (List.getElem?_eq_some_iff.mp hd1).1
    have et : ds.take (i + 1) = ds.take i ++ [d] := by rw [List.take_succ, hd1]; rfl
    refine ⟨hw _, hs x d H' _ (List.mem_of_getElem? hd1) (Dp.same q.1 _ _ hd2) q.1 fun H2 e2 => ?_⟩
    by_cases hp : p d = true
    · rw [if_pos hp]
      refine he _ _ _ ?_
      rw [et, List.filter_append]
      have e3 : [d].filter p = [d] := by simp [hp]
      rw [e3]
      refine Ac.push hD q e2 (Dp.same (hid_new (q.1.trans e2) hD) _ _ hd2) ?_
      have h1 := List.length_filter_le p (ds.take i)
      rw [List.length_take] at h1
      omega
    · rw [if_neg hp, et, List.filter_append]
      have e3 : [d].filter p = [] := by simp [hp]
      rw [e3, List.append_nil]
      exact q.keep e2
  · rintro H' ⟨h0, ys, h1, h2⟩
    rw [hl, List.take_length] at h2
    exact hd H' ys h0 h1 h2.dp
end
/-! ### looks -/
def isRowD (w : Int) : PyData → Bool
  | .tuple ds => decide ((ds.length : Int) = w) && ds.all isNum
  | _ => false
def isTabD : PyData → Bool
  | .tuple [.int w, .tuple rows] => decide (0 ≤ w) && rows.all (isRowD w)
  | _ => false
def isUnitD : PyData → Bool
  | .tuple [.int w, .tuple rows] => isTabD (.tuple [.int w, .tuple rows]) && decide ((rows.length : Int) = w) && PyData.eqv (.tuple [.int w, .tuple rows]) (tabD w (unitR w.toNat))
  | _ => false
end Gd
namespace Gd
open PySem PySem.Spec PyProof.Rows L2
section
variable {K : PySem.W.Frag} {te : TE} {tt : TT} {vs : List Nat} {σ : L2.St} {H : Hp} {D : Addr} {Qd : Hp → Prop}
/-- [i for i in range(n) if c] -/
theorem lcrP {j n : Nat} (p : Nat → Bool) (hD : H D = none) (hn : n ≤ 50000)
    (hw : ∀ x, wipe ((wipe σ vs).set j (some x)) vs = wipe σ vs)
    (hs : ∀ (i : Nat) (H1 : Hp) (R : Bool → Hp → Prop), i < n → Same H H1 → (∀ H2, Same H1 H2 → R (p i) H2) → tt ((wipe σ vs).set j (some (.int (0 + (i : Int))))) H1 R)
    (he : ∀ (x : V) (H1 : Hp) (Q : VK), Q x H1 → te ((wipe σ vs).set j (some x)) H1 Q)
    (hd : ∀ H' ys, Same H H' → H' D = some (.lst ys) → DpAll K H' ys ((((List.range n).filter p).map fun (i : Nat) => (0 + (i : Int))).map PyData.int) → Qd H') :
    ∃ W : Nat → Nat → Hp → Prop, (∃ m, W 0 m (upd H D (.lst []))) ∧ ∀ i m H, W i m H →
      ((Itr 0 n).stop i H ∧ Qd H) ∨ ((Itr 0 n).go i H ∧ ∃ Nx : Hp → Prop,
        (∀ H', Nx H' → ∃ m', m' < m ∧ W (i + 1) m' H') ∧
        ∀ x H', (Itr 0 n).yld i H x H' → gName j x (wipe σ vs) H' fun σ2 H2 =>
          wipe σ2 vs = wipe σ vs ∧ tt σ2 H2 fun b H3 =>
            if b = true then te σ2 H3 fun y H4 => ∃ acc, H4 D = some (.lst acc) ∧
              acc.length < sizeLine ∧ Nx (upd H4 D (.lst (acc ++ [y]))) else Nx H3) := by
  refine lc_range (lo := 0) (n := n) (fun i H' => Ac K D H H' ((((List.range i).filter p).map fun (i : Nat) => (0 + (i : Int))).map PyData.int)) (Ac.start hD) ?_ ?_
  · intro i H' hi q
    refine ⟨hw _, hs i H' _ hi q.1 fun H2 e2 => ?_⟩
    by_cases hp : p i = true
    · rw [if_pos hp]
      refine he _ _ _ ?_
      have e3 : (List.range (i + 1)).filter p = (List.range i).filter p ++ [i] := by
        rw [List.range_succ, List.filter_append]
        simp [hp]
      rw [e3, List.map_append, List.map_append]
      refine Ac.push hD q e2 (.int _) ?_
      have h1 := List.length_filter_le p (List.range i)
      rw [List.length_map, List.length_map]
      rw [List.length_range] at h1
      omega
    · rw [if_neg hp]
      have e3 : (List.range (i + 1)).filter p = (List.range i).filter p := by
        rw [List.range_succ, List.filter_append]
        simp [hp]
      rw [e3]
      exact q.keep e2
  · rintro H' ⟨h0, ys, h1, h2⟩
    exact hd H' ys h0 h1 h2.dp
end
/-! ### tables among data -/
theorem tab_true {d : PyData} (h : isTabD d = true) : ∃ (n : Nat) (rs : List (List Int)), d = tabD n rs ∧ ∀ r ∈ rs, r.length = n := by
  unfold isTabD at h
  split at h
  · rename_i wd rows
    rw [Bool.and_eq_true] at h
    obtain ⟨h0, h1⟩ := h
    have h0 := of_decide_eq_true h0
    obtain ⟨n, rfl⟩ := Int.eq_ofNat_of_zero_le h0
    have row : ∀ d : PyData, isRowD (n : Int) d = true → ∃ r : List Int, d = rowD r ∧ r.length = n := by
      intro d hd
      unfold isRowD at hd
      split at hd
      · rename_i ds
        rw [Bool.and_eq_true] at hd
        obtain ⟨k0, k1⟩ := hd
        have k0 := of_decide_eq_true k0
        have key : ∀ ds : List PyData, ds.all isNum = true → ∃ r : List Int, ds = r.map PyData.int := by
          intro ds
          induction ds with
          | nil => intro _; exact ⟨[], rfl⟩
          | cons d ds ih =>
            intro hk
            rw [List.all_cons, Bool.and_eq_true] at hk
            obtain ⟨r, rfl⟩ := ih hk.2
            cases d with
            | int i => exact ⟨i :: r, rfl⟩
            | _ => cases hk.1
        obtain ⟨r, rfl⟩ := key ds k1
        refine ⟨r, rfl, ?_⟩
        rw [List.length_map] at k0
        omega
      · cases hd
    have all : ∀ rows : List PyData, rows.all (isRowD (n : Int)) = true → ∃ rs : List (List Int), rows = rs.map rowD ∧ ∀ r ∈ rs, r.length = n := by
      intro rows
      induction rows with
      | nil => intro _; exact ⟨[], rfl, fun r hr => by cases hr⟩
      | cons d ds ih =>
        intro hk
        rw [List.all_cons, Bool.and_eq_true] at hk
        obtain ⟨rs, rfl, hrs⟩ := ih hk.2
        obtain ⟨r, rfl, hr⟩ := row d hk.1
        refine ⟨r :: rs, rfl, fun x hx => ?_⟩
        rcases List.mem_cons.mp hx with rfl | hx
        · exact hr
        · exact hrs x hx
    obtain ⟨rs, rfl, hrs⟩ := all rows h1
    exact ⟨n, rs, rfl, hrs⟩
  · cases h
theorem unit_of_tab {d : PyData} (h : isTabD d = false) : isUnitD d = false := by
  unfold isUnitD
  split
  · rw [h]
    rfl
  · rfl
theorem tab_of {n : Nat} {rs : List (List Int)} (h : ∀ r ∈ rs, r.length = n) : isTabD (tabD n rs) = true := by
  unfold tabD rowsD
  simp only [isTabD, Bool.and_eq_true, decide_eq_true_eq, List.all_map, List.all_eq_true]
  refine ⟨by omega, fun r hr => ?_⟩
  simp only [Function.comp, rowD, isRowD, Bool.and_eq_true, decide_eq_true_eq, List.length_map, List.all_map, List.all_eq_true]
  refine ⟨by have := h r hr; omega, fun i _ => rfl⟩
end Gd
namespace Gd
open PySem PySem.Spec PyProof.Rows L2
section
variable {K : PySem.W.Frag} {H : Hp} {a : Addr} {ds : List PyData} {Q : VK} {x : V}
theorem sl_to {i : Nat} {z : Int} (hz : z = (i : Int)) (na : H a ≠ none) (hx : Dq K a H x (.tuple ds)) (k : ∀ v H', Same H H' → Dq K a H' v (.tuple (ds.take i)) → Q v H') : rSlA K x none (some z) H Q := by
  subst hz
  refine sl_dq na hx (i := 0) (j := min i ds.length) rfl (HT.sIx_nat _ _ _) fun v H' e h => k v H' e ?_
  have : (ds.drop 0).take (min i ds.length - 0) = ds.take i := by
    rw [List.drop_zero, Nat.sub_zero]
    by_cases hi : i ≤ ds.length
    · rw [Nat.min_eq_left hi]
    · rw [Nat.min_eq_right (by omega), List.take_length, List.take_of_length_le (by omega)]
  rw [this] at h
  exact h
theorem sl_from {i : Nat} {z : Int} (hz : z = (i : Int)) (na : H a ≠ none) (hx : Dq K a H x (.tuple ds)) (k : ∀ v H', Same H H' → Dq K a H' v (.tuple (ds.drop i)) → Q v H') : rSlA K x (some z) none H Q := by
  subst hz
  refine sl_dq na hx (i := min i ds.length) (j := ds.length) (HT.sIx_nat _ _ _) rfl fun v H' e h => k v H' e ?_
  have : (ds.drop (min i ds.length)).take (ds.length - min i ds.length) = ds.drop i := by
    rw [List.take_of_length_le (by rw [List.length_drop]; omega)]
    by_cases hi : i ≤ ds.length
    · rw [Nat.min_eq_left hi]
    · rw [Nat.min_eq_right (by omega), List.drop_length, List.drop_of_length_le (by omega)]
  rw [this] at h
  exact h
end
theorem fz_split : ∀ {ds : List PyData} {i : Nat} {x : PyData}, ds[i]? = some x → fzAll ds = fzAll (ds.take i) + fz x + fzAll (ds.drop (i + 1))
  | [], i, x, h => by simp at h
  | d :: ds, 0, x, h => by
    simp at h
    subst h
    simp [fzAll]
  | d :: ds, i + 1, x, h => by
    have := fz_split (ds := ds) (i := i) (x := x) (by simpa using h)
    simp only [List.take_succ_cons, List.drop_succ_cons, fzAll]
    omega
theorem fz_take (ds : List PyData) (i : Nat) : fzAll (ds.take i) + fzAll (ds.drop i) = fzAll ds := by
  rw [← fzAll_app, List.take_append_drop]
theorem fz_drop1 (ds : List PyData) (i : Nat) : fzAll (ds.drop (i + 1)) ≤ fzAll (ds.drop i) := by
  have := fz_take (ds.drop i) 1
  rw [List.drop_drop] at this
  have e : i + 1 = 1 + i := by omega
  first
    | omega
    | (rw [e]; omega)
theorem fz_rev : ∀ ds : List PyData, fzAll ds.reverse = fzAll ds
  | [] => rfl
  | d :: ds => by
    rw [List.reverse_cons, fzAll_app, fz_rev ds]
    simp only [fzAll]
    omega
theorem eqv_nilT (ds : List PyData) : PyData.eqv (.tuple ds) (.tuple []) = decide (ds = []) := by
  cases ds <;> simp [PyData.eqv, PyData.eqvAll]
end Gd
namespace Gd
open PySem PySem.Spec PyProof.Rows L2
theorem Same.nn {H H' : Hp} {a : Addr} (e : Same H H') (h : H a ≠ none) : H' a ≠ none := by
  cases q : H a with
  | none => exact absurd q h
  | some o =>
    rw [e a o q]
    exact Option.some_ne_none _
section
variable {X : Cx} {k : Nat} {ps : List Str} {sp : Sp} {x : Str} {p pos : Pos}
theorem pe_has0 (F : Has X.prog X.w X.K X.mg X.base x k ps sp) (hr : Room k X.A) (hg : Gl X x) (hdb : (x == ("__debug__" : Str)) = false := by decide) :
    PE X (.Call (.Name x p) [] [] pos) (tCall sp [] E0 tNil) := by
  obtain ⟨f, fd, G, hm, kp, hb⟩ := F
  exact pe_call0 G hr hg hm kp hb .nil pass0 hdb
end
section
variable {K : PySem.W.Frag} {te : TE} {tt : TT} {vs : List Nat} {σ : L2.St} {H : Hp} {D : Addr} {Qd : Hp → Prop}
/-- [truth for x in t], t a tuple -/
theorem lctB {j : Nat} {a : Addr} {xs : List V} (hD : H D = none) (hx : SqT K H a xs) (hn : xs.length ≤ 50000)
    (hw : ∀ x, wipe ((wipe σ vs).set j (some x)) vs = wipe σ vs)
    (hs : ∀ (i : Nat) (x : V) (H1 : Hp) (Q : VK), xs[i]? = some x → Same H H1 → (∀ b H2, Same H1 H2 → Q (.bl b) H2) → te ((wipe σ vs).set j (some x)) H1 Q)
    (hd : ∀ H' (bs : List Bool), Same H H' → H' D = some (.lst (bs.map V.bl)) → Qd H') :
    ∃ W : Nat → Nat → Hp → Prop, (∃ m, W 0 m (upd H D (.lst []))) ∧ ∀ i m H, W i m H →
      ((Itt K a).stop i H ∧ Qd H) ∨ ((Itt K a).go i H ∧ ∃ Nx : Hp → Prop,
        (∀ H', Nx H' → ∃ m', m' < m ∧ W (i + 1) m' H') ∧
        ∀ x H', (Itt K a).yld i H x H' → gName j x (wipe σ vs) H' fun σ2 H2 =>
          wipe σ2 vs = wipe σ vs ∧ tYes σ2 H2 fun b H3 =>
            if b = true then te σ2 H3 fun y H4 => ∃ acc, H4 D = some (.lst acc) ∧
              acc.length < sizeLine ∧ Nx (upd H4 D (.lst (acc ++ [y]))) else Nx H3) := by
  refine lc_tup (xs := xs) (fun i H' => Same H H' ∧ ∃ bs : List Bool, bs.length = i ∧ H' D = some (.lst (bs.map V.bl))) ⟨Same.new hD, [], rfl, upd_same⟩ (fun i H' _ q => sqt_same q.1 hx) ?_ ?_
  · rintro i x H' hi ⟨e, bs, hb, h1⟩
    have hlt := (List.getElem?_eq_some_iff.mp hi).1
    refine ⟨hw _, ?_⟩
    unfold tYes
    dsimp only
    rw [if_pos rfl]
    refine hs i x H' _ hi e fun b H2 e2 => ?_
    refine ⟨_, e2 _ _ h1, ?_, Same.mut (e.trans e2) hD, bs ++ [b], ?_, ?_⟩
    · rw [List.length_map, hb]
      exact Nat.lt_of_lt_of_le (show i < 50000 by omega) (by decide)
    · rw [List.length_append, hb]
      rfl
    · rw [upd_same, List.map_append]
      rfl
  · rintro H' ⟨e, bs, _, h1⟩
    exact hd H' bs e h1
/-- [True for x in l if c], l a list that stays -/
theorem lclT {j : Nat} {a : Addr} {xs : List V} (hD : H D = none) (hx : SqL K H a xs) (hn : xs.length ≤ 50000)
    (hw : ∀ x, wipe ((wipe σ vs).set j (some x)) vs = wipe σ vs)
    (ht : ∀ (i : Nat) (x : V) (H1 : Hp) (R : Bool → Hp → Prop), xs[i]? = some x → Same H H1 → (∀ b H2, Same H1 H2 → R b H2) → tt ((wipe σ vs).set j (some x)) H1 R)
    (hs : ∀ (i : Nat) (x : V) (H1 : Hp) (Q : VK), xs[i]? = some x → Same H H1 → (∀ H2, Same H1 H2 → Q (.bl true) H2) → te ((wipe σ vs).set j (some x)) H1 Q)
    (hd : ∀ H' (n : Nat), Same H H' → H' D = some (.lst ((List.replicate n true).map V.bl)) → Qd H') :
    ∃ W : Nat → Nat → Hp → Prop, (∃ m, W 0 m (upd H D (.lst []))) ∧ ∀ i m H, W i m H →
      ((Itl K a).stop i H ∧ Qd H) ∨ ((Itl K a).go i H ∧ ∃ Nx : Hp → Prop,
        (∀ H', Nx H' → ∃ m', m' < m ∧ W (i + 1) m' H') ∧
        ∀ x H', (Itl K a).yld i H x H' → gName j x (wipe σ vs) H' fun σ2 H2 =>
          wipe σ2 vs = wipe σ vs ∧ tt σ2 H2 fun b H3 =>
            if b = true then te σ2 H3 fun y H4 => ∃ acc, H4 D = some (.lst acc) ∧
              acc.length < sizeLine ∧ Nx (upd H4 D (.lst (acc ++ [y]))) else Nx H3) := by
  refine lc_list (xs := xs) (fun i H' => Same H H' ∧ ∃ n : Nat, n ≤ i ∧ H' D = some (.lst ((List.replicate n true).map V.bl))) ⟨Same.new hD, 0, Nat.le_refl _, upd_same⟩ (fun i H' _ q => sql_same q.1 hx) ?_ ?_
  · rintro i x H' hi ⟨e, n, hb, h1⟩
    have hlt := (List.getElem?_eq_some_iff.mp hi).1
    refine ⟨hw _, ht i x H' _ hi e fun b H2 e2 => ?_⟩
    cases b with
    | false => exact iteF ⟨e.trans e2, n, by omega, e2 _ _ h1⟩
    | true =>
      refine iteT (hs i x H2 _ hi (e.trans e2) fun H3 e3 => ?_)
      refine ⟨_, (e2.trans e3) _ _ h1, ?_, Same.mut ((e.trans e2).trans e3) hD, n + 1, by omega, ?_⟩
      · rw [List.length_map, List.length_replicate]
        exact Nat.lt_of_lt_of_le (show n < 50000 by omega) (by decide)
      · rw [upd_same, List.replicate_succ', List.map_append]
        rfl
  · rintro H' ⟨e, n, _, h1⟩
    exact hd H' n e h1
/-- [True for k in range(m)], where each draws -/
theorem lcrT {j m n c : Nat} {a s : Addr} (hD : H D = none) (hf : Fd H a s n) (hm : m ≤ 50000)
    (hw : ∀ x, wipe ((wipe σ vs).set j (some x)) vs = wipe σ vs)
    (hs : ∀ (i : Nat) (H1 : Hp) (Q : VK), i < m → Sb a H H1 → Fd H1 a s (n + c * i) →
      (∀ (H2 : Hp), Sb a H1 H2 → Fd H2 a s (n + c * (i + 1)) → Q (.bl true) H2) →
      te ((wipe σ vs).set j (some (.int (0 + (i : Int))))) H1 Q)
    (hd : ∀ (H' : Hp), Sb a H H' → Fd H' a s (n + c * m) → H' D = some (.lst ((List.replicate m true).map V.bl)) → Qd H') :
    ∃ W : Nat → Nat → Hp → Prop, (∃ m, W 0 m (upd H D (.lst []))) ∧ ∀ i k H, W i k H →
      ((Itr 0 m).stop i H ∧ Qd H) ∨ ((Itr 0 m).go i H ∧ ∃ Nx : Hp → Prop,
        (∀ H', Nx H' → ∃ k', k' < k ∧ W (i + 1) k' H') ∧
        ∀ x H', (Itr 0 m).yld i H x H' → gName j x (wipe σ vs) H' fun σ2 H2 =>
          wipe σ2 vs = wipe σ vs ∧ tYes σ2 H2 fun b H3 =>
            if b = true then te σ2 H3 fun y H4 => ∃ acc, H4 D = some (.lst acc) ∧
              acc.length < sizeLine ∧ Nx (upd H4 D (.lst (acc ++ [y]))) else Nx H3) := by
  obtain ⟨dA, dS⟩ := hf.apart hD
  refine lc_range (lo := 0) (n := m) (fun i H' => Sb a H H' ∧ Fd H' a s (n + c * i) ∧ H' D = some (.lst ((List.replicate i true).map V.bl))) ?_ ?_ ?_
  · exact ⟨Sb.new hD, (hf.upd dA dS).mono (by omega), upd_same⟩
  · rintro i H' hi ⟨sb, f, h1⟩
    refine ⟨hw _, ?_⟩
    unfold tYes
    dsimp only
    rw [if_pos rfl]
    refine hs i H' _ hi sb f fun H2 sb2 f2 => ?_
    refine ⟨_, sb2 _ _ dA h1, ?_, (Sb.trans sb sb2).mut hD, f2.upd dA dS, ?_⟩
    · rw [List.length_map, List.length_replicate]
      exact Nat.lt_of_lt_of_le (show i < 50000 by omega) (by decide)
    · rw [upd_same, List.replicate_succ', List.map_append]
      rfl
  · rintro H' ⟨sb, f, h1⟩
    exact hd H' sb f h1
end
end Gd
namespace Gd
open PySem PySem.Spec PyProof.Rows L2
section
variable {X : Cx} {K : PySem.W.Frag}
/-- repr of data of any kind -/
def rReprD (K : PySem.W.Frag) : List V → Hp → VK → Prop := fun vs H Q =>
  ∃ (v : V) (d : PyData), vs = [v] ∧ Dp K H v d ∧ d.showable = true ∧ d.hasDict = false ∧ d.depth ≤ 60 ∧ d.shown.length ≤ sizeLine ∧ Q (.str d.shown) H
theorem call_reprD (hG : X.A.guards = some []) (hu : X.A.units + 64 < cLine) : CallR X (.builtin "repr") (rReprD X.K) := by
  intro pins s σ H xs us Q I r h
  obtain ⟨v, d, rfl, hd, hs, hn, hdp, hz, q⟩ := h
  have refs : ∀ a : Addr, v = .ref a → wpAny (model X.prog X.w) X.A (call (.builtin "repr") us) (EP X pins σ Q) X.xe s := by
    intro a ha
    subst ha
    exact call_repr hG hu pins s σ H [.ref a] us Q I r ⟨a, d, rfl, hd, hs, hn, hdp, hz, q⟩
  cases hd with
  | lst _ _ => exact refs _ rfl
  | tup _ _ => exact refs _ rfl
  | non =>
    obtain ⟨u, rfl, hu1⟩ := vals1 r
    cases (show u = Value.none from hu1)
    exact PySem.P.repr_of_none ⟨.str "None", H, I.tok _, ⟨_, rfl⟩, by simpa only [PyData.shown] using q⟩
  | bl b =>
    obtain ⟨u, rfl, hu1⟩ := vals1 r
    cases (show u = Value.bool b from hu1)
    exact PySem.P.repr_of_bool ⟨.str (if b then "True" else "False"), H, I.tok _, ⟨_, rfl⟩, by simpa only [PyData.shown] using q⟩
  | int i =>
    obtain ⟨u, rfl, t, rfl⟩ := vals1 r
    simp only [PyData.showable, decide_eq_true_eq] at hs
    exact PySem.P.repr_of_int hs ⟨.str (toString i), H, I.tok _, ⟨_, rfl⟩, by simpa only [PyData.shown] using q⟩
  | str x =>
    obtain ⟨u, rfl, t, rfl⟩ := vals1 r
    refine PySem.P.repr_of_str ⟨.str (reprText x), H, I.tok _, ⟨_, rfl⟩, by simpa only [PyData.shown] using q⟩ ?_
    simpa only [PyData.shown] using hz
theorem call_reprDK (hK : X.K = K) (hG : X.A.guards = some []) (hu : X.A.units + 64 < cLine) : CallR X (.builtin "repr") (rReprD K) := by
  subst hK; exact call_reprD hG hu
end
theorem reprD {K : PySem.W.Frag} {H : Hp} {v : V} {d : PyData} {k n : Nat} {Q : VK} {S : Str} (hd : Dp K H v d) (hs : Sh k n d) (hk : k ≤ 60) (hn : n ≤ 16000000) (e : d.shown = S) (q : Q (.str S) H) : rReprD K [v] H Q := by
  subst e
  exact ⟨v, d, rfl, hd, hs.1, hs.2.1, Nat.le_trans hs.2.2.1 hk, Nat.le_trans hs.2.2.2 (Nat.le_trans hn (by decide)), q⟩
theorem tk_hid {H : Hp} {a : Addr} {xs : List V} (h : H a = some (.lst xs)) : Tk H (hid a H) := fun b o no hb => by
  unfold hid
  rw [if_neg ?_]
  · exact hb
  · rintro rfl
    rw [h] at hb
    cases hb
    exact no _ rfl
theorem Dp.q {K : PySem.W.Frag} {H : Hp} {a s : Addr} {n : Nat} {v : V} {d : PyData} (f : Fd H a s n) (ht : tupOnly d = true) (h : Dp K H v d) : Dq K a H v d := by
  obtain ⟨xs, hx⟩ := f.at
  exact Dp.tk (tk_hid hx) _ _ ht h
theorem dpa_rep {K : PySem.W.Frag} {H : Hp} {v : V} {d : PyData} (h : Dp K H v d) : ∀ n : Nat, DpAll K H (List.replicate n v) (List.replicate n d)
  | 0 => .nil
  | n + 1 => .cons h (dpa_rep h n)
theorem flat_rep {v : V} : ∀ n : Nat, (List.replicate n [v]).flatten = List.replicate n v
  | 0 => rfl
  | n + 1 => by rw [List.replicate_succ, List.replicate_succ, List.flatten_cons, flat_rep n]; rfl
/-- (x,) * n -/
theorem rep1_dp {K : PySem.W.Frag} {H : Hp} {x v : V} {d : PyData} {p : Addr} {k : Int} {Q : VK} (hx : SqT K H p [v]) (hv : Dp K H v d) (h1 : -1000 ≤ k) (h2 : k ≤ 1000)
    (q : ∀ u H', Same H H' → Dp K H' u (.tuple (List.replicate k.toNat d)) → Q u H') : rRepA K (.ref p) (.int k) H Q := by
  refine ⟨p, k, _, rfl, rfl, hx, (by simp), h1, h2, (by simp), ?_⟩
  intro p2 H2 e h
  rw [flat_rep] at h
  exact q _ _ e (.tup h (dpa_rep (Dp.same e _ _ hv) _))
end Gd
namespace Gd
open PySem PySem.Spec PyProof.Rows L2
/-! ### dicts with tuples as keys: a comprehension, a display of one -/
/-- a key and its value come into a dict that a comprehension or a display makes -/
theorem put_tup {X : Cx} {pins : List (Addr × Obj)} {σ : L2.St} {H : Hp} {s : Shared} {A : Around} {E : Value → Shared → Prop} {D b : Addr} {kvs : List (List L2.Key × V)} {k : List L2.Key} {v : V} {u r : Value}
    {Q : Unit → Shared → Prop} (room : A.units < cLine) (I : Inv X pins σ H s) (hD : H D = some (.dT kvs)) (fits : kvs.length < sizeLine) (hb : H b = some (.tup (k.map kV)))
    (ru : RelV (.ref b) u) (rv : RelV v r) (go : ∀ s', Inv X pins σ (upd H D (.dT (putK kvs k v))) s' → Q () s') : wpAny (model X.prog X.w) A (dictSet D u r) Q E s := by
  have hu : u = Value.ref b := ru
  subst hu
  obtain ⟨z, hne, es, rel, dd⟩ := dt_of I.hok hD
  have len := Paired.length rel
  have more := length_putK kvs k v
  refine wpAny_dictSet_heap (knd := tupleKind (mixKind X.prog X.w)) (hsz := by omega) room (key_of I.hok hb) dd fun h' dd' sb => go _ ?_
  obtain ⟨q, xs, ep, g1, g2, g3, g4, _, g5⟩ := dd'
  have keep : ∀ c ys, H c = some (.tup ys) → upd H D (.dT (putK kvs k v)) c = some (.tup ys) := fun c ys hc => by
    rw [upd_ne (ne_of hc hD (fun e => nomatch e))]
    exact hc
  exact d_write I (by rw [hD]; trivial) sb ⟨q, g1⟩ ⟨by omega, hne, _, (rel.put k hb rv).keeps keep, q, xs, ep, g1, g2, g3, g4, g5⟩
section
variable {X : Cx}
/-- {k: v for target in iter if ..}, the keys tuples of numbers and texts -/
def tDcT (wi : TI) (g : TG) (tt : TT) (tk tv : TE) (own : List Nat) : TE := fun σ H Q => wi σ H fun J H1 => ∀ D, H1 D = none →
  ∃ W : Nat → Nat → Hp → Prop, (∃ m, W 0 m (upd H1 D (.dT []))) ∧ ∀ i m H, W i m H → (J.stop i H ∧ Q (.ref D) H) ∨
    (J.go i H ∧ ∃ Nx : Hp → Prop, (∀ H', Nx H' → ∃ m', m' < m ∧ W (i + 1) m' H') ∧
      ∀ x H', J.yld i H x H' → g x (wipe σ own) H' fun σ2 H2 => wipe σ2 own = wipe σ own ∧ tt σ2 H2 fun yes H3 =>
        if yes = true then tk σ2 H3 fun y H4 => tv σ2 H4 fun z H5 => ∃ kvs k b, y = .ref b ∧ H5 b = some (.tup (k.map kV)) ∧ H5 D = some (.dT kvs) ∧ kvs.length < sizeLine ∧ Nx (upd H5 D (.dT (putK kvs k z)))
        else Nx H3)
theorem pe_dcT {kx vx tg iter : Expr} {ifs : List Expr} {scope : Scope} {own : List (Str × Nat)} {pos : Pos} {wi : TI} {g : TG} {tt : TT} {tk tv : TE} (room : X.A.units < cLine) (calm : X.calm = true) (nd : X.N.Nodup)
    (hi : PI X tg iter wi) (ok : BlkOk X.N X.env.scope scope own)
    (hg : ∀ s H C cl fp, PG (X.blk s H scope (compEnvC scope cl C X.env) fp) tg g) (ht : ∀ s H C cl fp, PTs (X.blk s H scope (compEnvC scope cl C X.env) fp) ifs tt)
    (hk : ∀ s H C cl fp, PE (X.blk s H scope (compEnvC scope cl C X.env) fp) kx tk) (he : ∀ s H C cl fp, PE (X.blk s H scope (compEnvC scope cl C X.env) fp) vx tv)
    (fold : ∀ x, foldedSetIterable iter X.env x = pure x := by intro _; rfl) : PE X (.DictComp kx vx [⟨tg, iter, ifs, 0⟩] scope pos) (tDcT wi g tt tk tv (own.map (·.2))) := by
  refine ⟨fun pins s σ H Q I want => ?_⟩
  rw [arm_eval_DictComp]
  have cells : closureFor scope X.env = pure (cloFrom X.env.cells scope.names []) := closure_ok fun y hy e => (ok.free y hy e).elim (fun q => I.ok.has _ (.inl q)) (fun q => I.ok.has _ (.inr q))
  refine wpAny_comprehension_free rfl fold cells ok.kind (fun y hy e => by rw [ok.uniq y hy, e]) (thn (hi.run pins s σ H _ I want) fun xv s1 hx => thn hx fun itv s2 hit => ?_)
  obtain ⟨it, fp, tn, J, H2, rfl, I2, T, st2, f2, rest⟩ := hit
  refine wpAny_newObj_type (newEnv_comp ?_)
  obtain ⟨D, hD⟩ : ∃ D, s2.heap.objs.size = D := ⟨_, rfl⟩
  rw [hD]
  have new : H2 D = none := I2.hok.fresh (Nat.le_of_eq hD)
  obtain ⟨W, ⟨m0, w0⟩, turn⟩ := rest D new
  have small : ∀ b ∈ fp, b < s2.heap.objs.size := fun b hb => let ⟨_, e, _⟩ := T.obj _ _ st2 b hb; Heap.lt_size e
  -- the state with the new dict
  obtain ⟨s3, hs3⟩ : ∃ s3 : Shared, s3 = { s2 with heap := s2.heap.push { cls := .type "dict", data := .dict #[] } } := ⟨_, rfl⟩
  have up3 : s3.heap = s2.heap.push { cls := .type "dict", data := .dict #[] } := by rw [hs3]
  obtain ⟨H3, hH3⟩ : ∃ H3, H3 = upd H2 D (.dT []) := ⟨_, rfl⟩
  have I3 : Inv X pins σ H3 s3 := by
    rw [hs3, hH3]
    refine I2.laid (t' := s2.toks) (fun b o e => Heap.get?_push_of_some _ e) (Nat.le_of_eq hD) ?_
    rw [← hD]
    exact dt_empty s2.heap I2.big
  have f3 : ∀ b ∈ fp, FpOk X pins H3 b ∧ b < s3.heap.objs.size := fun b hb => by
    have lt := small b hb
    have off : H3 b = H2 b := by rw [hH3, upd_ne (Nat.ne_of_lt (hD ▸ lt))]
    exact ⟨⟨by rw [off]; exact (f2 b hb).1, (f2 b hb).2⟩, by rw [up3, Heap.size_push]; exact Nat.lt_succ_of_lt lt⟩
  have st3 : tn 0 s3.heap := T.keep _ _ _ st2 fun b _ o e => by rw [up3]; exact Heap.get?_push_of_some _ e
  have off3 : ∀ b ∈ fp, H3 b = none := fun b hb => (f3 b hb).1.1
  rw [← hH3] at w0
  -- the block
  have I4 := block_start I3 ok nd f3
  obtain ⟨ce, hce⟩ : ∃ ce, compEnvC scope (cellsFrom (s3.heap.objs.size + 1) scope.names (cloFrom X.env.cells scope.names [])) s3.heap.objs.size X.env = ce := ⟨_, rfl⟩
  have pg := hg s3 H3 s3.heap.objs.size (cellsFrom (s3.heap.objs.size + 1) scope.names (cloFrom X.env.cells scope.names [])) fp
  have pt := ht s3 H3 s3.heap.objs.size (cellsFrom (s3.heap.objs.size + 1) scope.names (cloFrom X.env.cells scope.names [])) fp
  have pk := hk s3 H3 s3.heap.objs.size (cellsFrom (s3.heap.objs.size + 1) scope.names (cloFrom X.env.cells scope.names [])) fp
  have pv := he s3 H3 s3.heap.objs.size (cellsFrom (s3.heap.objs.size + 1) scope.names (cloFrom X.env.cells scope.names [])) fp
  rw [hce] at I4 pg pt pk pv
  have loc : ce.locals = s3.heap.objs.size := by rw [← hce]; rfl
  obtain ⟨s4, hs4⟩ : ∃ s4 : Shared, { s3 with heap := pushCells (s3.heap.push { cls := .type "dict", data := .dict #[] }) scope.names } = s4 := ⟨_, rfl⟩
  rw [hs4] at I4
  have st4 : tn 0 s4.heap := T.keep _ _ _ st3 fun b _ o e => by rw [← hs4]; exact pushCells_keeps _ _ _ _ (Heap.get?_push_of_some _ e)
  obtain ⟨R, hR⟩ : ∃ R : Result → Shared → Prop, R = compPost (model X.prog X.w) X.A X.xe none (EP X pins σ Q) (.ref D) s3.heap.objs.size := ⟨_, rfl⟩
  have free : ∀ {σ' : L2.St} {H' : Hp} {s' : Shared}, Inv (X.blk s3 H3 scope ce fp) [] σ' H' s' → (∀ b ∈ fp, H' b = none) → ∀ b ∈ fp, FpOk (X.blk s3 H3 scope ce fp) [] H' b := fun J' off b hb =>
    ⟨off b hb, (J'.ok.exf b hb).1, J'.ok.exfs b hb, .inl hb, (J'.ok.exf b hb).2, fun p hp => absurd (show p ∈ ([] : List (Addr × Obj)) ++ [] from hp) (by simp)⟩
  have loop : codeAny (model X.prog X.w) X.A (.compLoop (.DictComp kx vx [⟨tg, iter, ifs, 0⟩] scope pos) 0 (.ref it) (.ref D) ce) R s4 := by
    refine compLoop_anyD (fun n s' => ∃ i H', Inv (X.blk s3 H3 scope ce fp) [] (wipe σ (own.map (·.2))) H' s' ∧ tn i s'.heap ∧ (∀ b ∈ fp, H' b = none) ∧ W i n H') ?_ m0 ⟨0, H3, I4, st4, off3, w0⟩
    rintro n s5 ⟨i, H5, I5, st5, off5, w5⟩
    rcases turn i n H5 w5 with ⟨halt, told⟩ | ⟨more, Nx, hNx, step⟩
    · refine thnF (T.done (X.blk s3 H3 scope ce fp) rfl rfl rfl calm i [] s5 _ H5 (fun _ _ => False) I5 (free I5 off5) st5 halt) fun r s6 hr => ?_
      obtain ⟨rfl, I6⟩ := hr
      have back : Inv X pins σ H5 s6 := I3.call' (ch := fp) I6.os I6.base I6.hok I6.bare fun b hb => let z := (f3 b hb).1; ⟨z.2.2.2.1, z.2.1, z.2.2.2.2.1, z.2.2.2.2.2⟩
      have fr : H5 s3.heap.objs.size = none := loc ▸ (I6.free : H5 ce.locals = none)
      obtain ⟨m, ns, _⟩ := I6.loc
      have ns : s6.heap.Ns s3.heap.objs.size m := loc ▸ (ns : s6.heap.Ns ce.locals m)
      obtain ⟨z0, z1, z2, z3, z4, z5⟩ := I3.fpOk (Nat.le_refl _) fr
      rw [hR]
      exact ⟨m, ns, fun h' sb => ⟨.ref D, H5, back.turned (t' := s6.toks) (fun b o hb e => (sb.2 b hb).trans e) z0 z1 z3 z4 z5, rfl, told⟩⟩
    · refine thnF (T.item (X.blk s3 H3 scope ce fp) rfl rfl rfl calm i [] s5 _ H5 (fun _ _ => False) I5 (free I5 off5) st5 more) fun r s6 hr => ?_
      obtain ⟨u, rfl, h6⟩ := hr
      refine thnF h6 fun _ s7 h7 => ?_
      obtain ⟨x, H7, I7, r7, y7, st7, off7⟩ := h7
      have pin := I7.pinned (free I7 off7) (T.obj _ _ st7)
      refine thnF (pg.run _ s7 _ H7 x u _ pin r7 (step x H7 y7)) fun _ s8 h8 => ?_
      obtain ⟨σ8, H8, I8, hw8, q8⟩ := h8
      have last : ∀ {s' : Shared} {H' : Hp}, Inv (X.blk s3 H3 scope ce fp) ([] ++ pinsAt fp s7.heap) σ8 H' s' → Nx H' →
          ∃ m, m < n ∧ ∃ i H', Inv (X.blk s3 H3 scope ce fp) [] (wipe σ (own.map (·.2))) H' s' ∧ tn i s'.heap ∧ (∀ b ∈ fp, H' b = none) ∧ W i m H' := fun {s' H'} J' nx => by
        obtain ⟨m', lt, w'⟩ := hNx H' nx
        have stay : ∀ b ∈ fp, ∀ o, s7.heap.get? b = some o → s'.heap.get? b = some o ∧ H' b = none := fun b hb o e =>
          have z := J'.pin (b, o) (List.mem_append_right _ (List.mem_append_right _ (mem_pinsAt hb e)))
          ⟨z.1, z.2.1⟩
        refine ⟨m', lt, i + 1, H', (J'.unpinned (pins := [])).weak (by rw [← hw8, wipe_length]) (fun j v e => (wipe_some (by rw [hw8]; exact e)).1), T.keep _ _ _ st7 fun b hb o e => (stay b hb o e).1, fun b hb => ?_, w'⟩
        obtain ⟨o, e, _⟩ := T.obj _ _ st7 b hb
        exact (stay b hb o e).2
      refine thnF (pt.run _ s8 σ8 H8 _ I8 q8) fun yes s9 h9 => ?_
      obtain ⟨H9, I9, q9⟩ := h9
      cases yes with
      | false =>
        rw [if_neg (by decide)] at q9 ⊢
        exact last I9 q9
      | true =>
        rw [if_pos rfl] at q9 ⊢
        refine thnF (pk.run _ s9 σ8 H9 _ I9 q9) fun z1 s10 h10 => ?_
        obtain ⟨yk, H10, I10, r10, q10⟩ := h10
        refine thnF (pv.run _ s10 σ8 H10 _ I10 q10) fun z2 s11 h11 => ?_
        obtain ⟨yv, H11, I11, r11, kvs, k, b, rfl, hb, hD11, fits, nx⟩ := h11
        exact put_tup (X := X.blk s3 H3 scope ce fp) room I11 hD11 fits hb r10 r11 fun s12 I12 => last I12 nx
  have start := codeAny_compStart_dict loop (T.self X.A 0 _ _ _ st4 loop)
  rw [hR, ← hs4, ← hce] at start
  subst hs3
  exact start
/-- {k: v}, k a tuple -/
def tDisp1T (tk tv : TE) : TE := fun σ H Q => ∀ p, H p = none → tPairs [(tk, tv)] σ (upd H p (.dT [])) fun ps H2 => ∃ k b z, ps = [(V.ref b, z)] ∧ H2 b = some (.tup (k.map kV)) ∧ H2 p = some (.dT []) ∧ Q (.ref p) (upd H2 p (.dT [(k, z)]))
theorem pe_disp1T {pos : Pos} {kx vx : Expr} {tk tv : TE} (room : X.A.units < cLine) (hk : PE X kx tk) (hv : PE X vx tv) : PE X (.Dict [some kx] [vx] pos) (tDisp1T tk tv) := by
  refine ⟨fun pins s σ H Q I want => ?_⟩
  have new := I.hok.fresh (Nat.le_refl s.heap.objs.size)
  have I1 := I.laid (a := s.heap.objs.size) (o := .dT []) (h' := s.heap.push { cls := .type "dict", data := .dict #[] }) (t' := s.toks) (fun _ _ q => Heap.get?_push_of_some _ q) (Nat.le_refl _) (dt_empty s.heap I.big)
  have pairs : PPs X pos [some kx] [vx] [(tk, tv)] := pps_cons hk hv pps_nil
  refine wpAny_Dict_any rfl rfl (by simp) (by simp) (thn (pairs.run pins _ σ _ _ I1 (want s.heap.objs.size new)) fun vs s2 h2 => ?_)
  obtain ⟨ps, H2, I2, rel, k, b, z, rfl, hb, hD, q⟩ := h2
  cases rel with
  | cons r1 r2 =>
    cases r2
    rename_i w
    unfold storeAll
    rw [List.forIn_cons]
    refine wpAny_bind (wpAny_bind (put_tup room I2 hD (by decide) hb r1.1 r1.2 fun s3 I3 => wpAny_pure ?_))
    dsimp only
    rw [List.forIn_nil]
    exact wpAny_pure ⟨.ref s.heap.objs.size, _, I3, rfl, q⟩
end
end Gd
namespace Gd
open PySem PySem.Spec PyProof.Rows L2
/-! ### tuples of row numbers, own ones, as keys -/
def nV (c : List Nat) : List V := c.map fun (n : Nat) => V.int (n : Int)
def kc (c : List Nat) : List L2.Key := c.map fun (n : Nat) => Sum.inl (n : Int)
theorem kc_map (c : List Nat) : (kc c).map kV = nV c := by
  unfold kc nV
  rw [List.map_map]
  rfl
theorem kc_inj : ∀ {c d : List Nat}, kc c = kc d → c = d
  | [], [], _ => rfl
  | [], _ :: _, h => by simp [kc] at h
  | _ :: _, [], h => by simp [kc] at h
  | a :: c, b :: d, h => by
    simp only [kc, List.map_cons, List.cons.injEq, Sum.inl.injEq] at h
    have e1 : a = b := by omega
    have e2 : c = d := kc_inj h.2
    rw [e1, e2]
inductive Tts (H : Hp) : List V → List (List Nat) → Prop
  | nil : Tts H [] []
  | cons {b : Addr} {xs : List V} {c : List Nat} {cs : List (List Nat)} (h : H b = some (.tup (nV c))) (t : Tts H xs cs) : Tts H (.ref b :: xs) (c :: cs)
theorem Tts.tk {H H' : Hp} {xs : List V} {cs : List (List Nat)} (t : Tts H xs cs) (e : Tk H H') : Tts H' xs cs := by
  induction t with
  | nil => exact .nil
  | cons h _ ih => exact .cons (e _ _ (fun _ z => by cases z) h) ih
theorem Tts.len {H : Hp} {xs : List V} {cs : List (List Nat)} (t : Tts H xs cs) : xs.length = cs.length := by
  induction t with
  | nil => rfl
  | cons _ _ ih => simp [ih]
theorem Tts.get {H : Hp} {xs : List V} {cs : List (List Nat)} (t : Tts H xs cs) : ∀ {i : Nat} {x : V}, xs[i]? = some x → ∃ b c, x = .ref b ∧ cs[i]? = some c ∧ H b = some (.tup (nV c)) := by
  induction t with
  | nil => intro i x h; simp at h
  | @cons b xs c cs h _ ih =>
    intro i x hx
    cases i with
    | zero =>
      simp at hx
      subst hx
      exact ⟨b, c, rfl, rfl, h⟩
    | succ i => exact ih (by simpa using hx)
theorem Tts.snoc {H : Hp} {xs : List V} {cs : List (List Nat)} {b : Addr} {c : List Nat} (t : Tts H xs cs) (h : H b = some (.tup (nV c))) : Tts H (xs ++ [.ref b]) (cs ++ [c]) := by
  induction t with
  | nil => exact .cons h .nil
  | cons h' _ ih => exact .cons h' ih
/-! ### choices -/
def lastN (c : List Nat) : Nat := c.getD (c.length - 1) 0
def goN (size : Nat) (c : List Nat) (n : Nat) : Bool := decide (size = 0) || decide (lastN c < n)
def extM (many size : Nat) (c : List Nat) : List (List Nat) := ((List.range many).filter (goN size c)).map fun n => c ++ [n]
def choicesM (many : Nat) : Nat → List (List Nat)
  | 0 => [[]]
  | k + 1 => (choicesM many k).flatMap (extM many k)
theorem choices_mem {many : Nat} : ∀ {k : Nat} {c : List Nat}, c ∈ choicesM many k → c.length = k ∧ ∀ n ∈ c, n < many
  | 0, c, h => by
    simp [choicesM] at h
    subst h
    exact ⟨rfl, fun n hn => by cases hn⟩
  | k + 1, c, h => by
    obtain ⟨d, hd, hc⟩ := List.mem_flatMap.mp h
    obtain ⟨n, hn, rfl⟩ := List.mem_map.mp hc
    obtain ⟨h1, h2⟩ := choices_mem hd
    have hn := List.mem_range.mp (List.mem_filter.mp hn).1
    refine ⟨by rw [List.length_append, h1]; rfl, fun x hx => ?_⟩
    rcases List.mem_append.mp hx with h | h
    · exact h2 x h
    · rw [List.mem_singleton.mp h]
      exact hn
theorem ext_len (many size : Nat) (c : List Nat) : (extM many size c).length ≤ many := by
  unfold extM
  rw [List.length_map]
  have := List.length_filter_le (goN size c) (List.range many)
  rw [List.length_range] at this
  exact this
theorem flat_len {many size : Nat} : ∀ cs : List (List Nat), (cs.flatMap (extM many size)).length ≤ cs.length * many
  | [] => by simp
  | c :: cs => by
    have h1 := ext_len many size c
    have h2 := flat_len (many := many) (size := size) cs
    rw [List.flatMap_cons, List.length_append, List.length_cons, Nat.add_mul]
    omega
def er (c : List Nat) (p : Nat) : List Nat := c.take p ++ c.drop (p + 1)
theorem choice_facts : ∀ w < 8, ∀ k < 8, (choicesM w k).Nodup ∧ (choicesM w k).length ≤ 35 := by decide +kernel
theorem choice_erase0 : ∀ w < 8, ∀ k < 7, ∀ c ∈ choicesM w (k + 1), ∀ p < k + 1, er c p ∈ choicesM w k := by decide +kernel
theorem choice_full : ∀ w < 8, List.range w ∈ choicesM w w := by decide +kernel
/-! ### corners by the first row -/
def sgnT (p : Nat) (x : Int) : Int := if p % 2 = 0 then x else -x
def rowM (r : List Int) (c : List Nat) (f : List Nat → Int) (j : Nat) : Int := sumR j fun p => sgnT p (r.getD (c.getD p 0) 0 * f (er c p))
def detM : List (List Int) → List Nat → Int
  | [], _ => 1
  | r :: rs, c => rowM r c (detM rs) c.length
/-! ### a dict told by a list -/
theorem val_map {cs : List (List Nat)} {v : List Nat → V} {c : List Nat} (h : c ∈ cs) : valV (cs.map fun c => (kc c, v c)) (kc c) = some (v c) := by
  induction cs with
  | nil => cases h
  | cons d cs ih =>
    unfold valV
    rw [List.map_cons, List.find?_cons]
    by_cases e : d = c
    · subst e
      simp
    · have ne : decide (kc d = kc c) = false := decide_eq_false fun z => e (kc_inj z)
      simp only [ne]
      have hc : c ∈ cs := by
        rcases List.mem_cons.mp h with z | z
        · exact absurd z.symm e
        · exact z
      exact ih hc
theorem put_new {kvs : List (List L2.Key × V)} {k : List L2.Key} {v : V} (h : ∀ kv ∈ kvs, kv.1 ≠ k) : putK kvs k v = kvs ++ [(k, v)] := by
  unfold putK
  rw [if_neg]
  rw [List.any_eq_true]
  rintro ⟨kv, hkv, e⟩
  exact h kv hkv (of_decide_eq_true e)
end Gd
namespace Gd
open PySem PySem.Spec PyProof.Rows L2
/-! ### own tuples of numbers -/
theorem nV_app (c d : List Nat) : nV (c ++ d) = nV c ++ nV d := List.map_append ..
theorem nV_len (c : List Nat) : (nV c).length = c.length := List.length_map ..
theorem nV_take (c : List Nat) (i : Nat) : nV (c.take i) = (nV c).take i := by unfold nV; rw [List.map_take]
theorem nV_drop (c : List Nat) (i : Nat) : nV (c.drop i) = (nV c).drop i := by unfold nV; rw [List.map_drop]
theorem nV_nil {c : List Nat} (h : nV c = []) : c = [] := List.map_eq_nil_iff.mp h
theorem nV_get {c : List Nat} {i : Nat} (h : i < c.length) : (nV c)[i]? = some (.int (c.getD i 0 : Nat)) := by
  unfold nV
  rw [List.getElem?_map, List.getElem?_eq_getElem h, List.getD_eq_getElem?_getD, List.getElem?_eq_getElem h]
  rfl
section
variable {K : PySem.W.Frag} {H : Hp} {Q : VK} {a b : Addr} {c d : List Nat}
theorem own_cat (ha : H a = some (.tup (nV c))) (hb : H b = some (.tup (nV d))) (hl : c.length + d.length ≤ 1000)
    (k : ∀ p H', Same H H' → H' p = some (.tup (nV (c ++ d))) → Q (.ref p) H') : rCatA K (.ref a) (.ref b) H Q := by
  refine ⟨a, b, nV c, nV d, rfl, rfl, SqT.of ha, SqT.of hb, ?_, ?_, ?_, ?_⟩
  · rw [nV_len, nV_len]
    exact Nat.le_trans hl (by decide)
  · intro h
    rw [nV_nil h] at k
    exact k b H (Same.refl H) hb
  · intro _ h
    rw [nV_nil h, List.append_nil] at k
    exact k a H (Same.refl H) ha
  · intro _ _ p np
    exact k p _ (Same.new np) (by rw [nV_app]; exact upd_same)
theorem own_sl {lo hi : Option Int} {i j : Nat} (ha : H a = some (.tup (nV c))) (hi1 : HT.sIx c.length 0 lo = i) (hj1 : HT.sIx c.length c.length hi = j)
    (k : ∀ p H', Same H H' → H' p = some (.tup (nV ((c.drop i).take (j - i)))) → Q (.ref p) H') : rSlA K (.ref a) lo hi H Q := by
  refine ⟨a, nV c, rfl, SqT.of ha, ?_, ?_⟩
  · rintro ⟨h1, h2⟩
    rw [nV_len] at h1 h2
    have e0 : i = 0 := by omega
    have e1 : j = c.length := by omega
    rw [e0, e1, List.drop_zero, Nat.sub_zero, List.take_length] at k
    exact k a H (Same.refl H) ha
  · intro _ p np
    have e : cutV (nV c) lo hi = nV ((c.drop i).take (j - i)) := by
      unfold cutV
      rw [nV_len, hi1, hj1, nV_take, nV_drop]
    rw [e]
    exact k p _ (Same.new np) upd_same
theorem own_to {i : Nat} {z : Int} (hz : z = (i : Int)) (ha : H a = some (.tup (nV c)))
    (k : ∀ p H', Same H H' → H' p = some (.tup (nV (c.take i))) → Q (.ref p) H') : rSlA K (.ref a) none (some z) H Q := by
  subst hz
  refine own_sl ha (i := 0) (j := min i c.length) rfl (HT.sIx_nat _ _ _) fun v H' e h => k v H' e ?_
  have : (c.drop 0).take (min i c.length - 0) = c.take i := by
    rw [List.drop_zero, Nat.sub_zero]
    by_cases hi : i ≤ c.length
    · rw [Nat.min_eq_left hi]
    · rw [Nat.min_eq_right (by omega), List.take_length, List.take_of_length_le (by omega)]
  rw [this] at h
  exact h
theorem own_from {i : Nat} {z : Int} (hz : z = (i : Int)) (ha : H a = some (.tup (nV c)))
    (k : ∀ p H', Same H H' → H' p = some (.tup (nV (c.drop i))) → Q (.ref p) H') : rSlA K (.ref a) (some z) none H Q := by
  subst hz
  refine own_sl ha (i := min i c.length) (j := c.length) (HT.sIx_nat _ _ _) rfl fun v H' e h => k v H' e ?_
  have : (c.drop (min i c.length)).take (c.length - min i c.length) = c.drop i := by
    rw [List.take_of_length_le (by rw [List.length_drop]; omega)]
    by_cases hi : i ≤ c.length
    · rw [Nat.min_eq_left hi]
    · rw [Nat.min_eq_right (by omega), List.drop_length, List.drop_of_length_le (by omega)]
  rw [this] at h
  exact h
theorem own_ix {i : Int} {j : Nat} (hz : i = (j : Int)) (ha : H a = some (.tup (nV c))) (hj : j < c.length)
    (k : Q (.int (c.getD j 0 : Nat)) H) : rIxT K (.ref a) (.int i) H Q :=
  ⟨a, nV c, i, _, rfl, rfl, SqT.of ha, by rw [hz]; exact atI_nat (nV_get hj), k⟩
end
/-! ### loops over a list and over numbers, the body as it comes -/
theorem lcG {K : PySem.W.Frag} {a : Addr} {xs : List V} {Bd : V → Hp → (Hp → Prop) → Prop} {H1 : Hp} {Qd : Hp → Prop} (Pv : Nat → Hp → Prop) (h0 : Pv 0 H1) (hl : ∀ i H, i ≤ xs.length → Pv i H → SqL K H a xs)
    (hs : ∀ i x H, xs[i]? = some x → Pv i H → Bd x H (Pv (i + 1))) (hd : ∀ H, Pv xs.length H → Qd H) :
    ∃ W : Nat → Nat → Hp → Prop, (∃ m, W 0 m H1) ∧ ∀ i m H, W i m H →
      ((Itl K a).stop i H ∧ Qd H) ∨ ((Itl K a).go i H ∧ ∃ Nx : Hp → Prop, (∀ H', Nx H' → ∃ m', m' < m ∧ W (i + 1) m' H') ∧ ∀ x H', (Itl K a).yld i H x H' → Bd x H' Nx) := by
  refine ⟨fun i m H => m = xs.length - i ∧ i ≤ xs.length ∧ Pv i H, ⟨xs.length, by simp, Nat.zero_le _, h0⟩, ?_⟩
  rintro i m H ⟨rfl, hi, p⟩
  have q := hl i H hi p
  by_cases hlt : i < xs.length
  · refine .inr ⟨⟨xs, _, q, List.getElem?_eq_getElem hlt⟩, Pv (i + 1), fun H' p' => ⟨xs.length - (i + 1), by omega, rfl, hlt, p'⟩, fun x H' y => ?_⟩
    obtain ⟨e, y⟩ := y
    subst e
    exact hs i x _ (y xs q) p
  · have e : i = xs.length := by omega
    subst e
    exact .inl ⟨⟨xs, q, Nat.le_refl _⟩, hd H p⟩
theorem lcGr {lo : Int} {n : Nat} {Bd : V → Hp → (Hp → Prop) → Prop} {H1 : Hp} {Qd : Hp → Prop} (Pv : Nat → Hp → Prop) (h0 : Pv 0 H1)
    (hs : ∀ i H, i < n → Pv i H → Bd (.int (lo + i)) H (Pv (i + 1))) (hd : ∀ H, Pv n H → Qd H) :
    ∃ W : Nat → Nat → Hp → Prop, (∃ m, W 0 m H1) ∧ ∀ i m H, W i m H →
      ((Itr lo n).stop i H ∧ Qd H) ∨ ((Itr lo n).go i H ∧ ∃ Nx : Hp → Prop, (∀ H', Nx H' → ∃ m', m' < m ∧ W (i + 1) m' H') ∧ ∀ x H', (Itr lo n).yld i H x H' → Bd x H' Nx) := by
  refine ⟨fun i m H => m = n - i ∧ i ≤ n ∧ Pv i H, ⟨n, by simp, Nat.zero_le _, h0⟩, ?_⟩
  rintro i m H ⟨rfl, hi, p⟩
  by_cases hlt : i < n
  · refine .inr ⟨hlt, Pv (i + 1), fun H' p' => ⟨n - (i + 1), by omega, rfl, hlt, p'⟩, fun x H' y => ?_⟩
    obtain ⟨e, y⟩ := y
    subst e y
    exact hs i _ hlt p
  · have e : i = n := by omega
    subst e
    exact .inl ⟨Nat.le_refl _, hd H p⟩
theorem Tk.put {H : Hp} {D : Addr} {ys zs : List V} (h : H D = some (.lst ys)) : Tk H (upd H D (.lst zs)) := fun b o ne hb => by
  by_cases e : b = D
  · subst e
    rw [h] at hb
    cases hb
    exact absurd rfl (ne ys)
  · rw [upd_ne e]
    exact hb
theorem Same.put {H0 H : Hp} {D : Addr} {o : HO} (e : Same H0 H) (n : H0 D = none) : Same H0 (upd H D o) := fun b o' hb => by
  by_cases z : b = D
  · subst z
    rw [n] at hb
    cases hb
  · rw [upd_ne z]
    exact e _ _ hb
theorem Tts.same {H H' : Hp} {xs : List V} {cs : List (List Nat)} (t : Tts H xs cs) (e : Same H H') : Tts H' xs cs := t.tk fun b o _ h => e b o h
theorem flat_take {cs : List (List Nat)} {many size i : Nat} {c : List Nat} (h : cs[i]? = some c) : (cs.take (i + 1)).flatMap (extM many size) = (cs.take i).flatMap (extM many size) ++ extM many size c := by
  rw [List.take_succ, h, List.flatMap_append]
  simp
theorem ext_succ {size q : Nat} {c : List Nat} : extM (q + 1) size c = extM q size c ++ (if goN size c q = true then [c ++ [q]] else []) := by
  unfold extM
  rw [List.range_succ, List.filter_append, List.map_append]
  by_cases h : goN size c q = true
  · simp [h]
  · simp [h]
theorem ixN_back {n s : Nat} (h0 : 0 < s) (h : s ≤ n) : ixN n (-(s : Int)) = some (n - s) := by
  unfold ixN
  rw [if_neg (by omega)]
  first
    | (rw [if_pos (by omega)]; congr 1; omega)
    | (split <;> first | (congr 1; omega) | omega)
theorem atI_last {c : List Nat} (h : 0 < c.length) : atI (nV c) (-1) = some (.int (lastN c : Nat)) := by
  have e := nV_get (c := c) (i := c.length - 1) (by omega)
  unfold atI
  have := ixN_back (n := c.length) (s := 1) (by omega) h
  rw [nV_len, show (-1 : Int) = -((1 : Nat) : Int) from rfl, this]
  exact e
end Gd
namespace Gd
open PySem PySem.Spec PyProof.Rows L2
/-! ### orders with signs -/
inductive Tos (H : Hp) : List V → List (List Nat × Int) → Prop
  | nil : Tos H [] []
  | cons {T b : Addr} {xs : List V} {o : List Nat} {s : Int} {os : List (List Nat × Int)} (hT : H T = some (.tup [.ref b, .int s])) (h : H b = some (.tup (nV o))) (t : Tos H xs os) : Tos H (.ref T :: xs) ((o, s) :: os)
theorem Tos.tk {H H' : Hp} {xs : List V} {os : List (List Nat × Int)} (t : Tos H xs os) (e : Tk H H') : Tos H' xs os := by
  induction t with
  | nil => exact .nil
  | cons h1 h2 _ ih => exact .cons (e _ _ (fun _ z => by cases z) h1) (e _ _ (fun _ z => by cases z) h2) ih
theorem Tos.same {H H' : Hp} {xs : List V} {os : List (List Nat × Int)} (t : Tos H xs os) (e : Same H H') : Tos H' xs os := t.tk fun b o _ h => e b o h
theorem Tos.len {H : Hp} {xs : List V} {os : List (List Nat × Int)} (t : Tos H xs os) : xs.length = os.length := by
  induction t with
  | nil => rfl
  | cons _ _ _ ih => simp [ih]
theorem Tos.get {H : Hp} {xs : List V} {os : List (List Nat × Int)} (t : Tos H xs os) : ∀ {i : Nat} {x : V}, xs[i]? = some x → ∃ T b o s, x = .ref T ∧ os[i]? = some (o, s) ∧ H T = some (.tup [.ref b, .int s]) ∧ H b = some (.tup (nV o)) := by
  induction t with
  | nil => intro i x h; simp at h
  | @cons T b xs o s os h1 h2 _ ih =>
    intro i x hx
    cases i with
    | zero =>
      simp at hx
      subst hx
      exact ⟨T, b, o, s, rfl, rfl, h1, h2⟩
    | succ i => exact ih (by simpa using hx)
theorem Tos.snoc {H : Hp} {xs : List V} {os : List (List Nat × Int)} {T b : Addr} {o : List Nat} {s : Int} (t : Tos H xs os) (hT : H T = some (.tup [.ref b, .int s])) (h : H b = some (.tup (nV o))) : Tos H (xs ++ [.ref T]) (os ++ [(o, s)]) := by
  induction t with
  | nil => exact .cons hT h .nil
  | cons h1 h2 _ ih => exact .cons h1 h2 ih
def sgO (k a : Nat) : Int := if (k - a) % 2 = 0 then 1 else -1
def ordExt (k : Nat) (os : List Nat × Int) (m : Nat) : List (List Nat × Int) := (List.range m).map fun a => (os.1.take a ++ [k] ++ os.1.drop a, os.2 * sgO k a)
def ordersM : Nat → List (List Nat × Int)
  | 0 => [([], 1)]
  | k + 1 => (ordersM k).flatMap fun os => ordExt k os (k + 1)
theorem orders_facts : ∀ n < 6, (ordersM n).length ≤ 120 ∧ ∀ os ∈ ordersM n, os.1.length = n ∧ ∀ x ∈ os.1, x < n := by decide +kernel
theorem ordExt_succ {k m : Nat} {os : List Nat × Int} : ordExt k os (m + 1) = ordExt k os m ++ [(os.1.take m ++ [k] ++ os.1.drop m, os.2 * sgO k m)] := by
  unfold ordExt
  rw [List.range_succ, List.map_append]
  rfl
theorem ord_take {os : List (List Nat × Int)} {k i : Nat} {o : List Nat × Int} (h : os[i]? = some o) : (os.take (i + 1)).flatMap (fun z => ordExt k z (k + 1)) = (os.take i).flatMap (fun z => ordExt k z (k + 1)) ++ ordExt k o (k + 1) := by
  rw [List.take_succ, h, List.flatMap_append]
  simp
theorem ord_len {k m : Nat} {os : List Nat × Int} : (ordExt k os m).length = m := by simp [ordExt]
theorem ordF_len {k : Nat} : ∀ os : List (List Nat × Int), (os.flatMap fun z => ordExt k z (k + 1)).length = os.length * (k + 1)
  | [] => by simp
  | o :: os => by
    rw [List.flatMap_cons, List.length_append, ord_len, ordF_len os, List.length_cons, Nat.add_mul]
    omega
/-! ### corners by orders -/
def prodM (rs : List (List Int)) (o : List Nat) (s : Int) : Nat → Int
  | 0 => s
  | i + 1 => prodM rs o s i * (rs.getD i []).getD (o.getD i 0) 0
def legM (rs : List (List Int)) (os : List (List Nat × Int)) : Int := (os.map fun z => prodM rs z.1 z.2 rs.length).sum
theorem leg_take {rs : List (List Int)} {os : List (List Nat × Int)} {i : Nat} {z : List Nat × Int} (h : os[i]? = some z) : legM rs (os.take (i + 1)) = legM rs (os.take i) + prodM rs z.1 z.2 rs.length := by
  unfold legM
  rw [List.take_succ, h, List.map_append, List.sum_append]
  simp
theorem row_cases1 {r : List Int} (h : r.length = 1) : ∃ a, r = [a] := by
  match r, h with
  | [a], _ => exact ⟨a, rfl⟩
theorem row_cases2 {r : List Int} (h : r.length = 2) : ∃ a b, r = [a, b] := by
  match r, h with
  | [a, b], _ => exact ⟨a, b, rfl⟩
theorem row_cases3 {r : List Int} (h : r.length = 3) : ∃ a b c, r = [a, b, c] := by
  match r, h with
  | [a, b, c], _ => exact ⟨a, b, c, rfl⟩
theorem row_cases4 {r : List Int} (h : r.length = 4) : ∃ a b c d, r = [a, b, c, d] := by
  match r, h with
  | [a, b, c, d], _ => exact ⟨a, b, c, d, rfl⟩
theorem leib1 (a : Int) : detM [[a]] (List.range 1) = legM [[a]] (ordersM 1) := by
  have e1 : List.range 1 = [0] := rfl
  have e2 : ordersM 1 = [([0], 1)] := by decide +kernel
  rw [e1, e2]
  simp [detM, rowM, sumR, er, sgnT, legM, prodM, List.range_succ]
theorem leib2 (a b c d : Int) : detM [[a, b], [c, d]] (List.range 2) = legM [[a, b], [c, d]] (ordersM 2) := by
  have e1 : List.range 2 = [0, 1] := rfl
  have e2 : ordersM 2 = [([1, 0], -1), ([0, 1], 1)] := by decide +kernel
  rw [e1, e2]
  simp [detM, rowM, sumR, er, sgnT, legM, prodM, List.range_succ]
  grind
theorem leib3 (a b c d e f g h i : Int) : detM [[a, b, c], [d, e, f], [g, h, i]] (List.range 3) = legM [[a, b, c], [d, e, f], [g, h, i]] (ordersM 3) := by
  have e1 : List.range 3 = [0, 1, 2] := rfl
  rw [e1]
  simp [detM, rowM, sumR, er, sgnT, legM, prodM, List.range_succ, ordersM, ordExt, sgO]
  grind
end Gd
namespace Gd
open PySem PySem.Spec PyProof.Rows L2
theorem leib4 (a b c d e f g h i j k l m n o p : Int) : detM [[a, b, c, d], [e, f, g, h], [i, j, k, l], [m, n, o, p]] (List.range 4) = legM [[a, b, c, d], [e, f, g, h], [i, j, k, l], [m, n, o, p]] (ordersM 4) := by
  have e1 : List.range 4 = [0, 1, 2, 3] := rfl
  rw [e1]
  simp [detM, rowM, sumR, er, sgnT, legM, prodM, List.range_succ, ordersM, ordExt, sgO]
  grind
theorem leib {rs : List (List Int)} {n : Nat} (hn : n ≤ 4) (hl : rs.length = n) (hw : ∀ r ∈ rs, r.length = n) : detM rs (List.range n) = legM rs (ordersM n) := by
  match n, rs, hn, hl, hw with
  | 0, [], _, _, _ => rfl
  | 1, [r], _, _, hw =>
    obtain ⟨a, rfl⟩ := row_cases1 (hw r (by simp))
    exact leib1 a
  | 2, [r, s], _, _, hw =>
    obtain ⟨a, b, rfl⟩ := row_cases2 (hw r (by simp))
    obtain ⟨c, d, rfl⟩ := row_cases2 (hw s (by simp))
    exact leib2 a b c d
  | 3, [r, s, t], _, _, hw =>
    obtain ⟨a, b, c, rfl⟩ := row_cases3 (hw r (by simp))
    obtain ⟨d, e, f, rfl⟩ := row_cases3 (hw s (by simp))
    obtain ⟨g, h, i, rfl⟩ := row_cases3 (hw t (by simp))
    exact leib3 ..
  | 4, [r, s, t, u], _, _, hw =>
    obtain ⟨a, b, c, d, rfl⟩ := row_cases4 (hw r (by simp))
    obtain ⟨e, f, g, h, rfl⟩ := row_cases4 (hw s (by simp))
    obtain ⟨i, j, k, l, rfl⟩ := row_cases4 (hw t (by simp))
    obtain ⟨m, n, o, p, rfl⟩ := row_cases4 (hw u (by simp))
    exact leib4 ..
end Gd
namespace Gd
open PySem PySem.Spec PyProof.Rows L2
/-! ### slices of data -/
section
variable {K : PySem.W.Frag} {H : Hp} {ds : List PyData} {Q : VK} {x : V}
theorem slp {lo hi : Option Int} {i j : Nat} (hx : Dp K H x (.tuple ds)) (hi1 : HT.sIx ds.length 0 lo = i) (hj1 : HT.sIx ds.length ds.length hi = j)
    (k : ∀ v H', Same H H' → Dp K H' v (.tuple ((ds.drop i).take (j - i))) → Q v H') : rSlA K x lo hi H Q := by
  obtain ⟨b, xs, rfl, hs, ha⟩ := dp_tup hx
  have l1 := dpa_len _ _ ha
  refine ⟨b, xs, rfl, hs, ?_, ?_⟩
  · rintro ⟨h1, h2⟩
    rw [l1] at h1 h2
    have e0 : i = 0 := by omega
    have e1 : j = ds.length := by omega
    have := k (.ref b) H (Same.refl H)
    rw [e0, e1, List.drop_zero, Nat.sub_zero, List.take_length] at this
    exact this hx
  · intro _ p np
    have e : cutV xs lo hi = (xs.drop i).take (j - i) := by
      unfold cutV
      rw [l1, hi1, hj1]
    rw [e]
    obtain ⟨H', e', e1, h1⟩ := tup_new np (dpa_take (j - i) _ _ (dpa_drop i _ _ ha))
    rw [e']
    exact k _ _ e1 h1
theorem slp_to {i : Nat} {z : Int} (hz : z = (i : Int)) (hx : Dp K H x (.tuple ds)) (k : ∀ v H', Same H H' → Dp K H' v (.tuple (ds.take i)) → Q v H') : rSlA K x none (some z) H Q := by
  subst hz
  refine slp hx (i := 0) (j := min i ds.length) rfl (HT.sIx_nat _ _ _) fun v H' e h => k v H' e ?_
  have : (ds.drop 0).take (min i ds.length - 0) = ds.take i := by
    rw [List.drop_zero, Nat.sub_zero]
    by_cases hi : i ≤ ds.length
    · rw [Nat.min_eq_left hi]
    · rw [Nat.min_eq_right (by omega), List.take_length, List.take_of_length_le (by omega)]
  rw [this] at h
  exact h
theorem slp_from {i : Nat} {z : Int} (hz : z = (i : Int)) (hx : Dp K H x (.tuple ds)) (k : ∀ v H', Same H H' → Dp K H' v (.tuple (ds.drop i)) → Q v H') : rSlA K x (some z) none H Q := by
  subst hz
  refine slp hx (i := min i ds.length) (j := ds.length) (HT.sIx_nat _ _ _) rfl fun v H' e h => k v H' e ?_
  have : (ds.drop (min i ds.length)).take (ds.length - min i ds.length) = ds.drop i := by
    rw [List.take_of_length_le (by rw [List.length_drop]; omega)]
    by_cases hi : i ≤ ds.length
    · rw [Nat.min_eq_left hi]
    · rw [Nat.min_eq_right (by omega), List.drop_length, List.drop_of_length_le (by omega)]
  rw [this] at h
  exact h
end
end Gd
namespace Gd
open PySem PySem.Spec PyProof.Rows L2
/-! ### corners of chosen columns -/
def cutM (rs : List (List Int)) (c : List Nat) : List (List Int) := rs.map fun r => c.map fun n => r.getD n 0
theorem leibC1 (r0 : List Int) (c0 : Nat) : detM [r0] [c0] = legM (cutM [r0] [c0]) (ordersM 1) := by
  simp [detM, rowM, sumR, er, sgnT, legM, prodM, List.range_succ, ordersM, ordExt, sgO, cutM]
theorem leibC2 (r0 r1 : List Int) (c0 c1 : Nat) : detM [r0, r1] [c0, c1] = legM (cutM [r0, r1] [c0, c1]) (ordersM 2) := by
  simp [detM, rowM, sumR, er, sgnT, legM, prodM, List.range_succ, ordersM, ordExt, sgO, cutM]
  generalize r0[c0]?.getD 0 = r0c0
  generalize r0[c1]?.getD 0 = r0c1
  generalize r1[c0]?.getD 0 = r1c0
  generalize r1[c1]?.getD 0 = r1c1
  grind
theorem leibC3 (r0 r1 r2 : List Int) (c0 c1 c2 : Nat) : detM [r0, r1, r2] [c0, c1, c2] = legM (cutM [r0, r1, r2] [c0, c1, c2]) (ordersM 3) := by
  simp [detM, rowM, sumR, er, sgnT, legM, prodM, List.range_succ, ordersM, ordExt, sgO, cutM]
  generalize r0[c0]?.getD 0 = r0c0
  generalize r0[c1]?.getD 0 = r0c1
  generalize r0[c2]?.getD 0 = r0c2
  generalize r1[c0]?.getD 0 = r1c0
  generalize r1[c1]?.getD 0 = r1c1
  generalize r1[c2]?.getD 0 = r1c2
  generalize r2[c0]?.getD 0 = r2c0
  generalize r2[c1]?.getD 0 = r2c1
  generalize r2[c2]?.getD 0 = r2c2
  grind
theorem leibC4 (r0 r1 r2 r3 : List Int) (c0 c1 c2 c3 : Nat) : detM [r0, r1, r2, r3] [c0, c1, c2, c3] = legM (cutM [r0, r1, r2, r3] [c0, c1, c2, c3]) (ordersM 4) := by
  simp [detM, rowM, sumR, er, sgnT, legM, prodM, List.range_succ, ordersM, ordExt, sgO, cutM]
  generalize r0[c0]?.getD 0 = r0c0
  generalize r0[c1]?.getD 0 = r0c1
  generalize r0[c2]?.getD 0 = r0c2
  generalize r0[c3]?.getD 0 = r0c3
  generalize r1[c0]?.getD 0 = r1c0
  generalize r1[c1]?.getD 0 = r1c1
  generalize r1[c2]?.getD 0 = r1c2
  generalize r1[c3]?.getD 0 = r1c3
  generalize r2[c0]?.getD 0 = r2c0
  generalize r2[c1]?.getD 0 = r2c1
  generalize r2[c2]?.getD 0 = r2c2
  generalize r2[c3]?.getD 0 = r2c3
  generalize r3[c0]?.getD 0 = r3c0
  generalize r3[c1]?.getD 0 = r3c1
  generalize r3[c2]?.getD 0 = r3c2
  generalize r3[c3]?.getD 0 = r3c3
  grind
theorem leibC {rs : List (List Int)} {c : List Nat} {n : Nat} (hn : n ≤ 4) (hl : rs.length = n) (hc : c.length = n) : detM rs c = legM (cutM rs c) (ordersM n) := by
  match n, rs, c, hn, hl, hc with
  | 0, [], [], _, _, _ => rfl
  | 1, [_], [_], _, _, _ => exact leibC1 ..
  | 2, [_, _], [_, _], _, _, _ => exact leibC2 ..
  | 3, [_, _, _], [_, _, _], _, _, _ => exact leibC3 ..
  | 4, [_, _, _, _], [_, _, _, _], _, _, _ => exact leibC4 ..
end Gd
namespace Gd
open PySem PySem.Spec PyProof.Rows L2
/-! ### a list's lists of numbers -/
def Lls (H : Hp) (xs : List V) (rs : List (List Int)) : Prop := xs.length = rs.length ∧ ∀ i x, xs[i]? = some x → ∃ b, x = .ref b ∧ H b = some (.lst ((rs.getD i []).map V.int))
theorem Lls.same {H H' : Hp} {xs : List V} {rs : List (List Int)} (h : Lls H xs rs) (e : Same H H') : Lls H' xs rs :=
  ⟨h.1, fun i x hx => let ⟨b, h1, h2⟩ := h.2 i x hx; ⟨b, h1, e _ _ h2⟩⟩
theorem Lls.at {H : Hp} {xs : List V} {rs : List (List Int)} (h : Lls H xs rs) {i : Nat} (hi : i < rs.length) : ∃ b, xs[i]? = some (.ref b) ∧ H b = some (.lst ((rs.getD i []).map V.int)) := by
  have hl : i < xs.length := by rw [h.1]; exact hi
  obtain ⟨b, h1, h2⟩ := h.2 i _ (List.getElem?_eq_getElem hl)
  exact ⟨b, by rw [List.getElem?_eq_getElem hl, h1], h2⟩
end Gd
namespace Gd
open PySem PySem.Spec PyProof.Rows L2
/-! ### tuples of numbers, sorted -/
theorem call_sortTK {X : Cx} {K : PySem.W.Frag} (hK : X.K = K) {d : Nat} {B : Int} (hd : 1 ≤ d) : CallR X (.builtin "sorted") (rSortU K d B) := by
  subst hK
  exact cr_sortT hd
def toI (c : List Nat) : List Int := c.map fun (n : Nat) => (n : Int)
theorem toI_nV (c : List Nat) : (toI c).map V.int = nV c := by
  unfold toI nV
  rw [List.map_map]
  rfl
theorem Tts.perm0 {H : Hp} {xs ys : List V} (p : xs.Perm ys) : ∀ {cs : List (List Nat)}, Tts H xs cs → ∃ ds, Tts H ys ds ∧ cs.Perm ds := by
  induction p with
  | nil =>
    intro cs t
    cases t
    exact ⟨[], .nil, .nil⟩
  | cons x _ ih =>
    intro cs t
    cases t with
    | cons h t =>
      obtain ⟨ds, t', p'⟩ := ih t
      exact ⟨_ :: ds, .cons h t', p'.cons _⟩
  | swap x y l =>
    intro cs t
    cases t with
    | cons h1 t =>
      cases t with
      | cons h2 t => exact ⟨_, .cons h2 (.cons h1 t), .swap ..⟩
  | trans _ _ ih1 ih2 =>
    intro cs t
    obtain ⟨ds, t1, p1⟩ := ih1 t
    obtain ⟨es, t2, p2⟩ := ih2 t1
    exact ⟨es, t2, p1.trans p2⟩
theorem Tts.mem {H : Hp} {xs : List V} {cs : List (List Nat)} (t : Tts H xs cs) : ∀ x ∈ xs, ∃ b, ∃ c ∈ cs, x = .ref b ∧ H b = some (.tup (nV c)) := by
  induction t with
  | nil => intro x h; cases h
  | @cons b xs c cs h _ ih =>
    intro x hx
    rcases List.mem_cons.mp hx with rfl | hx
    · exact ⟨b, c, List.mem_cons_self .., rfl, h⟩
    · obtain ⟨b', c', h1, h2⟩ := ih x hx
      exact ⟨b', c', List.mem_cons_of_mem _ h1, h2⟩
theorem Tts.mem' {H : Hp} {xs : List V} {cs : List (List Nat)} (t : Tts H xs cs) : ∀ c ∈ cs, ∃ b, .ref b ∈ xs ∧ H b = some (.tup (nV c)) := by
  induction t with
  | nil => intro x h; cases h
  | @cons b xs c cs h _ ih =>
    intro x hx
    rcases List.mem_cons.mp hx with rfl | hx
    · exact ⟨b, List.mem_cons_self .., h⟩
    · obtain ⟨b', h1, h2⟩ := ih x hx
      exact ⟨b', List.mem_cons_of_mem _ h1, h2⟩
theorem Tts.pair {K : PySem.W.Frag} {H : Hp} {xs : List V} {cs : List (List Nat)} {f : List Int → Int} (t : Tts H xs cs)
    (h : xs.Pairwise fun x y => ∀ n m, TupI K H x n → TupI K H y m → f n ≤ f m) : cs.Pairwise fun c d => f (toI c) ≤ f (toI d) := by
  induction t with
  | nil => exact .nil
  | @cons b xs c cs hb t ih =>
    cases h with
    | cons h1 h2 =>
      refine .cons (fun d hd => ?_) (ih h2)
      obtain ⟨b', hm, hb'⟩ := t.mem' d hd
      exact h1 _ hm (toI c) (toI d) ⟨b, rfl, by rw [toI_nV]; exact SqT.of hb⟩ ⟨b', rfl, by rw [toI_nV]; exact SqT.of hb'⟩
theorem sort_one {α : Type} {f : α → Int} {ds cs : List α} (hp : ds.Perm cs) (hd : ds.Pairwise fun c d => f c ≤ f d) (hc : cs.Pairwise fun c d => f c < f d) : ds = cs := by
  refine List.Perm.eq_of_pairwise (le := fun c d => f c ≤ f d) ?_ hd (hc.imp fun h => Int.le_of_lt h) hp
  intro a b ha hb h1 h2
  have ha := hp.mem_iff.mp ha
  have e : f a = f b := by omega
  clear h1 h2 hp hd
  induction cs with
  | nil => cases ha
  | cons x cs ih =>
    cases hc with
    | cons g1 g2 =>
      rcases List.mem_cons.mp ha with rfl | ha' <;> rcases List.mem_cons.mp hb with rfl | hb'
      · rfl
      · have := g1 _ hb'; omega
      · have := g1 _ ha'; omega
      · exact ih g2 hb' ha'
/-! ### all sets of numbers -/
def setM (n c : Nat) : List Nat := (List.range n).filter fun j => decide (c / 2 ^ j % 2 = 1)
def rawM (n k : Nat) (m : Nat) : List (List Nat) := ((List.range m).map (setM n)).filter fun s => decide (s.length = k)
theorem raw_perm : ∀ n < 5, ∀ k < 9, (rawM n k (2 ^ n)).Perm (choicesM n k) := by decide +kernel
theorem choice_sorted : ∀ n < 5, ∀ k < 9, (choicesM n k).Pairwise (fun c d => TS.code 64 (toI c) < TS.code 64 (toI d)) := by decide +kernel
theorem choice_len64 : ∀ n < 5, ∀ k < 9, (choicesM n k).length < 64 := by decide +kernel
theorem raw_succ (n k m : Nat) : rawM n k (m + 1) = rawM n k m ++ (if (setM n m).length = k then [setM n m] else []) := by
  unfold rawM
  rw [List.range_succ, List.map_append, List.filter_append]
  by_cases h : (setM n m).length = k
  · simp [h]
  · simp [h]
theorem raw_len (n k m : Nat) : (rawM n k m).length ≤ m := by
  have := List.length_filter_le (fun s => decide (s.length = k)) ((List.range m).map (setM n))
  rw [List.length_map, List.length_range] at this
  exact this
theorem set_mem {n c j : Nat} (h : j ∈ setM n c) : j < n := List.mem_range.mp (List.mem_filter.mp h).1
theorem raw_mem {n k m : Nat} {s : List Nat} (h : s ∈ rawM n k m) : s.length = k ∧ ∀ j ∈ s, j < n := by
  obtain ⟨h1, h2⟩ := List.mem_filter.mp h
  obtain ⟨c, _, rfl⟩ := List.mem_map.mp h1
  exact ⟨of_decide_eq_true h2, fun j hj => set_mem hj⟩
/-! ### a comprehension over a tuple, the body as it comes -/
theorem lcGt {K : PySem.W.Frag} {a : Addr} {xs : List V} {Bd : V → Hp → (Hp → Prop) → Prop} {H1 : Hp} {Qd : Hp → Prop} (Pv : Nat → Hp → Prop) (h0 : Pv 0 H1) (hl : ∀ i H, i ≤ xs.length → Pv i H → SqT K H a xs)
    (hs : ∀ i x H, xs[i]? = some x → Pv i H → Bd x H (Pv (i + 1))) (hd : ∀ H, Pv xs.length H → Qd H) :
    ∃ W : Nat → Nat → Hp → Prop, (∃ m, W 0 m H1) ∧ ∀ i m H, W i m H →
      ((Itt K a).stop i H ∧ Qd H) ∨ ((Itt K a).go i H ∧ ∃ Nx : Hp → Prop, (∀ H', Nx H' → ∃ m', m' < m ∧ W (i + 1) m' H') ∧ ∀ x H', (Itt K a).yld i H x H' → Bd x H' Nx) := by
  refine ⟨fun i m H => m = xs.length - i ∧ i ≤ xs.length ∧ Pv i H, ⟨xs.length, by simp, Nat.zero_le _, h0⟩, ?_⟩
  rintro i m H ⟨rfl, hi, p⟩
  have q := hl i H hi p
  by_cases hlt : i < xs.length
  · refine .inr ⟨⟨xs, _, q, List.getElem?_eq_getElem hlt⟩, Pv (i + 1), fun H' p' => ⟨xs.length - (i + 1), by omega, rfl, hlt, p'⟩, fun x H' y => ?_⟩
    obtain ⟨e, y⟩ := y
    subst e
    exact hs i x _ (y xs q) p
  · have e : i = xs.length := by omega
    subst e
    exact .inl ⟨⟨xs, q, Nat.le_refl _⟩, hd H p⟩
/-! ### a list's lists, put together one by one -/
theorem Lls.snoc {H : Hp} {xs : List V} {rs : List (List Int)} {b : Addr} {r : List Int} (h : Lls H xs rs) (hb : H b = some (.lst (r.map V.int))) : Lls H (xs ++ [.ref b]) (rs ++ [r]) := by
  refine ⟨by rw [List.length_append, List.length_append, h.1]; rfl, fun i x hx => ?_⟩
  rw [List.getElem?_append] at hx
  split at hx
  · next hi =>
    obtain ⟨c, h1, h2⟩ := h.2 i x hx
    refine ⟨c, h1, ?_⟩
    rw [List.getD_eq_getElem?_getD, List.getElem?_append_left (by rw [← h.1]; exact hi), ← List.getD_eq_getElem?_getD]
    exact h2
  · next hi =>
    have e : i = xs.length := by
      have := (List.getElem?_eq_some_iff.mp hx).1
      simp only [List.length_singleton] at this
      omega
    subst e
    simp at hx
    refine ⟨b, hx.symm, ?_⟩
    rw [List.getD_eq_getElem?_getD, h.1, List.getElem?_append_right (Nat.le_refl _), Nat.sub_self]
    exact hb
theorem Lls.put {H : Hp} {xs : List V} {rs : List (List Int)} {D : Addr} {o : HO} (h : Lls H xs rs) (n : ∀ x ∈ xs, x ≠ .ref D) : Lls (upd H D o) xs rs :=
  ⟨h.1, fun i x hx => by
    obtain ⟨b, rfl, hb⟩ := h.2 i x hx
    refine ⟨b, rfl, ?_⟩
    rw [upd_ne fun z => n _ (List.mem_of_getElem? hx) (by rw [z])]
    exact hb⟩
end Gd
namespace Gd
open PySem PySem.Spec PyProof.Rows L2
open Sem (wp)
open Builtin Builtin.Str Builtin.Int
/-! ### the text of a great number -/
def digKey : PySem.Str := "sys.int_max_str_digits"
def NoDig (h : Heap) : Prop := ∃ mc, h.Ns cStatics mc ∧ mc digKey = none
theorem NoDig.keeps {h h' : Heap} (x : NoDig h) (k : ∀ b o, h.get? b = some o → h'.get? b = some o) : NoDig h' :=
  let ⟨mc, a, b⟩ := x
  ⟨mc, a.keeps k, b⟩
section
variable {prog : Program} {w : World} {A : Around} {E : Value → Shared → Prop} {s : Shared}
theorem wpAny_digits {Q : Nat → Shared → Prop} (hn : NoDig s.heap) (h : Q 4300 s) : wpAny (model prog w) A intMaxStrDigits Q E s := fun Γ p hΓ => by
  obtain ⟨mc, hns, hnone⟩ := hn
  simp only [intMaxStrDigits, Sem.wp_bind']
  show wp _ Γ (nsGet cStatics digKey) _ _ p s
  rw [Sem.wp_nsGet _ Γ _ p s hns, hnone]
  exact h
theorem wpAny_over {a : Int} {Q : Option Nat → Shared → Prop} (hn : NoDig s.heap) (ha : a.natAbs.log2 < 12900) (h : Q none s) : wpAny (model prog w) A (overDigitLimit? a) Q E s := by
  unfold overDigitLimit?
  by_cases h1 : a.natAbs.log2 < 1920
  · rw [if_pos h1]
    exact wpAny_pure h
  · rw [if_neg h1]
    refine wpAny_bind (wpAny_digits hn ?_)
    have h2 : ¬ (a.natAbs.log2 / 30 + 1 > 1000) := by omega
    have h3 : ((4300 : Nat) == 0 || decide (a.natAbs.log2 < 3 * 4300)) = true := by
      rw [decide_eq_true (by omega)]
      rfl
    dsimp only
    rw [if_neg h2, if_pos h3]
    exact wpAny_pure h
theorem givesAt_int_repr (a : Int) (t : Tok) (ha : a.natAbs.log2 < 12900) : GivesAt (fun s => NoDig s.heap) («int.__repr__» ⟨[.int a t], []⟩) (.str (toString a)) := by
  intro prog w A R s hn h
  unfold «int.__repr__»
  show wpAny _ _ (do let r ← overDigitLimit? a; _) _ _ s
  refine wpAny_bind (wpAny_over hn ha ?_)
  exact (Gives.of_eq rfl : Gives (retStr (toString a)) (.str (toString a))) prog w A R s h
theorem pyReprObj_intW {a : Int} {t : Tok} {Q : Value → Shared → Prop} (hn : NoDig s.heap) (ha : a.natAbs.log2 < 12900) (hx : (Str.ofString (toString a)).length ≤ sizeLine) (h : Q (.str (toString a) s.toks) { s with toks := s.toks + 1 }) : wpAny (model prog w) A (pyReprObj (.int a t)) Q E s := by
  unfold pyReprObj
  simp only [cRoomFor, show [Value.int a t].any Value.onHeap = false from rfl, Bool.false_eq_true, if_false, pure_bind]
  refine wpAny_bind (wpAny_specialOf (name := Str.ofString "__repr__") (typeIs_int s a t) F.slot_int_repr.lookup ?_)
  refine wpAny_bind (m := callSpecialIfBound? (.int a t) (Str.ofString "__repr__")) (wpAny_callSpecialIfBound?_slot (name := Str.ofString "__repr__") (typeIs_int s a t) F.slot_int_repr (call_givesAt F.slot_int_repr (typeIs_int s a t) F.entry_int_repr (F.args_int_repr_1 _) (givesAt_int_repr a t ha) hn ⟨hx, ?_⟩))
  exact wpAny_bind (wpAny_isInstance (T := "str") (b := true) rfl isSubtype_str_str (wpAny_pure h))
end
end Gd
namespace Gd
open PySem PySem.Spec PyProof.Rows L2
mutual
/-- data that can be shown, great numbers among them -/
def shW : PyData → Bool
  | .none => true
  | .bool _ => true
  | .str _ => true
  | .int z => decide (z.natAbs.log2 < 12900)
  | .list ds => shWs ds
  | .tuple ds => shWs ds
  | .dict _ => false
def shWs : List PyData → Bool
  | [] => true
  | e :: ds => shW e && shWs ds
end
section
variable {pr : Program} {wd : World} {hp : Heap}
theorem repK_int {z : Int} {k : Tok} (nd : NoDig hp) (hz : z.natAbs.log2 < 12900) (hl : (Str.ofString (toString z)).length ≤ sizeLine) (as : List Addr) (n : Nat) : ReprK pr wd as hp n (.int z k) (toString z) := by
  intro b0 hb A g E s Q _ _ _ kp hQ
  have hb' : b0 ≤ sizeLine := by omega
  rw [pyReprUnder_leaf (v := .int z k) hb' (fun _ e => nomatch e)]
  unfold pyRepr
  exact wpAny_bind (pyReprObj_intW (nd.keeps kp) hz hl (wpAny_pure (hQ s.heap _ fun _ _ e => e)))
mutual
theorem repW (nd : NoDig hp) : ∀ {v : Value} {d : PyData} {as : List Addr}, Reads hp v d as → shW d = true → d.shown.length ≤ sizeLine →
    ∃ bs, ReadAtMost hp d.depth bs ∧ ReprK pr wd bs hp d.depth v d.shown
  | _, _, _, .none, _, _ => by
    refine ⟨[], fun _ h => (nomatch h), ?_⟩
    simp only [PyData.shown]
    exact .of_is ReprIs.none _ _ _
  | _, _, _, .bool b, _, _ => by
    refine ⟨[], fun _ h => (nomatch h), ?_⟩
    simp only [PyData.shown]
    exact .of_is (ReprIs.bool b) _ _ _
  | _, _, _, .int z t, hs, hl => by
    refine ⟨[], fun _ h => (nomatch h), ?_⟩
    simp only [PyData.shown] at hl ⊢
    simp only [shW, decide_eq_true_eq] at hs
    exact repK_int nd hs hl _ _
  | _, _, _, .str x t, _, hl => by
    refine ⟨[], fun _ h => (nomatch h), ?_⟩
    simp only [PyData.shown] at hl ⊢
    exact .of_is (ReprIs.str x t hl) _ _ _
  | _, _, _, .list (a := p) (vs := us) (xs := ds) h1 h2 h3 h4, hs, hl => by
    have hl1 : (listText (PyData.shownAll ds)).length ≤ sizeLine := by
      simpa only [PyData.shown] using hl
    obtain ⟨bs, hb, hk⟩ := repWs nd h4 (by simpa [shW] using hs) fun t ht => Nat.le_trans (listText_mem_le ht) hl1
    have rd : Reads hp (.ref p) (.list ds) _ := .list h1 h2 h3 h4
    have np : p ∉ bs := not_mem_of_deeper rd (by simp only [PyData.depth]; omega) hb
    refine ⟨p :: bs, ReadAtMost.cons rd (by simp only [PyData.depth]; omega) hb, ?_⟩
    simp only [PyData.depth, PyData.shown]
    obtain ⟨us⟩ := us
    cases us with
    | nil =>
      have h4e : ReadsAll hp [] ds _ := h4
      cases h4e
      simp only [PyData.shownAll, listText_nil]
      exact ReprK.listEmpty h1 h2 h3
    | cons u us =>
      refine ReprK.list h1 h2 h3 np ?_ fun i y e => ?_
      · simpa using hk.length_eq
      · exact hk.item i y (by simpa using e)
  | _, _, _, .tuple (a := p) (xs := ds) h1 h2 h3 h4, hs, hl => by
    have hl1 : (tupleText (PyData.shownAll ds)).length ≤ sizeLine := by
      simpa only [PyData.shown] using hl
    obtain ⟨bs, hb, hk⟩ := repWs nd h4 (by simpa [shW] using hs) fun t ht => Nat.le_trans (tupleText_mem_le ht) hl1
    have rd : Reads hp (.ref p) (.tuple ds) _ := .tuple h1 h2 h3 h4
    have np : p ∉ bs := not_mem_of_deeper rd (by simp only [PyData.depth]; omega) hb
    refine ⟨p :: bs, ReadAtMost.cons rd (by simp only [PyData.depth]; omega) hb, ?_⟩
    simp only [PyData.depth, PyData.shown]
    exact ReprK.tuple h1 h2 h3 np hk
  | _, _, _, .dict h1 h2 h3 h4 h5, hs, _ => by
    simp [shW] at hs
theorem repWs (nd : NoDig hp) : ∀ {us : List Value} {ds : List PyData} {as : List Addr}, ReadsAll hp us ds as → shWs ds = true → (∀ t ∈ PyData.shownAll ds, t.length ≤ sizeLine) →
    ∃ bs, ReadAtMost hp (PyData.depthAll ds) bs ∧ ReprAllK pr wd bs hp (PyData.depthAll ds) us (PyData.shownAll ds)
  | _, _, _, .nil, _, _ => by
    refine ⟨[], fun _ h => (nomatch h), ?_⟩
    simp only [PyData.shownAll]
    exact .nil
  | _, _, _, .cons (d := e) (ds := ds) r rs, hs, hl => by
    have hs2 : shW e = true ∧ shWs ds = true := by simpa [shWs] using hs
    obtain ⟨b1, hb1, k1⟩ := repW nd r hs2.1 (hl _ (by simp [PyData.shownAll]))
    obtain ⟨b2, hb2, k2⟩ := repWs nd rs hs2.2 fun t ht => hl t (by simp [PyData.shownAll, ht])
    refine ⟨b1 ++ b2, ?_, ?_⟩
    · simp only [PyData.depthAll]
      exact (hb1.mono (Nat.le_max_left _ _)).append (hb2.mono (Nat.le_max_right _ _))
    · simp only [PyData.depthAll, PyData.shownAll]
      refine .cons ((k1.more fun b hb => ?_).level_le (Nat.le_max_left _ _)) (k2.more_le (fun b hb => ?_) (Nat.le_max_right _ _))
      · exact List.mem_append_left _ hb
      · exact List.mem_append_right _ hb
end
end
/-! ### repr of data of any kind, great numbers among them -/
section
variable {X : Cx} {K : PySem.W.Frag}
def NoDigK (K : PySem.W.Frag) : Prop := PySem.W.nsIn K cStatics digKey = some none
theorem NoDigK.at {h : Heap} (nk : NoDigK K) (kin : K.In h) (nl : h.NoLimit) : NoDig h := by
  obtain ⟨mc, hns, _⟩ := nl
  refine ⟨mc, hns, ?_⟩
  obtain ⟨o, es, ep, ho, hd, _, hf⟩ := hns
  unfold NoDigK PySem.W.nsIn at nk
  split at nk
  · rename_i c d es' n' sl q
    have z := kin _ _ q
    rw [ho] at z
    cases z
    cases hd
    split at nk
    · cases nk
    · next hnone =>
      have z := hf digKey
      unfold nsFind findBy at z
      rw [← Array.find?_toList, hnone] at z
      exact z.symm
  · cases nk
/-! ### the head's facts, with that of the digits -/
def asM (g : Addr → Option Obj) (n : Nat) : List Addr := He.asD g n ++ [cStatics]
abbrev AlM : Type := Bool × He.AlD
def obsM (n : Nat) (fa : List He.Fa) (fn : List He.DefD) (g : Addr → Option Obj) : AlM :=
  (He.eqO (PySem.W.nsIn (He.frG g (asM g n)) cStatics digKey) (some none), He.obsD fa fn (He.frG g (asM g n)))
def hookM (n : Nat) (fa : List He.Fa) (fn : List He.DefD) : PySem.W.Hook where
  α := AlM
  obs := fun s => obsM n fa fn s.heap.get?
  val := fun _ => (true, He.valD fn)
  says := fun _ h => ∃ F : PySem.W.Frag, F.In h ∧ He.SaysD fa fn F ∧ NoDigK F
  of := fun _ s e => ⟨He.frG s.heap.get? (asM s.heap.get? n), He.frG_in, congrArg (fun z : AlM => z.2) e, He.eqO_ok (congrArg (fun z : AlM => z.1) e)⟩
  keeps := fun _ _ _ ⟨F, hF, c⟩ k => ⟨F, PySem.W.Frag.In.keeps hF k, c⟩
theorem obsM_eq {n : Nat} {fa : List He.Fa} {fn : List He.DefD} {g : Addr → Option Obj} {s : Shared} (h : ∀ a, g a = s.heap.get? a) : obsM n fa fn g = (hookM n fa fn).obs s := by
  have e : g = s.heap.get? := funext h
  subst e
  rfl
/-- repr of a list, of a tuple -/
theorem showsW {pr : Program} {wd : World} {hp : Heap} {p : Addr} {d : PyData} {as : List Addr} (nd : NoDig hp) (r : Reads hp (.ref p) d as) (hs : shW d = true) (hl : d.shown.length ≤ sizeLine) :
    ∃ T idr, ShowsBy pr wd hp p d T idr := by
  cases r with
  | list h1 h2 h3 h4 =>
    rename_i o us n ds bs0
    have hl1 : (listText (PyData.shownAll ds)).length ≤ sizeLine := by
      simpa only [PyData.shown] using hl
    obtain ⟨bs, hb, hk⟩ := repWs (pr := pr) (wd := wd) nd h4 (by simpa [shW] using hs) fun t ht => Nat.le_trans (listText_mem_le ht) hl1
    have np : p ∉ bs := not_mem_of_deeper (.list h1 h2 h3 h4) (by simp only [PyData.depth]; omega) hb
    refine ⟨"list", "list.__repr__", F.slot_list_repr.toG, F.slot_list_str, F.slot_list_format, fun s kp => ⟨o, kp _ _ h1, h2⟩, ?_⟩
    intro A E s Q hg hu kp hQ
    simp only [PyData.depth] at hu
    simp only [PyData.shown] at hQ
    obtain ⟨us⟩ := us
    cases us with
    | nil =>
      have h4e : ReadsAll hp [] ds _ := h4
      cases h4e
      simp only [PyData.shownAll, listText_nil] at hQ
      exact call_list_repr_empty ⟨o, kp _ _ h1, h2⟩ (kp _ _ h1) h3 (hQ s.heap _ _ fun _ _ e => e)
    | cons u us =>
      refine call_list_reprK h1 h2 h3 np ?_ (fun i y e => ?_) hg (fun b _ => Clear.nil b) hu kp hQ hl1
      · simpa using hk.length_eq
      · exact hk.item i y (by simpa using e)
  | tuple h1 h2 h3 h4 =>
    rename_i o us n ds
    have hl1 : (tupleText (PyData.shownAll ds)).length ≤ sizeLine := by
      simpa only [PyData.shown] using hl
    obtain ⟨bs, hb, hk⟩ := repWs (pr := pr) (wd := wd) nd h4 (by simpa [shW] using hs) fun t ht => Nat.le_trans (tupleText_mem_le ht) hl1
    have np : p ∉ bs := not_mem_of_deeper (.tuple h1 h2 h3 h4) (by simp only [PyData.depth]; omega) hb
    refine ⟨"tuple", "tuple.__repr__", F.slot_tuple_repr, F.slot_tuple_str, F.slot_tuple_format, fun s kp => ⟨o, kp _ _ h1, h2⟩, ?_⟩
    intro A E s Q hg hu kp hQ
    simp only [PyData.depth] at hu
    simp only [PyData.shown] at hQ
    exact call_tuple_reprK h1 h2 h3 np hk hg (fun b _ => Clear.nil b) hu kp hQ hl1
  | dict h1 h2 h3 h4 h5 => simp [shW] at hs
def rReprW (K : PySem.W.Frag) : List V → Hp → VK → Prop := fun vs H Q => rReprD K vs H Q ∨
  ∃ (a : Addr) (d : PyData), vs = [.ref a] ∧ Dp K H (.ref a) d ∧ shW d = true ∧ d.depth ≤ 60 ∧ d.shown.length ≤ sizeLine ∧ Q (.str d.shown) H
theorem call_reprW (nk : NoDigK X.K) (hG : X.A.guards = some []) (hu : X.A.units + 64 < cLine) : CallR X (.builtin "repr") (rReprW X.K) := by
  intro pins s σ H xs us Q I r h
  rcases h with h | ⟨a, d, rfl, hd, hs, hdp, hz, q⟩
  · exact call_reprD hG hu pins s σ H xs us Q I r h
  have hu1 := Vals.ref1 r
  rw [hu1]
  obtain ⟨as, rd⟩ := Dp.reads I d _ _ hd (show RelV (.ref a) (.ref a) from rfl)
  have nd : NoDig s.heap := nk.at I.kIn I.nolimit
  obtain ⟨T, idr, S⟩ := showsW (pr := X.prog) (wd := X.w) nd rd hs hz
  refine call_repr_slot (by omega) (S.typeIs s fun _ _ e => e) S.slotRepr (S.call X.A.in1 X.xe s _ hG (by show X.A.units + 1 + d.depth < cLine; omega) (fun _ _ e => e) fun h' u tk hk => ⟨_, _, rfl, ?_⟩)
  exact ⟨.str d.shown, H, I.kept hk, ⟨u, rfl⟩, q⟩
theorem call_reprWK (hK : X.K = K) (nk : NoDigK K) (hG : X.A.guards = some []) (hu : X.A.units + 64 < cLine) : CallR X (.builtin "repr") (rReprW K) := by
  subst hK
  exact call_reprW nk hG hu
end
end Gd
namespace Gd
open PySem PySem.Spec PyProof.Rows L2
/-! ### corners: rows exchanged, put together -/
def sg (p : Nat) : Int := if p % 2 = 0 then 1 else -1
theorem sgnT_sg (p : Nat) (x : Int) : sgnT p x = sg p * x := by
  unfold sgnT sg
  split <;> omega
theorem sg_succ (p : Nat) : sg (p + 1) = - sg p := by
  unfold sg
  by_cases h : p % 2 = 0
  · rw [if_pos h, if_neg (by omega)]
  · rw [if_neg h, if_pos (by omega)]
    rfl
theorem sg_sq (p : Nat) : sg p * sg p = 1 := by
  unfold sg
  split <;> rfl
def up (p q : Nat) : Nat := if q < p then q else q + 1
theorem er_len {c : List Nat} {p : Nat} (h : p < c.length) : (er c p).length = c.length - 1 := by
  unfold er
  rw [List.length_append, List.length_take, List.length_drop]
  omega
theorem er_at {c : List Nat} {p q : Nat} (h : p < c.length) : (er c p).getD q 0 = c.getD (up p q) 0 := by
  unfold er up
  simp only [List.getD_eq_getElem?_getD]
  rw [List.getElem?_append, List.length_take]
  by_cases hq : q < p
  · rw [if_pos (by omega), if_pos hq, List.getElem?_take, if_pos hq]
  · rw [if_neg (by omega), if_neg hq, List.getElem?_drop]
    congr 2
    omega
theorem er_er {c : List Nat} {p q : Nat} (hq : q < p) (hp : p < c.length) : er (er c p) q = er (er c q) (p - 1) := by
  have l1 := er_len hp
  have l2 := er_len (c := c) (p := q) (by omega)
  refine ext_getD 0 ?_ fun k hk => ?_
  · rw [er_len (c := er c p) (p := q) (by omega), er_len (c := er c q) (p := p - 1) (by omega), l1, l2]
  · rw [er_at (by omega), er_at hp, er_at (by omega), er_at (by omega)]
    congr 1
    have e1 : up q k = if k < q then k else k + 1 := rfl
    have e2 : up (p - 1) k = if k < p - 1 then k else k + 1 := rfl
    have e3 : up p (up q k) = if up q k < p then up q k else up q k + 1 := rfl
    have e4 : up q (up (p - 1) k) = if up (p - 1) k < q then up (p - 1) k else up (p - 1) k + 1 := rfl
    rw [e3, e4]
    grind
/-- what is left of the columns without two -/
def er2 (c : List Nat) (p q : Nat) : List Nat := if q < p then er (er c p) q else er (er c p) (q - 1)
theorem er2_up {c : List Nat} {p q : Nat} : er2 c p (up p q) = er (er c p) q := by
  unfold er2 up
  by_cases h : q < p
  · rw [if_pos h, if_pos h]
  · rw [if_neg h, if_neg (by omega), Nat.add_sub_cancel]
theorem er2_comm {c : List Nat} {p q : Nat} (h : p ≠ q) (hp : p < c.length) (hq : q < c.length) : er2 c p q = er2 c q p := by
  unfold er2
  by_cases h1 : q < p
  · rw [if_pos h1, if_neg (by omega)]
    exact er_er h1 hp
  · rw [if_neg h1, if_pos (by omega)]
    exact (er_er (by omega) hq).symm
def w2 (p q : Nat) : Int := sg p * sg (if q < p then q else q - 1)
theorem w2_comm {p q : Nat} (h : p ≠ q) : w2 q p = - w2 p q := by
  unfold w2
  by_cases h1 : q < p
  · rw [if_pos h1, if_neg (by omega)]
    have e := sg_succ (p - 1)
    rw [Nat.sub_add_cancel (by omega)] at e
    rw [e]
    grind
  · rw [if_neg h1, if_pos (by omega)]
    have e := sg_succ (q - 1)
    rw [Nat.sub_add_cancel (by omega)] at e
    rw [e]
    grind
theorem sumR_neg (n : Nat) (f : Nat → Int) : sumR n (fun i => - f i) = - sumR n f := by
  have := sumR_mull n f (-1)
  rw [Int.neg_one_mul] at this
  rw [← this]
  exact sumR_congr fun i _ => by omega
theorem sum_up (g : Nat → Int) (p : Nat) : ∀ n, p < n → sumR (n - 1) (fun q => g (up p q)) = sumR n (fun q => if q = p then 0 else g q)
  | 0, h => by omega
  | n + 1, h => by
    rw [Nat.add_sub_cancel, sumR_succ]
    by_cases e : p = n
    · subst e
      rw [if_pos rfl, Int.add_zero]
      refine sumR_congr fun i hi => ?_
      rw [if_neg (by omega)]
      unfold up
      rw [if_pos hi]
    · have ih := sum_up g p n (by omega)
      rw [if_neg (by omega), ← ih]
      obtain ⟨m, rfl⟩ : ∃ m, n = m + 1 := ⟨n - 1, by omega⟩
      rw [Nat.add_sub_cancel, sumR_succ]
      congr 2
      unfold up
      rw [if_neg (by omega)]
theorem det_cons (r : List Int) (rs : List (List Int)) (c : List Nat) : detM (r :: rs) c = sumR c.length fun p => sg p * (r.getD (c.getD p 0) 0 * detM rs (er c p)) := by
  show sumR c.length (fun p => sgnT p _) = _
  exact sumR_congr fun p _ => sgnT_sg _ _
theorem det_two (a b : List Int) (ys : List (List Int)) (c : List Nat) : detM (a :: b :: ys) c =
    sumR c.length fun p => sumR c.length fun q => if q = p then 0 else w2 p q * (a.getD (c.getD p 0) 0 * b.getD (c.getD q 0) 0 * detM ys (er2 c p q)) := by
  rw [det_cons]
  refine sumR_congr fun p hp => ?_
  rw [← sum_up (fun q => w2 p q * (a.getD (c.getD p 0) 0 * b.getD (c.getD q 0) 0 * detM ys (er2 c p q))) p c.length hp, det_cons, er_len hp, ← sumR_mull, ← sumR_mull]
  refine sumR_congr fun q hq => ?_
  rw [er2_up, er_at hp]
  have : w2 p (up p q) = sg p * sg q := by
    unfold w2 up
    by_cases h : q < p
    · rw [if_pos h, if_pos h]
    · rw [if_neg h, if_neg (by omega), Nat.add_sub_cancel]
  rw [this]
  grind
theorem det_swap0 (a b : List Int) (ys : List (List Int)) (c : List Nat) : detM (a :: b :: ys) c = - detM (b :: a :: ys) c := by
  rw [det_two, det_two b a, sumR_comm, ← sumR_neg]
  refine sumR_congr fun p hp => ?_
  rw [← sumR_neg]
  refine sumR_congr fun q hq => ?_
  by_cases h : p = q
  · rw [if_pos h, if_pos h.symm]
    rfl
  · rw [if_neg h, if_neg (Ne.symm h), w2_comm (Ne.symm h), er2_comm h hp hq]
    grind
theorem det_adj (a b : List Int) (ys : List (List Int)) : ∀ (xs : List (List Int)) (c : List Nat), detM (xs ++ a :: b :: ys) c = - detM (xs ++ b :: a :: ys) c
  | [], c => det_swap0 a b ys c
  | x :: xs, c => by
    rw [List.cons_append, List.cons_append, det_cons, det_cons, ← sumR_neg]
    refine sumR_congr fun p _ => ?_
    rw [det_adj a b ys xs (er c p)]
    grind
theorem det_lin {r s t : List Int} {x y : Int} (ys : List (List Int)) (h : ∀ k, r.getD k 0 = x * s.getD k 0 + y * t.getD k 0) : ∀ (xs : List (List Int)) (c : List Nat),
    detM (xs ++ r :: ys) c = x * detM (xs ++ s :: ys) c + y * detM (xs ++ t :: ys) c
  | [], c => by
    rw [List.nil_append, List.nil_append, List.nil_append, det_cons, det_cons, det_cons, ← sumR_mull, ← sumR_mull, ← sumR_add]
    refine sumR_congr fun p _ => ?_
    rw [h]
    grind
  | z :: xs, c => by
    rw [List.cons_append, List.cons_append, List.cons_append, det_cons, det_cons, det_cons, ← sumR_mull, ← sumR_mull, ← sumR_add]
    refine sumR_congr fun p _ => ?_
    rw [det_lin ys h xs (er c p)]
    grind
theorem det_move (a : List Int) (zs : List (List Int)) (c : List Nat) : ∀ (ys xs : List (List Int)), detM (xs ++ a :: (ys ++ zs)) c = sg ys.length * detM (xs ++ (ys ++ a :: zs)) c
  | [], xs => by
    rw [List.nil_append, List.nil_append, List.length_nil]
    show _ = 1 * _
    rw [Int.one_mul]
  | y :: ys, xs => by
    have ih := det_move a zs c ys (xs ++ [y])
    rw [List.append_assoc, List.append_assoc] at ih
    rw [List.cons_append, det_adj, List.length_cons, sg_succ]
    rw [List.singleton_append, List.singleton_append] at ih
    rw [ih, List.cons_append]
    grind
theorem det_swap (a b : List Int) (xs ys zs : List (List Int)) (c : List Nat) : detM (xs ++ a :: (ys ++ b :: zs)) c = - detM (xs ++ b :: (ys ++ a :: zs)) c := by
  rw [det_move a (b :: zs) c ys xs, det_move b (a :: zs) c ys xs]
  have h := det_adj a b zs (xs ++ ys) c
  rw [List.append_assoc, List.append_assoc] at h
  rw [h]
  grind
theorem det_same (a : List Int) (xs ys zs : List (List Int)) (c : List Nat) : detM (xs ++ a :: (ys ++ a :: zs)) c = 0 := by
  have := det_swap a a xs ys zs c
  omega
end Gd
namespace Gd
open PySem PySem.Spec PyProof.Rows L2
/-! ### corners behind a deed -/
theorem one_at {α : Type} {l : List α} {i : Nat} (h : i < l.length) : ∃ xs a ys, l = xs ++ a :: ys ∧ xs.length = i :=
  ⟨l.take i, l[i], l.drop (i + 1), by rw [List.getElem_cons_drop, List.take_append_drop], by rw [List.length_take]; omega⟩
theorem two_at {α : Type} {l : List α} {i j : Nat} (hij : i < j) (h : j < l.length) : ∃ xs a ys b zs, l = xs ++ a :: (ys ++ b :: zs) ∧ xs.length = i ∧ j = i + 1 + ys.length := by
  obtain ⟨xs, a, ts, rfl, hx⟩ := one_at (l := l) (i := i) (by omega)
  rw [List.length_append, List.length_cons] at h
  obtain ⟨ys, b, zs, rfl, hy⟩ := one_at (l := ts) (i := j - i - 1) (by omega)
  exact ⟨xs, a, ys, b, zs, rfl, hx, by omega⟩
theorem at_here {α : Type} {d a : α} (xs ys : List α) : (xs ++ a :: ys).getD xs.length d = a := by
  rw [List.getD_eq_getElem?_getD, List.getElem?_append_right (Nat.le_refl _), Nat.sub_self]
  rfl
theorem at_there {α : Type} {d a b : α} (xs ys zs : List α) : (xs ++ a :: (ys ++ b :: zs)).getD (xs.length + 1 + ys.length) d = b := by
  have := at_here (d := d) (a := b) (xs ++ a :: ys) zs
  rw [List.append_assoc, List.cons_append, List.length_append, List.length_cons, show xs.length + (ys.length + 1) = xs.length + 1 + ys.length by omega] at this
  exact this
theorem set_here {α : Type} {a x : α} (xs ys : List α) : (xs ++ a :: ys).set xs.length x = xs ++ x :: ys := by
  rw [List.set_append_right _ _ (Nat.le_refl _), Nat.sub_self]
  rfl
theorem set_there {α : Type} {a b x : α} (xs ys zs : List α) : (xs ++ a :: (ys ++ b :: zs)).set (xs.length + 1 + ys.length) x = xs ++ a :: (ys ++ x :: zs) := by
  have := set_here (a := b) (x := x) (xs ++ a :: ys) zs
  rw [List.append_assoc, List.append_assoc, List.cons_append, List.cons_append, List.length_append, List.length_cons, show xs.length + (ys.length + 1) = xs.length + 1 + ys.length by omega] at this
  exact this
def sgD : Deed → Int
  | .add _ _ _ => 1
  | _ => -1
theorem scale_at (r : List Int) (k : Int) (c : Nat) : (scaleR r k).getD c 0 = k * r.getD c 0 := scaleR_at
theorem sum_at {r t : List Int} (h : r.length = t.length) (c : Nat) : (sumRow r t).getD c 0 = r.getD c 0 + t.getD c 0 := by
  by_cases hc : c < r.length
  · exact sumRow_at hc
  · rw [getD_out (by rw [sumRow_len]; omega), getD_out (by omega), getD_out (by omega)]
    rfl
theorem det_turn {rs : List (List Int)} {i : Nat} (h : i < rs.length) (c : List Nat) : detM (rs.set i (scaleR (rs.getD i []) (-1))) c = - detM rs c := by
  obtain ⟨xs, a, ys, rfl, rfl⟩ := one_at h
  rw [at_here, set_here, det_lin (r := scaleR a (-1)) (s := a) (t := a) (x := -1) (y := 0) ys (fun k => by rw [scale_at]; omega) xs c]
  omega
theorem det_swapD {rs : List (List Int)} {i j : Nat} (hi : i < rs.length) (hj : j < rs.length) (hij : i ≠ j) (c : List Nat) : detM ((rs.set i (rs.getD j [])).set j (rs.getD i [])) c = - detM rs c := by
  have key : ∀ i j, i < j → j < rs.length → detM ((rs.set i (rs.getD j [])).set j (rs.getD i [])) c = - detM rs c := by
    intro i j h1 h2
    obtain ⟨xs, a, ys, b, zs, rfl, rfl, rfl⟩ := two_at h1 h2
    rw [at_here, at_there, set_here, set_there]
    have := det_swap a b xs ys zs c
    omega
  by_cases h : i < j
  · exact key i j h hj
  · have := key j i (by omega) hi
    rw [List.set_comm _ _ hij]
    exact this
theorem det_addD {rs : List (List Int)} {i j w : Nat} {k : Int} (hi : i < rs.length) (hj : j < rs.length) (hij : i ≠ j) (hw : ∀ r ∈ rs, r.length = w) (c : List Nat) :
    detM (rs.set i (sumRow (rs.getD i []) (scaleR (rs.getD j []) k))) c = detM rs c := by
  have wi := hw _ (Gd.getD_mem (d := []) hi)
  have wj := hw _ (Gd.getD_mem (d := []) hj)
  have hl : ∀ q, (sumRow (rs.getD i []) (scaleR (rs.getD j []) k)).getD q 0 = 1 * (rs.getD i []).getD q 0 + k * (rs.getD j []).getD q 0 := fun q => by
    rw [sum_at (by rw [scaleR_len, wi, wj]), scale_at, Int.one_mul]
  have zero : detM (rs.set i (rs.getD j [])) c = 0 := by
    by_cases h : i < j
    · obtain ⟨xs, a, ys, b, zs, rfl, rfl, rfl⟩ := two_at h hj
      rw [at_there, set_here]
      exact det_same b xs ys zs c
    · obtain ⟨xs, a, ys, b, zs, rfl, rfl, rfl⟩ := two_at (show j < i by omega) hi
      rw [at_here, set_there]
      exact det_same a xs ys zs c
  obtain ⟨xs, a, ys, e, rfl⟩ := one_at hi
  have ea : rs.getD xs.length [] = a := by
    rw [e]
    exact at_here xs ys
  generalize hs : sumRow (rs.getD xs.length []) (scaleR (rs.getD j []) k) = s at hl ⊢
  rw [ea] at hl
  generalize rs.getD j [] = b at hl zero
  rw [e] at zero ⊢
  rw [set_here] at zero ⊢
  rw [det_lin ys hl xs c, zero]
  omega
theorem det_stepD {rs : List (List Int)} {m w : Nat} {b : Int} {d : Deed} (hm : rs.length = m) (hw : ∀ r ∈ rs, r.length = w) (hd : OkD m b d) (c : List Nat) : detM (stepD rs d) c = sgD d * detM rs c := by
  subst hm
  cases d with
  | swap i j =>
    show detM ((rs.set i (rs.getD j [])).set j (rs.getD i [])) c = -1 * detM rs c
    rw [det_swapD hd.1 hd.2.1 hd.2.2]
    omega
  | turn i =>
    show detM (rs.set i (scaleR (rs.getD i []) (-1))) c = -1 * detM rs c
    rw [det_turn hd]
    omega
  | add i j k =>
    show detM (rs.set i (sumRow (rs.getD i []) (scaleR (rs.getD j []) k))) c = 1 * detM rs c
    rw [det_addD hd.1 hd.2.1 hd.2.2.1 hw]
    omega
theorem det_unit : ∀ n < 8, detM (unitR n) (List.range n) = 1 := by decide +kernel
/-! ### deeds turned over -/
def trD : Deed → Deed
  | .add i j k => .add j i k
  | d => d
theorem trD_ok {m : Nat} {b : Int} {d : Deed} (h : OkD m b d) : OkD m b (trD d) := by
  cases d with
  | swap i j => exact h
  | turn i => exact h
  | add i j k => exact ⟨h.2.1, h.1, Ne.symm h.2.2.1, h.2.2.2⟩
theorem sgD_tr (d : Deed) : sgD (trD d) = sgD d := by cases d <;> rfl
theorem ent_set {rs : List (List Int)} {i r k : Nat} {x : List Int} (h : i < rs.length) : ent (rs.set i x) r k = if r = i then x.getD k 0 else ent rs r k := by
  unfold ent
  rw [getD_set h]
  split <;> rfl
theorem rows_ext {as bs : List (List Int)} {n : Nat} (ha : as.length = n) (hb : bs.length = n) (wa : ∀ r ∈ as, r.length = n) (wb : ∀ r ∈ bs, r.length = n) (h : ∀ i k, i < n → k < n → ent as i k = ent bs i k) : as = bs := by
  refine ext_getD [] (by omega) fun i hi => ?_
  have la := wa _ (Gd.getD_mem (d := []) hi)
  have lb := wb _ (Gd.getD_mem (d := []) (show i < bs.length by omega))
  refine ext_getD 0 (by omega) fun k hk => ?_
  exact h i k (by omega) (by omega)
theorem unit_lenN (n : Nat) : (unitR n).length = n := by simp [unitR]
theorem unit_wideN {n : Nat} : ∀ r ∈ unitR n, r.length = n := by
  intro r hr
  obtain ⟨k, _, rfl⟩ := List.mem_map.mp hr
  simp [unitRow]
theorem unit_swap_turn : ∀ n < 8, (∀ i < n, turnR n (stepD (unitR n) (.turn i)) = stepD (unitR n) (.turn i)) ∧ ∀ i < n, ∀ j < n, turnR n (stepD (unitR n) (.swap i j)) = stepD (unitR n) (.swap i j) := by decide +kernel
theorem turn_stepU {n : Nat} {b : Int} {d : Deed} (hn : n < 8) (hd : OkD n b d) : turnR n (stepD (unitR n) d) = stepD (unitR n) (trD d) := by
  cases d with
  | swap i j => exact (unit_swap_turn n hn).2 i hd.1 j hd.2.1
  | turn i => exact (unit_swap_turn n hn).1 i hd
  | add i j k =>
    have l1 : (stepD (unitR n) (.add i j k)).length = n := by rw [stepD_len, unit_lenN]
    have w1 := stepD_wide (d := .add i j k) unit_wideN (unit_lenN n) hd
    have w2 := stepD_wide (d := .add j i k) unit_wideN (unit_lenN n) (trD_ok hd)
    have form : ∀ i j, i < n → j < n → ∀ r c, r < n → c < n → ent (stepD (unitR n) (.add i j k)) r c = (if r = c then 1 else 0) + (if r = i ∧ c = j then k else 0) := by
      intro i j hi hj r c hr hc
      show ent ((unitR n).set i (sumRow ((unitR n).getD i []) (scaleR ((unitR n).getD j []) k))) r c = _
      rw [ent_set (by rw [unit_lenN]; exact hi)]
      have wi := unit_wideN (n := n) _ (Gd.getD_mem (d := []) (show i < (unitR n).length by rw [unit_lenN]; exact hi))
      have wj := unit_wideN (n := n) _ (Gd.getD_mem (d := []) (show j < (unitR n).length by rw [unit_lenN]; exact hj))
      rw [sum_at (by rw [scaleR_len, wi, wj]), scale_at]
      have e1 := ent_unit hi hc
      have e2 := ent_unit hj hc
      have e3 := ent_unit hr hc
      unfold ent at e1 e2
      rw [e1, e2, e3]
      grind
    refine rows_ext turn_len (by rw [stepD_len, unit_lenN]) (fun r hr => ?_) w2 fun r c hr hc => ?_
    · have := (turn_tb (w := n) (rs := stepD (unitR n) (.add i j k)) (by omega) (by omega)).2.2 r hr
      omega
    · rw [ent_turn hr (by omega), form i j hd.1 hd.2.1 c r hc hr]
      show _ = ent (stepD (unitR n) (.add j i k)) r c
      rw [form j i hd.2.1 hd.1 r c hr hc]
      grind
end Gd
namespace Gd
open PySem PySem.Spec PyProof.Rows L2
/-! ### corners of products, small ones -/
def pickRw (rs : List (List Int)) (c : List Nat) : List (List Int) := c.map fun i => rs.getD i []
theorem sumR1 (f : Nat → Int) : sumR 1 f = f 0 := by simp [sumR_succ, sumR_zero]
theorem sumR2 (f : Nat → Int) : sumR 2 f = f 0 + f 1 := by simp [sumR_succ, sumR_zero]
theorem sumR3 (f : Nat → Int) : sumR 3 f = f 0 + f 1 + f 2 := by simp [sumR_succ, sumR_zero]
theorem sumR4 (f : Nat → Int) : sumR 4 f = f 0 + f 1 + f 2 + f 3 := by simp [sumR_succ, sumR_zero]
theorem d1 (a : List Int) (x : Nat) : detM [a] [x] = a.getD x 0 := by
  simp [detM, rowM, sumR, er, sgnT, List.range_succ]
theorem d2 (a b : List Int) (x y : Nat) : detM [a, b] [x, y] = a.getD x 0 * b.getD y 0 - a.getD y 0 * b.getD x 0 := by
  simp [detM, rowM, sumR, er, sgnT, List.range_succ]
  omega
theorem d3 (a b c : List Int) (x y z : Nat) : detM [a, b, c] [x, y, z] = a.getD x 0 * detM [b, c] [y, z] - a.getD y 0 * detM [b, c] [x, z] + a.getD z 0 * detM [b, c] [x, y] := by
  simp [detM, rowM, sumR, er, sgnT, List.range_succ]
  omega
theorem d4 (a b c d : List Int) (x y z u : Nat) : detM [a, b, c, d] [x, y, z, u] =
    a.getD x 0 * detM [b, c, d] [y, z, u] - a.getD y 0 * detM [b, c, d] [x, z, u] + a.getD z 0 * detM [b, c, d] [x, y, u] - a.getD u 0 * detM [b, c, d] [x, y, z] := by
  rw [det_cons]
  simp only [List.length_cons, List.length_nil, sumR4, sumR, sg, er, List.range_succ]
  simp
  omega
theorem mr1 {r t0 : List Int} {w q : Nat} (hr : r.length = 1) (hq : q < w) : (mulRow r w [t0]).getD q 0 = r.getD 0 0 * t0.getD q 0 := by
  rw [mulRow_at hq, hr, sumR1]
  rfl
theorem mr2 {r t0 t1 : List Int} {w q : Nat} (hr : r.length = 2) (hq : q < w) : (mulRow r w [t0, t1]).getD q 0 = r.getD 0 0 * t0.getD q 0 + r.getD 1 0 * t1.getD q 0 := by
  rw [mulRow_at hq, hr, sumR2]
  rfl
theorem mr3 {r t0 t1 t2 : List Int} {w q : Nat} (hr : r.length = 3) (hq : q < w) : (mulRow r w [t0, t1, t2]).getD q 0 = r.getD 0 0 * t0.getD q 0 + r.getD 1 0 * t1.getD q 0 + r.getD 2 0 * t2.getD q 0 := by
  rw [mulRow_at hq, hr, sumR3]
  rfl
theorem mr4 {r t0 t1 t2 t3 : List Int} {w q : Nat} (hr : r.length = 4) (hq : q < w) : (mulRow r w [t0, t1, t2, t3]).getD q 0 = r.getD 0 0 * t0.getD q 0 + r.getD 1 0 * t1.getD q 0 + r.getD 2 0 * t2.getD q 0 + r.getD 3 0 * t3.getD q 0 := by
  rw [mulRow_at hq, hr, sumR4]
  rfl
theorem cb11 {a t0 : List Int} {w x : Nat} (ha : a.length = 1) (hx : x < w) : detM [mulRow a w [t0]] [x] = detM [a] [0] * detM [t0] [x] := by
  simp only [d1, mr1 ha hx]
theorem cb21 {a t0 t1 : List Int} {w x : Nat} (ha : a.length = 2) (hx : x < w) : detM [mulRow a w [t0, t1]] [x] = detM [a] [0] * detM [t0] [x] + detM [a] [1] * detM [t1] [x] := by
  simp only [d1, mr2 ha hx]
theorem cb31 {a t0 t1 t2 : List Int} {w x : Nat} (ha : a.length = 3) (hx : x < w) : detM [mulRow a w [t0, t1, t2]] [x] = detM [a] [0] * detM [t0] [x] + detM [a] [1] * detM [t1] [x] + detM [a] [2] * detM [t2] [x] := by
  simp only [d1, mr3 ha hx]
theorem cb41 {a t0 t1 t2 t3 : List Int} {w x : Nat} (ha : a.length = 4) (hx : x < w) : detM [mulRow a w [t0, t1, t2, t3]] [x] = detM [a] [0] * detM [t0] [x] + detM [a] [1] * detM [t1] [x] + detM [a] [2] * detM [t2] [x] + detM [a] [3] * detM [t3] [x] := by
  simp only [d1, mr4 ha hx]
theorem cb12 {a b t0 : List Int} {w x y : Nat} (ha : a.length = 1) (hb : b.length = 1) (hx : x < w) (hy : y < w) : detM [mulRow a w [t0], mulRow b w [t0]] [x, y] = 0 := by
  simp only [d1, d2, mr1 ha hx, mr1 ha hy, mr1 hb hx, mr1 hb hy]
  grind
theorem cb22 {a b t0 t1 : List Int} {w x y : Nat} (ha : a.length = 2) (hb : b.length = 2) (hx : x < w) (hy : y < w) : detM [mulRow a w [t0, t1], mulRow b w [t0, t1]] [x, y] = detM [a, b] [0, 1] * detM [t0, t1] [x, y] := by
  simp only [d1, d2, mr2 ha hx, mr2 ha hy, mr2 hb hx, mr2 hb hy]
  grind
theorem cb32 {a b t0 t1 t2 : List Int} {w x y : Nat} (ha : a.length = 3) (hb : b.length = 3) (hx : x < w) (hy : y < w) : detM [mulRow a w [t0, t1, t2], mulRow b w [t0, t1, t2]] [x, y] = detM [a, b] [0, 1] * detM [t0, t1] [x, y] + detM [a, b] [0, 2] * detM [t0, t2] [x, y] + detM [a, b] [1, 2] * detM [t1, t2] [x, y] := by
  simp only [d1, d2, mr3 ha hx, mr3 ha hy, mr3 hb hx, mr3 hb hy]
  grind
theorem cb13 {a b c t0 : List Int} {w x y z : Nat} (ha : a.length = 1) (hb : b.length = 1) (hc : c.length = 1) (hx : x < w) (hy : y < w) (hz : z < w) : detM [mulRow a w [t0], mulRow b w [t0], mulRow c w [t0]] [x, y, z] = 0 := by
  simp only [d3, d2, mr1 ha hx, mr1 ha hy, mr1 ha hz, mr1 hb hx, mr1 hb hy, mr1 hb hz, mr1 hc hx, mr1 hc hy, mr1 hc hz]
  grind
theorem cb23 {a b c t0 t1 : List Int} {w x y z : Nat} (ha : a.length = 2) (hb : b.length = 2) (hc : c.length = 2) (hx : x < w) (hy : y < w) (hz : z < w) : detM [mulRow a w [t0, t1], mulRow b w [t0, t1], mulRow c w [t0, t1]] [x, y, z] = 0 := by
  simp only [d3, d2, mr2 ha hx, mr2 ha hy, mr2 ha hz, mr2 hb hx, mr2 hb hy, mr2 hb hz, mr2 hc hx, mr2 hc hy, mr2 hc hz]
  grind
theorem cb33 {a b c t0 t1 t2 : List Int} {w x y z : Nat} (ha : a.length = 3) (hb : b.length = 3) (hc : c.length = 3) (hx : x < w) (hy : y < w) (hz : z < w) : detM [mulRow a w [t0, t1, t2], mulRow b w [t0, t1, t2], mulRow c w [t0, t1, t2]] [x, y, z] = detM [a, b, c] [0, 1, 2] * detM [t0, t1, t2] [x, y, z] := by
  simp only [d3, d2, mr3 ha hx, mr3 ha hy, mr3 ha hz, mr3 hb hx, mr3 hb hy, mr3 hb hz, mr3 hc hx, mr3 hc hy, mr3 hc hz]
  grind
end Gd
namespace Gd
open PySem PySem.Spec PyProof.Rows L2
/-! ### corners of products of four -/
theorem det_linF {r : List Int} {n : Nat} {x : Nat → Int} {T : Nat → List Int} (ys : List (List Int)) (h : ∀ k, r.getD k 0 = sumR n fun m => x m * (T m).getD k 0) : ∀ (xs : List (List Int)) (c : List Nat),
    detM (xs ++ r :: ys) c = sumR n fun m => x m * detM (xs ++ T m :: ys) c
  | [], c => by
    rw [List.nil_append, det_cons]
    have e : ∀ m, x m * detM ([] ++ T m :: ys) c = sumR c.length fun p => x m * (sg p * ((T m).getD (c.getD p 0) 0 * detM ys (er c p))) := fun m => by
      rw [List.nil_append, det_cons, ← sumR_mull]
    rw [sumR_congr fun m _ => e m, sumR_comm]
    refine sumR_congr fun p _ => ?_
    rw [h, ← sumR_mulr, ← sumR_mull]
    exact sumR_congr fun m _ => by grind
  | z :: xs, c => by
    rw [List.cons_append, det_cons]
    have e : ∀ m, x m * detM (z :: xs ++ T m :: ys) c = sumR c.length fun p => x m * (sg p * (z.getD (c.getD p 0) 0 * detM (xs ++ T m :: ys) (er c p))) := fun m => by
      rw [List.cons_append, det_cons, ← sumR_mull]
    rw [sumR_congr fun m _ => e m, sumR_comm]
    refine sumR_congr fun p _ => ?_
    rw [det_linF ys h xs (er c p), ← sumR_mull, ← sumR_mull]
    exact sumR_congr fun m _ => by grind
theorem row4 {r t0 t1 t2 t3 : List Int} {w : Nat} (hr : r.length = 4) (h0 : t0.length = w) (h1 : t1.length = w) (h2 : t2.length = w) (h3 : t3.length = w) (k : Nat) :
    (mulRow r w [t0, t1, t2, t3]).getD k 0 = sumR 4 fun m => r.getD m 0 * ([t0, t1, t2, t3].getD m []).getD k 0 := by
  rw [sumR4]
  by_cases hk : k < w
  · exact mr4 hr hk
  · have z : ∀ t : List Int, t.length = w → t.getD k 0 = 0 := fun t ht => getD_out (by omega)
    have e : (mulRow r w [t0, t1, t2, t3]).getD k 0 = 0 := getD_out (by rw [mulRow_len]; omega)
    rw [e]
    show (0 : Int) = r.getD 0 0 * t0.getD k 0 + r.getD 1 0 * t1.getD k 0 + r.getD 2 0 * t2.getD k 0 + r.getD 3 0 * t3.getD k 0
    rw [z t0 h0, z t1 h1, z t2 h2, z t3 h3]
    omega
theorem z01 (a x y : List Int) (c : List Nat) : detM [a, a, x, y] c = 0 := det_same a [] [] [x, y] c
theorem z02 (a x y : List Int) (c : List Nat) : detM [a, x, a, y] c = 0 := det_same a [] [x] [y] c
theorem z03 (a x y : List Int) (c : List Nat) : detM [a, x, y, a] c = 0 := det_same a [] [x, y] [] c
theorem z12 (a x y : List Int) (c : List Nat) : detM [x, a, a, y] c = 0 := det_same a [x] [] [y] c
theorem z13 (a x y : List Int) (c : List Nat) : detM [x, a, y, a] c = 0 := det_same a [x] [y] [] c
theorem z23 (a x y : List Int) (c : List Nat) : detM [x, y, a, a] c = 0 := det_same a [x, y] [] [] c
section
variable (a b c d : List Int) (e : List Nat)
theorem pm1023 : detM [b, a, c, d] e = - detM [a, b, c, d] e := by
  have h := det_swap b a [] [] [c, d] e
  simp only [List.nil_append, List.cons_append] at h
  exact h
theorem pm2103 : detM [c, b, a, d] e = - detM [a, b, c, d] e := by
  have h := det_swap c a [] [b] [d] e
  simp only [List.nil_append, List.cons_append] at h
  exact h
theorem pm3120 : detM [d, b, c, a] e = - detM [a, b, c, d] e := by
  have h := det_swap d a [] [b, c] [] e
  simp only [List.nil_append, List.cons_append] at h
  exact h
theorem pm0213 : detM [a, c, b, d] e = - detM [a, b, c, d] e := by
  have h := det_swap c b [a] [] [d] e
  simp only [List.nil_append, List.cons_append] at h
  exact h
theorem pm0321 : detM [a, d, c, b] e = - detM [a, b, c, d] e := by
  have h := det_swap d b [a] [c] [] e
  simp only [List.nil_append, List.cons_append] at h
  exact h
theorem pm0132 : detM [a, b, d, c] e = - detM [a, b, c, d] e := by
  have h := det_swap d c [a, b] [] [] e
  simp only [List.nil_append, List.cons_append] at h
  exact h
theorem pm2013 : detM [c, a, b, d] e = detM [a, b, c, d] e := by
  have h := det_swap c b [] [a] [d] e
  simp only [List.nil_append, List.cons_append] at h
  rw [pm1023 a b c d e] at h
  omega
theorem pm3021 : detM [d, a, c, b] e = detM [a, b, c, d] e := by
  have h := det_swap d b [] [a, c] [] e
  simp only [List.nil_append, List.cons_append] at h
  rw [pm1023 a b c d e] at h
  omega
theorem pm1203 : detM [b, c, a, d] e = detM [a, b, c, d] e := by
  have h := det_swap c a [b] [] [d] e
  simp only [List.nil_append, List.cons_append] at h
  rw [pm1023 a b c d e] at h
  omega
theorem pm1320 : detM [b, d, c, a] e = detM [a, b, c, d] e := by
  have h := det_swap d a [b] [c] [] e
  simp only [List.nil_append, List.cons_append] at h
  rw [pm1023 a b c d e] at h
  omega
theorem pm1032 : detM [b, a, d, c] e = detM [a, b, c, d] e := by
  have h := det_swap d c [b, a] [] [] e
  simp only [List.nil_append, List.cons_append] at h
  rw [pm1023 a b c d e] at h
  omega
theorem pm3102 : detM [d, b, a, c] e = detM [a, b, c, d] e := by
  have h := det_swap d c [] [b, a] [] e
  simp only [List.nil_append, List.cons_append] at h
  rw [pm2103 a b c d e] at h
  omega
theorem pm2301 : detM [c, d, a, b] e = detM [a, b, c, d] e := by
  have h := det_swap d b [c] [a] [] e
  simp only [List.nil_append, List.cons_append] at h
  rw [pm2103 a b c d e] at h
  omega
theorem pm2130 : detM [c, b, d, a] e = detM [a, b, c, d] e := by
  have h := det_swap d a [c, b] [] [] e
  simp only [List.nil_append, List.cons_append] at h
  rw [pm2103 a b c d e] at h
  omega
theorem pm3210 : detM [d, c, b, a] e = detM [a, b, c, d] e := by
  have h := det_swap c b [d] [] [a] e
  simp only [List.nil_append, List.cons_append] at h
  rw [pm3120 a b c d e] at h
  omega
theorem pm0312 : detM [a, d, b, c] e = detM [a, b, c, d] e := by
  have h := det_swap d c [a] [b] [] e
  simp only [List.nil_append, List.cons_append] at h
  rw [pm0213 a b c d e] at h
  omega
theorem pm0231 : detM [a, c, d, b] e = detM [a, b, c, d] e := by
  have h := det_swap d b [a, c] [] [] e
  simp only [List.nil_append, List.cons_append] at h
  rw [pm0213 a b c d e] at h
  omega
theorem pm3012 : detM [d, a, b, c] e = - detM [a, b, c, d] e := by
  have h := det_swap d c [] [a, b] [] e
  simp only [List.nil_append, List.cons_append] at h
  rw [pm2013 a b c d e] at h
  omega
theorem pm2310 : detM [c, d, b, a] e = - detM [a, b, c, d] e := by
  have h := det_swap d a [c] [b] [] e
  simp only [List.nil_append, List.cons_append] at h
  rw [pm2013 a b c d e] at h
  omega
theorem pm2031 : detM [c, a, d, b] e = - detM [a, b, c, d] e := by
  have h := det_swap d b [c, a] [] [] e
  simp only [List.nil_append, List.cons_append] at h
  rw [pm2013 a b c d e] at h
  omega
theorem pm3201 : detM [d, c, a, b] e = - detM [a, b, c, d] e := by
  have h := det_swap c a [d] [] [b] e
  simp only [List.nil_append, List.cons_append] at h
  rw [pm3021 a b c d e] at h
  omega
theorem pm1302 : detM [b, d, a, c] e = - detM [a, b, c, d] e := by
  have h := det_swap d c [b] [a] [] e
  simp only [List.nil_append, List.cons_append] at h
  rw [pm1203 a b c d e] at h
  omega
theorem pm1230 : detM [b, c, d, a] e = - detM [a, b, c, d] e := by
  have h := det_swap d a [b, c] [] [] e
  simp only [List.nil_append, List.cons_append] at h
  rw [pm1203 a b c d e] at h
  omega
end
theorem cb44 {a b c d t0 t1 t2 t3 : List Int} {w : Nat} (ha : a.length = 4) (hb : b.length = 4) (hc : c.length = 4) (hd : d.length = 4) (h0 : t0.length = w) (h1 : t1.length = w) (h2 : t2.length = w) (h3 : t3.length = w) (e : List Nat) :
    detM [mulRow a w [t0, t1, t2, t3], mulRow b w [t0, t1, t2, t3], mulRow c w [t0, t1, t2, t3], mulRow d w [t0, t1, t2, t3]] e = detM [a, b, c, d] [0, 1, 2, 3] * detM [t0, t1, t2, t3] e := by
  have l0 : ∀ (ys : List (List Int)), detM (mulRow a w [t0, t1, t2, t3] :: ys) e = a.getD 0 0 * detM (t0 :: ys) e + a.getD 1 0 * detM (t1 :: ys) e + a.getD 2 0 * detM (t2 :: ys) e + a.getD 3 0 * detM (t3 :: ys) e := fun  ys => by
    have h := det_linF (r := mulRow a w [t0, t1, t2, t3]) ys (row4 ha h0 h1 h2 h3) [] e
    rw [sumR4] at h
    exact h
  have l1 : ∀ (x : List Int) (ys : List (List Int)), detM (x :: mulRow b w [t0, t1, t2, t3] :: ys) e = b.getD 0 0 * detM (x :: t0 :: ys) e + b.getD 1 0 * detM (x :: t1 :: ys) e + b.getD 2 0 * detM (x :: t2 :: ys) e + b.getD 3 0 * detM (x :: t3 :: ys) e := fun x ys => by
    have h := det_linF (r := mulRow b w [t0, t1, t2, t3]) ys (row4 hb h0 h1 h2 h3) [x] e
    rw [sumR4] at h
    exact h
  have l2 : ∀ (x : List Int) (y : List Int) (ys : List (List Int)), detM (x :: y :: mulRow c w [t0, t1, t2, t3] :: ys) e = c.getD 0 0 * detM (x :: y :: t0 :: ys) e + c.getD 1 0 * detM (x :: y :: t1 :: ys) e + c.getD 2 0 * detM (x :: y :: t2 :: ys) e + c.getD 3 0 * detM (x :: y :: t3 :: ys) e := fun x y ys => by
    have h := det_linF (r := mulRow c w [t0, t1, t2, t3]) ys (row4 hc h0 h1 h2 h3) [x, y] e
    rw [sumR4] at h
    exact h
  have l3 : ∀ (x : List Int) (y : List Int) (z : List Int) (ys : List (List Int)), detM (x :: y :: z :: mulRow d w [t0, t1, t2, t3] :: ys) e = d.getD 0 0 * detM (x :: y :: z :: t0 :: ys) e + d.getD 1 0 * detM (x :: y :: z :: t1 :: ys) e + d.getD 2 0 * detM (x :: y :: z :: t2 :: ys) e + d.getD 3 0 * detM (x :: y :: z :: t3 :: ys) e := fun x y z ys => by
    have h := det_linF (r := mulRow d w [t0, t1, t2, t3]) ys (row4 hd h0 h1 h2 h3) [x, y, z] e
    rw [sumR4] at h
    exact h
  simp only [l0, l1, l2, l3]
  simp only [z01, z02, z03, z12, z13, z23, Int.mul_zero, Int.add_zero, Int.zero_add]
  rw [pm1023 t0 t1 t2 t3 e, pm2103 t0 t1 t2 t3 e, pm3120 t0 t1 t2 t3 e, pm0213 t0 t1 t2 t3 e, pm0321 t0 t1 t2 t3 e, pm0132 t0 t1 t2 t3 e, pm2013 t0 t1 t2 t3 e, pm3021 t0 t1 t2 t3 e, pm1203 t0 t1 t2 t3 e, pm1320 t0 t1 t2 t3 e, pm1032 t0 t1 t2 t3 e, pm3102 t0 t1 t2 t3 e, pm2301 t0 t1 t2 t3 e, pm2130 t0 t1 t2 t3 e, pm3210 t0 t1 t2 t3 e, pm0312 t0 t1 t2 t3 e, pm0231 t0 t1 t2 t3 e, pm3012 t0 t1 t2 t3 e, pm2310 t0 t1 t2 t3 e, pm2031 t0 t1 t2 t3 e, pm3201 t0 t1 t2 t3 e, pm1302 t0 t1 t2 t3 e, pm1230 t0 t1 t2 t3 e]
  rw [d4, d3, d3, d3, d3]
  simp only [d2]
  generalize detM [t0, t1, t2, t3] e = F
  generalize a.getD 0 0 = a0
  generalize a.getD 1 0 = a1
  generalize a.getD 2 0 = a2
  generalize a.getD 3 0 = a3
  generalize b.getD 0 0 = b0
  generalize b.getD 1 0 = b1
  generalize b.getD 2 0 = b2
  generalize b.getD 3 0 = b3
  generalize c.getD 0 0 = c0
  generalize c.getD 1 0 = c1
  generalize c.getD 2 0 = c2
  generalize c.getD 3 0 = c3
  generalize d.getD 0 0 = d0
  generalize d.getD 1 0 = d1
  generalize d.getD 2 0 = d2
  generalize d.getD 3 0 = d3
  grind
end Gd
namespace Gd
open PySem PySem.Spec PyProof.Rows L2
/-! ### a list made longer by a tuple -/
open PySem.AutoSeq1 in
theorem ext_tup (l : Addr) (ys : Array Value) (n : Nat) (b : Addr) (zs : Array Value) (m : Nat) (dd : Option Addr) (sl : Array (Option Value))
    (h0 : ¬ (!ys.isEmpty && Builtin.List.listTooLong (ys.size + zs.size)) = true) (h1 : ys.size ≤ sizeLine) (h2 : ys.size + zs.size ≤ sizeLine + 1) :
    Meets (Builtin.«list.extend» ⟨[.ref l, .ref b], []⟩) (fun _ R s =>
      s.heap.get? l = some { cls := .type "list", dict := none, data := .seq ys n, slots := #[] } ∧
      s.heap.get? b = some { cls := .type "tuple", dict := dd, data := .seq zs m, slots := sl } ∧
      R (.ok (.ret Value.none)) { s with heap := s.heap.update l (Obj.mapSeq fun x => x ++ zs), toks := s.toks }) :=
  .of_wp fun prog w A R s h => by
    obtain ⟨hp, g, d, tk, os⟩ := s
    obtain ⟨hl, hb, h⟩ := h
    have f1 := idx_int
    have f2 := PySem.AutoSeq1.sub_tuple_tuple
    have f3 := PySem.AutoSeq1.sub_list_list
    have f4 := PySem.AutoSeq1.sub_tuple_list
    have f5 := PySem.AutoSeq1.sub_list_tuple
    have h3 : (ys ++ zs).size ≤ sizeLine + 1 := by
      rw [Array.size_append]
      exact h2
    wp_walk using (wpAny_updateSeq hl rfl (hz := h1) (_hz' := h3)), wpAny_loadPart' hl, wpAny_loadPart' hb
    exact ⟨_, rfl, h⟩
def rExtT (K : PySem.W.Frag) : V → List V → Hp → VK → Prop := fun x vs H Q => ∃ l b xs zs, x = .ref l ∧ vs = [.ref b] ∧ H l = some (.lst xs) ∧ SqT K H b zs ∧ xs.length + zs.length ≤ sizeLine ∧ Q .non (upd H l (.lst (xs ++ zs)))
theorem mt_extT {X : Cx} : MtM X "list.extend" (rExtT X.K) := by
  intro pins s σ H x vs v us Q I rx rv h
  obtain ⟨l, b, xs, zs, rfl, rfl, hH, hB, hz, q⟩ := h
  cases rx
  obtain ⟨u, rfl, ru⟩ := rv.one
  cases ru
  obtain ⟨z, its, n, r, hl, e⟩ := I.lstM hH
  obtain ⟨its2, r2, ⟨o, e2, hc, n2, hd⟩, _⟩ := I.tuple hB
  obtain ⟨oc, od, odt, osl⟩ := o
  cases hc
  cases hd
  have hl2 := r2.length
  have hsz : its.toArray.size + its2.toArray.size ≤ sizeLine := by
    rw [List.size_toArray, List.size_toArray]
    omega
  have hlong : ¬ (!its.toArray.isEmpty && Builtin.List.listTooLong (its.toArray.size + its2.toArray.size)) = true := by
    rw [notLongL hsz, Bool.and_false]
    exact Bool.false_ne_true
  refine call_meets F.slot_list_extend ⟨_, e, rfl⟩ F.entry_list_extend (F.args_list_extend_2 _ _) (ext_tup l its.toArray n b its2.toArray n2 _ _ hlong (by rw [List.size_toArray]; omega) (by omega)) ⟨e, e2, ?_⟩
  refine ⟨.non, _, I.lset (its' := its ++ its2) hH e (by simp) (r.append r2) ?_, rfl, q⟩
  rw [List.length_append]
  omega
theorem mt_extTK {X : Cx} {K : PySem.W.Frag} (hK : X.K = K) : MtM X "list.extend" (rExtT K) := by
  subst hK
  exact mt_extT
end Gd

set_option Elab.async false
set_option linter.all false
set_option maxRecDepth 100000
set_option maxHeartbeats 1000000
namespace K14
open PySem PySem.Spec PyProof.Rows L2 Gd
def top (i : Nat) : Stmt := PySem.Challenge.pw_stepforms_k14_whole_corners.main.body.getD i (.Pass ⟨0, 0, 0, 0⟩)
abbrev s_is_number : Stmt := top 4
abbrev n_is_number : List Str := ["thing"]
abbrev p_is_number : List Str := ["thing"]
theorem sc_is_number : FnScope n_is_number p_is_number (defScope s_is_number) := ⟨rfl, rfl, rfl, by decide +kernel, rfl, by decide +kernel, by decide +kernel⟩
theorem bn_is_number : BndOk "is_number" s_is_number p_is_number := fun _ _ _ _ _ _ us hl => match us, hl with | [_], _ => rfl
abbrev s_unit : Stmt := top 6
abbrev n_unit : List Str := ["n", "k"]
abbrev p_unit : List Str := ["n"]
theorem sc_unit : FnScope n_unit p_unit (defScope s_unit) := ⟨rfl, rfl, rfl, by decide +kernel, rfl, by decide +kernel, by decide +kernel⟩
theorem bn_unit : BndOk "unit" s_unit p_unit := fun _ _ _ _ _ _ us hl => match us, hl with | [_], _ => rfl
abbrev s_unit_row : Stmt := top 7
abbrev n_unit_row : List Str := ["n", "k", "column"]
abbrev p_unit_row : List Str := ["n", "k"]
theorem sc_unit_row : FnScope n_unit_row p_unit_row (defScope s_unit_row) := ⟨rfl, rfl, rfl, by decide +kernel, rfl, by decide +kernel, by decide +kernel⟩
theorem bn_unit_row : BndOk "unit_row" s_unit_row p_unit_row := fun _ _ _ _ _ _ us hl => match us, hl with | [_, _], _ => rfl
abbrev s_row_sum : Stmt := top 8
abbrev n_row_sum : List Str := ["one", "other", "number", "more"]
abbrev p_row_sum : List Str := ["one", "other"]
theorem sc_row_sum : FnScope n_row_sum p_row_sum (defScope s_row_sum) := ⟨rfl, rfl, rfl, by decide +kernel, rfl, by decide +kernel, by decide +kernel⟩
theorem bn_row_sum : BndOk "row_sum" s_row_sum p_row_sum := fun _ _ _ _ _ _ us hl => match us, hl with | [_, _], _ => rfl
abbrev s_row_scaled : Stmt := top 9
abbrev n_row_scaled : List Str := ["row", "number", "other"]
abbrev p_row_scaled : List Str := ["row", "number"]
theorem sc_row_scaled : FnScope n_row_scaled p_row_scaled (defScope s_row_scaled) := ⟨rfl, rfl, rfl, by decide +kernel, rfl, by decide +kernel, by decide +kernel⟩
theorem bn_row_scaled : BndOk "row_scaled" s_row_scaled p_row_scaled := fun _ _ _ _ _ _ us hl => match us, hl with | [_, _], _ => rfl
abbrev s_row_times : Stmt := top 10
abbrev n_row_times : List Str := ["row", "table", "wide", "rows", "k", "number", "other"]
abbrev p_row_times : List Str := ["row", "table"]
theorem sc_row_times : FnScope n_row_times p_row_times (defScope s_row_times) := ⟨rfl, rfl, rfl, by decide +kernel, rfl, by decide +kernel, by decide +kernel⟩
theorem bn_row_times : BndOk "row_times" s_row_times p_row_times := fun _ _ _ _ _ _ us hl => match us, hl with | [_, _], _ => rfl
abbrev s_times : Stmt := top 11
abbrev n_times : List Str := ["one", "other", "row"]
abbrev p_times : List Str := ["one", "other"]
theorem sc_times : FnScope n_times p_times (defScope s_times) := ⟨rfl, rfl, rfl, by decide +kernel, rfl, by decide +kernel, by decide +kernel⟩
theorem bn_times : BndOk "times" s_times p_times := fun _ _ _ _ _ _ us hl => match us, hl with | [_, _], _ => rfl
abbrev s_turned_over : Stmt := top 12
abbrev n_turned_over : List Str := ["table", "wide", "rows", "k", "row"]
abbrev p_turned_over : List Str := ["table"]
theorem sc_turned_over : FnScope n_turned_over p_turned_over (defScope s_turned_over) := ⟨rfl, rfl, rfl, by decide +kernel, rfl, by decide +kernel, by decide +kernel⟩
theorem bn_turned_over : BndOk "turned_over" s_turned_over p_turned_over := fun _ _ _ _ _ _ us hl => match us, hl with | [_], _ => rfl
abbrev s_choices : Stmt := top 14
abbrev n_choices : List Str := ["many", "k", "found", "size", "chosen", "n"]
abbrev p_choices : List Str := ["many", "k"]
theorem sc_choices : FnScope n_choices p_choices (defScope s_choices) := ⟨rfl, rfl, rfl, by decide +kernel, rfl, by decide +kernel, by decide +kernel⟩
theorem bn_choices : BndOk "choices" s_choices p_choices := fun _ _ _ _ _ _ us hl => match us, hl with | [_, _], _ => rfl
abbrev s_without : Stmt := top 15
abbrev n_without : List Str := ["things", "place"]
abbrev p_without : List Str := ["things", "place"]
theorem sc_without : FnScope n_without p_without (defScope s_without) := ⟨rfl, rfl, rfl, by decide +kernel, rfl, by decide +kernel, by decide +kernel⟩
theorem bn_without : BndOk "without" s_without p_without := fun _ _ _ _ _ _ us hl => match us, hl with | [_, _], _ => rfl
abbrev s_corner_by_first_row : Stmt := top 16
abbrev n_corner_by_first_row : List Str := ["row", "columns", "corners", "total", "place", "column", "part"]
abbrev p_corner_by_first_row : List Str := ["row", "columns", "corners"]
theorem sc_corner_by_first_row : FnScope n_corner_by_first_row p_corner_by_first_row (defScope s_corner_by_first_row) := ⟨rfl, rfl, rfl, by decide +kernel, rfl, by decide +kernel, by decide +kernel⟩
theorem bn_corner_by_first_row : BndOk "corner_by_first_row" s_corner_by_first_row p_corner_by_first_row := fun _ _ _ _ _ _ us hl => match us, hl with | [_, _, _], _ => rfl
abbrev s_corners_by_columns : Stmt := top 17
abbrev n_corners_by_columns : List Str := ["wide", "rows", "corners", "size", "row", "columns"]
abbrev p_corners_by_columns : List Str := ["wide", "rows"]
theorem sc_corners_by_columns : FnScope n_corners_by_columns p_corners_by_columns (defScope s_corners_by_columns) := ⟨rfl, rfl, rfl, by decide +kernel, rfl, by decide +kernel, by decide +kernel⟩
theorem bn_corners_by_columns : BndOk "corners_by_columns" s_corners_by_columns p_corners_by_columns := fun _ _ _ _ _ _ us hl => match us, hl with | [_, _], _ => rfl
abbrev s_corner_of : Stmt := top 18
abbrev n_corner_of : List Str := ["table", "wide", "rows"]
abbrev p_corner_of : List Str := ["table"]
theorem sc_corner_of : FnScope n_corner_of p_corner_of (defScope s_corner_of) := ⟨rfl, rfl, rfl, by decide +kernel, rfl, by decide +kernel, by decide +kernel⟩
theorem bn_corner_of : BndOk "corner_of" s_corner_of p_corner_of := fun _ _ _ _ _ _ us hl => match us, hl with | [_], _ => rfl
abbrev s_corners_of : Stmt := top 19
abbrev n_corners_of : List Str := ["table", "k", "wide", "rows", "found", "chosen", "corners", "at", "columns"]
abbrev p_corners_of : List Str := ["table", "k"]
theorem sc_corners_of : FnScope n_corners_of p_corners_of (defScope s_corners_of) := ⟨rfl, rfl, rfl, by decide +kernel, rfl, by decide +kernel, by decide +kernel⟩
theorem bn_corners_of : BndOk "corners_of" s_corners_of p_corners_of := fun _ _ _ _ _ _ us hl => match us, hl with | [_, _], _ => rfl
abbrev s_is_row_number : Stmt := top 21
abbrev n_is_row_number : List Str := ["many", "thing"]
abbrev p_is_row_number : List Str := ["many", "thing"]
theorem sc_is_row_number : FnScope n_is_row_number p_is_row_number (defScope s_is_row_number) := ⟨rfl, rfl, rfl, by decide +kernel, rfl, by decide +kernel, by decide +kernel⟩
theorem bn_is_row_number : BndOk "is_row_number" s_is_row_number p_is_row_number := fun _ _ _ _ _ _ us hl => match us, hl with | [_, _], _ => rfl
abbrev s_are_two_rows : Stmt := top 22
abbrev n_are_two_rows : List Str := ["many", "one", "other"]
abbrev p_are_two_rows : List Str := ["many", "one", "other"]
theorem sc_are_two_rows : FnScope n_are_two_rows p_are_two_rows (defScope s_are_two_rows) := ⟨rfl, rfl, rfl, by decide +kernel, rfl, by decide +kernel, by decide +kernel⟩
theorem bn_are_two_rows : BndOk "are_two_rows" s_are_two_rows p_are_two_rows := fun _ _ _ _ _ _ us hl => match us, hl with | [_, _, _], _ => rfl
abbrev s_is_deed : Stmt := top 23
abbrev n_is_deed : List Str := ["many", "thing", "word"]
abbrev p_is_deed : List Str := ["many", "thing"]
theorem sc_is_deed : FnScope n_is_deed p_is_deed (defScope s_is_deed) := ⟨rfl, rfl, rfl, by decide +kernel, rfl, by decide +kernel, by decide +kernel⟩
theorem bn_is_deed : BndOk "is_deed" s_is_deed p_is_deed := fun _ _ _ _ _ _ us hl => match us, hl with | [_, _], _ => rfl
abbrev s_refuse_other_than_deeds : Stmt := top 24
abbrev n_refuse_other_than_deeds : List Str := ["many", "thing", "place", "deed"]
abbrev p_refuse_other_than_deeds : List Str := ["many", "thing"]
theorem sc_refuse_other_than_deeds : FnScope n_refuse_other_than_deeds p_refuse_other_than_deeds (defScope s_refuse_other_than_deeds) := ⟨rfl, rfl, rfl, by decide +kernel, rfl, by decide +kernel, by decide +kernel⟩
theorem bn_refuse_other_than_deeds : BndOk "refuse_other_than_deeds" s_refuse_other_than_deeds p_refuse_other_than_deeds := fun _ _ _ _ _ _ us hl => match us, hl with | [_, _], _ => rfl
abbrev s_do_deed : Stmt := top 25
abbrev n_do_deed : List Str := ["rows", "deed", "word", "i", "j"]
abbrev p_do_deed : List Str := ["rows", "deed"]
theorem sc_do_deed : FnScope n_do_deed p_do_deed (defScope s_do_deed) := ⟨rfl, rfl, rfl, by decide +kernel, rfl, by decide +kernel, by decide +kernel⟩
theorem bn_do_deed : BndOk "do_deed" s_do_deed p_do_deed := fun _ _ _ _ _ _ us hl => match us, hl with | [_, _], _ => rfl
abbrev s_done : Stmt := top 26
abbrev n_done : List Str := ["table", "deeds", "wide", "rows", "led", "deed"]
abbrev p_done : List Str := ["table", "deeds"]
theorem sc_done : FnScope n_done p_done (defScope s_done) := ⟨rfl, rfl, rfl, by decide +kernel, rfl, by decide +kernel, by decide +kernel⟩
theorem bn_done : BndOk "done" s_done p_done := fun _ _ _ _ _ _ us hl => match us, hl with | [_, _], _ => rfl
abbrev s_deeds_table : Stmt := top 27
abbrev n_deeds_table : List Str := ["many", "deeds"]
abbrev p_deeds_table : List Str := ["many", "deeds"]
theorem sc_deeds_table : FnScope n_deeds_table p_deeds_table (defScope s_deeds_table) := ⟨rfl, rfl, rfl, by decide +kernel, rfl, by decide +kernel, by decide +kernel⟩
theorem bn_deeds_table : BndOk "deeds_table" s_deeds_table p_deeds_table := fun _ _ _ _ _ _ us hl => match us, hl with | [_, _], _ => rfl
abbrev s_l_feed : Stmt := top 29
abbrev n_l_feed : List Str := ["_law_script"]
abbrev p_l_feed : List Str := ["_law_script"]
theorem sc_l_feed : FnScope n_l_feed p_l_feed (defScope s_l_feed) := ⟨rfl, rfl, rfl, by decide +kernel, rfl, by decide +kernel, by decide +kernel⟩
theorem bn_l_feed : BndOk "_law_feed" s_l_feed p_l_feed := fun _ _ _ _ _ _ us hl => match us, hl with | [_], _ => rfl
abbrev s_l_draw : Stmt := top 30
abbrev n_l_draw : List Str := ["_law_feed_here", "_law_many_here", "_law_found", "_law_cell", "_law_mixed"]
abbrev p_l_draw : List Str := ["_law_feed_here", "_law_many_here"]
theorem sc_l_draw : FnScope n_l_draw p_l_draw (defScope s_l_draw) := ⟨rfl, rfl, rfl, by decide +kernel, rfl, by decide +kernel, by decide +kernel⟩
theorem bn_l_draw : BndOk "_law_draw" s_l_draw p_l_draw := fun _ _ _ _ _ _ us hl => match us, hl with | [_, _], _ => rfl
abbrev s_l_number : Stmt := top 31
abbrev n_l_number : List Str := ["_law_feed_here", "_law_way"]
abbrev p_l_number : List Str := ["_law_feed_here"]
theorem sc_l_number : FnScope n_l_number p_l_number (defScope s_l_number) := ⟨rfl, rfl, rfl, by decide +kernel, rfl, by decide +kernel, by decide +kernel⟩
theorem bn_l_number : BndOk "_law_number" s_l_number p_l_number := fun _ _ _ _ _ _ us hl => match us, hl with | [_], _ => rfl
abbrev s_l_rows : Stmt := top 32
abbrev n_l_rows : List Str := ["_law_feed_here", "_law_many_here", "_law_wide", "_law_rows_here", "_law_k", "_law_way", "_law_row", "_law_j", "_law_number_here"]
abbrev p_l_rows : List Str := ["_law_feed_here", "_law_many_here", "_law_wide"]
theorem sc_l_rows : FnScope n_l_rows p_l_rows (defScope s_l_rows) := ⟨rfl, rfl, rfl, by decide +kernel, rfl, by decide +kernel, by decide +kernel⟩
theorem bn_l_rows : BndOk "_law_rows" s_l_rows p_l_rows := fun _ _ _ _ _ _ us hl => match us, hl with | [_, _, _], _ => rfl
abbrev s_l_table : Stmt := top 33
abbrev n_l_table : List Str := ["_law_feed_here", "_law_many_here", "_law_wide"]
abbrev p_l_table : List Str := ["_law_feed_here", "_law_many_here", "_law_wide"]
theorem sc_l_table : FnScope n_l_table p_l_table (defScope s_l_table) := ⟨rfl, rfl, rfl, by decide +kernel, rfl, by decide +kernel, by decide +kernel⟩
theorem bn_l_table : BndOk "_law_table" s_l_table p_l_table := fun _ _ _ _ _ _ us hl => match us, hl with | [_, _, _], _ => rfl
abbrev s_l_deed : Stmt := top 34
abbrev n_l_deed : List Str := ["_law_feed_here", "_law_many_here", "_law_i", "_law_way", "_law_j"]
abbrev p_l_deed : List Str := ["_law_feed_here", "_law_many_here"]
theorem sc_l_deed : FnScope n_l_deed p_l_deed (defScope s_l_deed) := ⟨rfl, rfl, rfl, by decide +kernel, rfl, by decide +kernel, by decide +kernel⟩
theorem bn_l_deed : BndOk "_law_deed" s_l_deed p_l_deed := fun _ _ _ _ _ _ us hl => match us, hl with | [_, _], _ => rfl
abbrev s_l_deeds : Stmt := top 35
abbrev n_l_deeds : List Str := ["_law_feed_here", "_law_many_here", "_law_most", "_law_k"]
abbrev p_l_deeds : List Str := ["_law_feed_here", "_law_many_here", "_law_most"]
theorem sc_l_deeds : FnScope n_l_deeds p_l_deeds (defScope s_l_deeds) := ⟨rfl, rfl, rfl, by decide +kernel, rfl, by decide +kernel, by decide +kernel⟩
theorem bn_l_deeds : BndOk "_law_deeds" s_l_deeds p_l_deeds := fun _ _ _ _ _ _ us hl => match us, hl with | [_, _, _], _ => rfl
abbrev s_l_common : Stmt := top 36
abbrev n_l_common : List Str := ["_law_some", "_law_found", "_law_number_here", "_law_one", "_law_other"]
abbrev p_l_common : List Str := ["_law_some"]
theorem sc_l_common : FnScope n_l_common p_l_common (defScope s_l_common) := ⟨rfl, rfl, rfl, by decide +kernel, rfl, by decide +kernel, by decide +kernel⟩
theorem bn_l_common : BndOk "_law_common" s_l_common p_l_common := fun _ _ _ _ _ _ us hl => match us, hl with | [_], _ => rfl
abbrev s_l_many : Stmt := top 37
abbrev n_l_many : List Str := ["_law_n", "_law_k", "_law_found", "_law_j"]
abbrev p_l_many : List Str := ["_law_n", "_law_k"]
theorem sc_l_many : FnScope n_l_many p_l_many (defScope s_l_many) := ⟨rfl, rfl, rfl, by decide +kernel, rfl, by decide +kernel, by decide +kernel⟩
theorem bn_l_many : BndOk "_law_many" s_l_many p_l_many := fun _ _ _ _ _ _ us hl => match us, hl with | [_, _], _ => rfl
abbrev s_l_square_right : Stmt := top 38
abbrev n_l_square_right : List Str := ["_law_one", "_law_other", "_law_deeds_here", "_law_corner", "_law_turned", "_law_numbers", "_law_row", "_law_deed_here"]
abbrev p_l_square_right : List Str := ["_law_one", "_law_other", "_law_deeds_here"]
theorem sc_l_square_right : FnScope n_l_square_right p_l_square_right (defScope s_l_square_right) := ⟨rfl, rfl, rfl, by decide +kernel, rfl, by decide +kernel, by decide +kernel⟩
theorem bn_l_square_right : BndOk "_law_square_right" s_l_square_right p_l_square_right := fun _ _ _ _ _ _ us hl => match us, hl with | [_, _, _], _ => rfl
abbrev s_l_sums : Stmt := top 39
abbrev n_l_sums : List Str := ["_law_one", "_law_other", "_law_k", "_law_left", "_law_right", "_law_many_here", "_law_middle", "_law_wide", "_law_found", "_law_a", "_law_b", "_law_m"]
abbrev p_l_sums : List Str := ["_law_one", "_law_other", "_law_k"]
theorem sc_l_sums : FnScope n_l_sums p_l_sums (defScope s_l_sums) := ⟨rfl, rfl, rfl, by decide +kernel, rfl, by decide +kernel, by decide +kernel⟩
theorem bn_l_sums : BndOk "_law_sums" s_l_sums p_l_sums := fun _ _ _ _ _ _ us hl => match us, hl with | [_, _, _], _ => rfl
abbrev s_l_parts_right : Stmt := top 40
abbrev n_l_parts_right : List Str := ["_law_one", "_law_other", "_law_deeds_here", "_law_product", "_law_k"]
abbrev p_l_parts_right : List Str := ["_law_one", "_law_other", "_law_deeds_here"]
theorem sc_l_parts_right : FnScope n_l_parts_right p_l_parts_right (defScope s_l_parts_right) := ⟨rfl, rfl, rfl, by decide +kernel, rfl, by decide +kernel, by decide +kernel⟩
theorem bn_l_parts_right : BndOk "_law_parts_right" s_l_parts_right p_l_parts_right := fun _ _ _ _ _ _ us hl => match us, hl with | [_, _, _], _ => rfl
abbrev s_l_signed : Stmt := top 41
abbrev n_l_signed : List Str := ["_law_deeds_here", "_law_deed_here"]
abbrev p_l_signed : List Str := ["_law_deeds_here"]
theorem sc_l_signed : FnScope n_l_signed p_l_signed (defScope s_l_signed) := ⟨rfl, rfl, rfl, by decide +kernel, rfl, by decide +kernel, by decide +kernel⟩
theorem bn_l_signed : BndOk "_law_signed" s_l_signed p_l_signed := fun _ _ _ _ _ _ us hl => match us, hl with | [_], _ => rfl
abbrev s_l_more_right : Stmt := top 42
abbrev n_l_more_right : List Str := ["_law_feed_here", "_law_many_here", "_law_deeds_here", "_law_more", "_law_first", "_law_second"]
abbrev p_l_more_right : List Str := ["_law_feed_here"]
theorem sc_l_more_right : FnScope n_l_more_right p_l_more_right (defScope s_l_more_right) := ⟨rfl, rfl, rfl, by decide +kernel, rfl, by decide +kernel, by decide +kernel⟩
theorem bn_l_more_right : BndOk "_law_more_right" s_l_more_right p_l_more_right := fun _ _ _ _ _ _ us hl => match us, hl with | [_], _ => rfl
abbrev s_law : Stmt := top 43
abbrev n_law : List Str := ["_law_script", "_law_feed_here", "_law_turn", "_law_n", "_law_one", "_law_other", "_law_deeds_here", "_law_many_here", "_law_middle", "_law_wide", "_law_first", "_law_second", "_law_more", "_law_kept", "_law_greater"]
abbrev p_law : List Str := ["_law_script"]
theorem sc_law : FnScope n_law p_law (defScope s_law) := ⟨rfl, rfl, rfl, by decide +kernel, rfl, by decide +kernel, by decide +kernel⟩
theorem bn_law : BndOk "law" s_law p_law := fun _ _ _ _ _ _ us hl => match us, hl with | [_], _ => rfl
structure Bn (mg : Str → Option Value) : Prop where
  isinstance_ : mg "isinstance" = none
  int_ : mg "int" = none
  bool_ : mg "bool" = none
  tuple_ : mg "tuple" = none
  range_ : mg "range" = none
  zip_ : mg "zip" = none
  sum_ : mg "sum" = none
  len_ : mg "len" = none
  enumerate_ : mg "enumerate" = none
  list_ : mg "list" = none
  abs_ : mg "abs" = none
  repr_ : mg "repr" = none
variable {P : Program} {w : World} {K : PySem.W.Frag} {mg : Str → Option Value} {base : Heap}
def spIsNum : Sp := fun vs H Q _ => ∃ i : Int, vs = [.int i] ∧ Q (.bl true) H
theorem ok_is_number (D : Df K mg "is_number" s_is_number) (B : Bn mg) : Has P w K mg base "is_number" 1 p_is_number spIsNum := by
  refine has_of (k := 0) D sc_is_number bn_is_number ?_ ?_
  · rintro vs H Q E ⟨i, rfl, _⟩
    rfl
  rintro f cdv A outer s0 H vs Q E hr ⟨i, rfl, k⟩
  refine ⟨_, (pss_one (ps_ret (pe_and (pe_callB (call_isiK (K := K) (by rfl)) (by rfl) B.isinstance_ (by decide +kernel) (pa_cons (pv 0) (pa_cons (pe_bltn (v := .ty "int") (u := .type "int") (by rfl) B.int_ (by decide +kernel) rfl) pa_nil))) (pe_one (pe_not (pe_callB (call_isiK (K := K) (by rfl)) (by rfl) B.isinstance_ (by decide +kernel) (pa_cons (pv 0) (pa_cons (pe_bltn (v := .ty "bool") (u := .type "bool") (by rfl) B.bool_ (by decide +kernel) rfl) pa_nil)))))))), ?_⟩
  refine ⟨_, rfl, _, _, _, _, true, rfl, .ty "int", .base (.int i), kit_ty (by decide +kernel), true, rfl, iteT ?_⟩
  exact ⟨_, rfl, _, _, _, _, false, rfl, .ty "bool", .base (.int i), kit_ty (by decide +kernel), false, rfl, k⟩
def spRowNum : Sp := fun vs H Q _ => ∃ m i : Nat, vs = [.int m, .int i] ∧ i < m ∧ Q (.bl true) H
theorem ok_is_row_number (D : Df K mg "is_row_number" s_is_row_number) (B : Bn mg) (h_is_number : Has P w K mg base "is_number" 1 p_is_number spIsNum) :
    Has P w K mg base "is_row_number" 2 p_is_row_number spRowNum := by
  refine has_of (k := 1) D sc_is_row_number bn_is_row_number ?_ ?_
  · rintro vs H Q E ⟨m, i, rfl, _⟩
    rfl
  rintro f cdv A outer s0 H vs Q E hr ⟨m, i, rfl, hi, k⟩
  refine ⟨_, (pss_one (ps_ret (pe_and (pe_has (h_is_number) (hr.mono (by first | decide | omega)) (by rfl) (pa_cons (pv 1) pa_nil)) (pe_one (pe_chain op_le op_lt pe_int (pv 1) (pv 0)))))), ?_⟩
  refine ⟨_, rfl, _, rfl, true, rfl, iteT ?_⟩
  refine ⟨_, rfl, _, _, rfl, rfl, _, rfl, ?_⟩
  rw [decide_eq_true (show (0 : Int) ≤ (i : Int) by omega)]
  refine iteT ?_
  refine ⟨_, rfl, _, _, rfl, rfl, ?_⟩
  show Q (.bl (decide ((i : Int) < (m : Int)))) H
  rw [decide_eq_true (show (i : Int) < (m : Int) by omega)]
  exact k
def spTwoRows : Sp := fun vs H Q _ => ∃ m i j : Nat, vs = [.int m, .int i, .int j] ∧ i < m ∧ j < m ∧ i ≠ j ∧ Q (.bl true) H
theorem ok_are_two_rows (D : Df K mg "are_two_rows" s_are_two_rows) (B : Bn mg) (h_is_row_number : Has P w K mg base "is_row_number" 2 p_is_row_number spRowNum) :
    Has P w K mg base "are_two_rows" 3 p_are_two_rows spTwoRows := by
  refine has_of (k := 2) D sc_are_two_rows bn_are_two_rows ?_ ?_
  · rintro vs H Q E ⟨m, i, j, rfl, _⟩
    rfl
  rintro f cdv A outer s0 H vs Q E hr ⟨m, i, j, rfl, hi, hj, hij, k⟩
  refine ⟨_, (pss_one (ps_ret (pe_and (pe_has (h_is_row_number) (hr.mono (by first | decide | omega)) (by rfl) (pa_cons (pv 0) (pa_cons (pv 1) pa_nil))) (pe_and (pe_has (h_is_row_number) (hr.mono (by first | decide | omega)) (by rfl) (pa_cons (pv 0) (pa_cons (pv 2) pa_nil))) (pe_one (pe_cmpR op_ne (pv 1) (pv 2) (nomark _))))))), ?_⟩
  refine ⟨_, rfl, _, rfl, m, i, rfl, hi, true, rfl, iteT ?_⟩
  refine ⟨_, rfl, _, rfl, m, j, rfl, hj, true, rfl, iteT ?_⟩
  refine ⟨_, rfl, _, rfl, rfl, ?_⟩
  have e : (!decide (V.int (i : Int) = V.int (j : Int))) = true := by
    rw [decide_eq_false (fun z => hij (by have := V.int.inj z; omega))]
    rfl
  rw [e]
  exact k
def spIsDeed (K : PySem.W.Frag) : Sp := fun vs H Q _ => ∃ (m : Nat) (v : V) (d : Deed) (b : Int), vs = [.int m, v] ∧ Dp K H v (deedD d) ∧ OkD m b d ∧ Q (.bl true) H
theorem str_ne {x y : Str} (h : x ≠ y) : decide (V.str x = V.str y) = false := decide_eq_false fun z => h (V.str.inj z)
theorem ok_is_deed (D : Df K mg "is_deed" s_is_deed) (B : Bn mg) (h_is_number : Has P w K mg base "is_number" 1 p_is_number spIsNum)
    (h_is_row_number : Has P w K mg base "is_row_number" 2 p_is_row_number spRowNum) (h_are_two_rows : Has P w K mg base "are_two_rows" 3 p_are_two_rows spTwoRows) :
    Has P w K mg base "is_deed" 4 p_is_deed (spIsDeed K) := by
  refine has_of (k := 3) D sc_is_deed bn_is_deed ?_ ?_
  · rintro vs H Q E ⟨m, v, d, b, rfl, _⟩
    rfl
  rintro f cdv A outer s0 H vs Q E hr ⟨m, v, d, b, rfl, hd, ok, k⟩
  refine ⟨_, (Evl.pss_cut (ps_if (PW.pt (pw_or (pt_not (pt_val (pe_callB (call_isiK (K := K) (by rfl)) (by rfl) B.isinstance_ (by decide +kernel) (pa_cons (pv 1) (pa_cons (pe_bltn (v := .ty "tuple") (u := .type "tuple") (by rfl) B.tuple_ (by decide +kernel) rfl) pa_nil))))) (pw_or1 (pt_cmpR op_lt (pe_callB (call_lenK (K := K) (by rfl)) (by rfl) B.len_ (by decide +kernel) (pa_cons (pv 1) pa_nil)) pe_int (nomark _))))) (pss_one (ps_ret pe_bl)) pss_nil)
      (pss_cons (ps_asg (pe_ix (ix_tupK (K := K) (by rfl)) (pv 1) pe_int (fun _ _ => rfl)) (pg_name (i := 2) sc_is_deed.nd rfl (by first | exact Or.inl rfl | exact Or.inr rfl)))
      (pss_cons (ps_if (pt_cmpR op_eq (pv 2) pe_str (nomark _)) (pss_one (ps_ret (pe_and (pe_cmpR op_eq (pe_callB (call_lenK (K := K) (by rfl)) (by rfl) B.len_ (by decide +kernel) (pa_cons (pv 1) pa_nil)) pe_int (nomark _)) (pe_one (pe_has (h_are_two_rows) (hr.mono (by first | decide | omega)) (by rfl) (pa_cons (pv 0) (pa_cons (pe_ix (ix_tupK (K := K) (by rfl)) (pv 1) pe_int (fun _ _ => rfl)) (pa_cons (pe_ix (ix_tupK (K := K) (by rfl)) (pv 1) pe_int (fun _ _ => rfl)) pa_nil)))))))) pss_nil)
      (pss_cons (ps_if (pt_cmpR op_eq (pv 2) pe_str (nomark _)) (pss_one (ps_ret (pe_and (pe_cmpR op_eq (pe_callB (call_lenK (K := K) (by rfl)) (by rfl) B.len_ (by decide +kernel) (pa_cons (pv 1) pa_nil)) pe_int (nomark _)) (pe_one (pe_has (h_is_row_number) (hr.mono (by first | decide | omega)) (by rfl) (pa_cons (pv 0) (pa_cons (pe_ix (ix_tupK (K := K) (by rfl)) (pv 1) pe_int (fun _ _ => rfl)) pa_nil))))))) pss_nil)
      (pss_cons (ps_if (pt_cmpR op_eq (pv 2) pe_str (nomark _)) (pss_one (ps_ret (pe_and (pe_cmpR op_eq (pe_callB (call_lenK (K := K) (by rfl)) (by rfl) B.len_ (by decide +kernel) (pa_cons (pv 1) pa_nil)) pe_int (nomark _)) (pe_and (pe_has (h_are_two_rows) (hr.mono (by first | decide | omega)) (by rfl) (pa_cons (pv 0) (pa_cons (pe_ix (ix_tupK (K := K) (by rfl)) (pv 1) pe_int (fun _ _ => rfl)) (pa_cons (pe_ix (ix_tupK (K := K) (by rfl)) (pv 1) pe_int (fun _ _ => rfl)) pa_nil)))) (pe_one (pe_has (h_is_number) (hr.mono (by first | decide | omega)) (by rfl) (pa_cons (pe_ix (ix_tupK (K := K) (by rfl)) (pv 1) pe_int (fun _ _ => rfl)) pa_nil))))))) pss_nil)
      (pss_one (ps_ret pe_bl))))))), ?_⟩
  cases d with
  | swap i j =>
    obtain ⟨a, xs, rfl, hs, ha⟩ := dp_tup hd
    obtain ⟨x0, t0, rfl, q0, ha⟩ := dpa_cons ha
    obtain ⟨x1, t1, rfl, q1, ha⟩ := dpa_cons ha
    obtain ⟨x2, t2, rfl, q2, ha⟩ := dpa_cons ha
    rw [dpa_nil ha] at hs
    cases q0
    cases q1
    cases q2
    obtain ⟨o1, o2, o3⟩ := ok
    refine ⟨fun σ' H' => H' = H ∧ σ' = [some (.int m), some (.ref a), none], ?_, ?_⟩
    · refine ⟨_, rfl, _, _, _, _, true, rfl, .ty "tuple", sqt_ty hs, kit_ty (by decide +kernel), _, rfl, iteF ?_⟩
      refine ⟨_, rfl, a, _, rfl, .inr hs, _, _, rfl, rfl, _, rfl, ?_⟩
      exact iteF ⟨rfl, rfl⟩
    · rintro σ' H' ⟨rfl, rfl⟩
      refine ⟨_, rfl, a, _, 0, _, rfl, rfl, hs, rfl, ?_⟩
      refine ⟨_, rfl, rfl, _, rfl, ?_⟩
      rw [decide_eq_true (rfl : V.str _ = V.str _)]
      refine iteT ?_
      refine ⟨_, rfl, a, _, rfl, .inr hs, rfl, true, rfl, iteT ?_⟩
      exact ⟨_, rfl, _, rfl, a, _, 1, _, rfl, rfl, hs, rfl, _, rfl, a, _, 2, _, rfl, rfl, hs, rfl, m, i, j, rfl, o1, o2, o3, k⟩
  | turn i =>
    obtain ⟨a, xs, rfl, hs, ha⟩ := dp_tup hd
    obtain ⟨x0, t0, rfl, q0, ha⟩ := dpa_cons ha
    obtain ⟨x1, t1, rfl, q1, ha⟩ := dpa_cons ha
    rw [dpa_nil ha] at hs
    cases q0
    cases q1
    refine ⟨fun σ' H' => H' = H ∧ σ' = [some (.int m), some (.ref a), none], ?_, ?_⟩
    · refine ⟨_, rfl, _, _, _, _, true, rfl, .ty "tuple", sqt_ty hs, kit_ty (by decide +kernel), _, rfl, iteF ?_⟩
      refine ⟨_, rfl, a, _, rfl, .inr hs, _, _, rfl, rfl, _, rfl, ?_⟩
      exact iteF ⟨rfl, rfl⟩
    · rintro σ' H' ⟨rfl, rfl⟩
      refine ⟨_, rfl, a, _, 0, _, rfl, rfl, hs, rfl, ?_⟩
      refine ⟨_, rfl, rfl, _, rfl, ?_⟩
      rw [str_ne (by decide +kernel)]
      refine iteF ?_
      refine ⟨_, rfl, rfl, _, rfl, ?_⟩
      rw [decide_eq_true (rfl : V.str _ = V.str _)]
      refine iteT ?_
      refine ⟨_, rfl, a, _, rfl, .inr hs, rfl, true, rfl, iteT ?_⟩
      exact ⟨_, rfl, _, rfl, a, _, 1, _, rfl, rfl, hs, rfl, m, i, rfl, ok, k⟩
  | add i j n =>
    obtain ⟨a, xs, rfl, hs, ha⟩ := dp_tup hd
    obtain ⟨x0, t0, rfl, q0, ha⟩ := dpa_cons ha
    obtain ⟨x1, t1, rfl, q1, ha⟩ := dpa_cons ha
    obtain ⟨x2, t2, rfl, q2, ha⟩ := dpa_cons ha
    obtain ⟨x3, t3, rfl, q3, ha⟩ := dpa_cons ha
    rw [dpa_nil ha] at hs
    cases q0
    cases q1
    cases q2
    cases q3
    obtain ⟨o1, o2, o3, o4, o5⟩ := ok
    refine ⟨fun σ' H' => H' = H ∧ σ' = [some (.int m), some (.ref a), none], ?_, ?_⟩
    · refine ⟨_, rfl, _, _, _, _, true, rfl, .ty "tuple", sqt_ty hs, kit_ty (by decide +kernel), _, rfl, iteF ?_⟩
      refine ⟨_, rfl, a, _, rfl, .inr hs, _, _, rfl, rfl, _, rfl, ?_⟩
      exact iteF ⟨rfl, rfl⟩
    · rintro σ' H' ⟨rfl, rfl⟩
      refine ⟨_, rfl, a, _, 0, _, rfl, rfl, hs, rfl, ?_⟩
      refine ⟨_, rfl, rfl, _, rfl, ?_⟩
      rw [str_ne (by decide +kernel)]
      refine iteF ?_
      refine ⟨_, rfl, rfl, _, rfl, ?_⟩
      rw [str_ne (by decide +kernel)]
      refine iteF ?_
      refine ⟨_, rfl, rfl, _, rfl, ?_⟩
      rw [decide_eq_true (rfl : V.str _ = V.str _)]
      refine iteT ?_
      refine ⟨_, rfl, a, _, rfl, .inr hs, rfl, true, rfl, iteT ?_⟩
      refine ⟨_, rfl, _, rfl, a, _, 1, _, rfl, rfl, hs, rfl, _, rfl, a, _, 2, _, rfl, rfl, hs, rfl, m, i, j, rfl, o1, o2, o3, true, rfl, iteT ?_⟩
      exact ⟨_, rfl, a, _, 3, _, rfl, rfl, hs, rfl, n, rfl, k⟩
def spRefuse (K : PySem.W.Frag) : Sp := fun vs H Q _ => ∃ (m : Nat) (v : V) (ds : List Deed) (b : Int), vs = [.int m, v] ∧ Dp K H v (deedsD ds) ∧ (∀ d ∈ ds, OkD m b d) ∧
  ∀ H', Same H H' → Q .non H'
theorem ok_refuse_other_than_deeds (D : Df K mg "refuse_other_than_deeds" s_refuse_other_than_deeds) (B : Bn mg) (h_is_deed : Has P w K mg base "is_deed" 4 p_is_deed (spIsDeed K)) :
    Has P w K mg base "refuse_other_than_deeds" 5 p_refuse_other_than_deeds (spRefuse K) := by
  refine has_of (k := 4) D sc_refuse_other_than_deeds bn_refuse_other_than_deeds ?_ ?_
  · rintro vs H Q E ⟨m, v, ds, b, rfl, _⟩
    rfl
  rintro f cdv A outer s0 H vs Q E hr ⟨m, v, ds, b, rfl, hd, ok, k⟩
  obtain ⟨a, xs, rfl, hs, ha⟩ := dp_tup hd
  refine ⟨_, (pss_cons (ps_if (pt_not (pt_val (pe_callB (call_isiK (K := K) (by rfl)) (by rfl) B.isinstance_ (by decide +kernel) (pa_cons (pv 1) (pa_cons (pe_bltn (v := .ty "tuple") (u := .type "tuple") (by rfl) B.tuple_ (by decide +kernel) rfl) pa_nil))))) (pss_one ps_never) pss_nil)
      (pss_one (ps_for PassesOwn.never rfl (pi_enumK (K := K) (by rfl) (by rfl) B.enumerate_ (pa_cons (pv 1) pa_nil)) (pg_tupK (K := K) (n := 2) (by rfl) (by rfl) (pgs_cons (pg_name (i := 2) sc_refuse_other_than_deeds.nd rfl (by first | exact Or.inl rfl | exact Or.inr rfl)) (pgs_cons (pg_name (i := 3) sc_refuse_other_than_deeds.nd rfl (by first | exact Or.inl rfl | exact Or.inr rfl)) pgs_nil))) (pss_one (ps_if (pt_not (pt_val (pe_has (h_is_deed) (hr.mono (by first | decide | omega)) (by rfl) (pa_cons (pv 0) (pa_cons (pv 3) pa_nil))))) (pss_one ps_never) pss_nil))))), ?_⟩
  refine ⟨_, rfl, _, _, _, _, true, rfl, .ty "tuple", sqt_ty hs, kit_ty (by decide +kernel), _, rfl, iteF ?_⟩
  refine ⟨_, rfl, a, xs, rfl, hs, for_enumT (K := K) (xs := xs) (fun i σ H' => Same H H' ∧ ∃ v2 v3 : Option V, σ = [some (.int m), some (.ref a), v2, v3]) ?_ ?_ ?_ ?_⟩
  · exact ⟨Same.refl H, _, _, rfl⟩
  · rintro i σ H' ⟨e, _⟩
    exact sqt_same e hs
  · rintro i x T σ H' hx ⟨e, v2, v3, rfl⟩ nT
    have eT := Same.new (o := .tup [.int (i : Nat), x]) nT
    refine ⟨T, _, rfl, SqT.of upd_same, rfl, _, _, rfl, _, _, rfl, rfl, ?_⟩
    obtain ⟨d, hd1, hd2⟩ := dpa_get _ _ i x (DpAll.same (e.trans eT) _ _ ha) hx
    rw [List.getElem?_map] at hd1
    cases q : ds[i]? with
    | none => rw [q] at hd1; cases hd1
    | some dd =>
      rw [q] at hd1
      cases hd1
      refine ⟨_, rfl, _, rfl, m, x, dd, b, rfl, hd2, ok dd (List.mem_of_getElem? q), _, rfl, iteF ?_⟩
      exact ⟨e.trans eT, _, _, rfl⟩
  · rintro σ H' ⟨e, v2, v3, rfl⟩
    exact k H' e
def Wd (r : List Int) : Prop := ∀ x ∈ r, x.natAbs < 2 ^ 4000
theorem Wd.at {r : List Int} (h : Wd r) (i : Nat) : (r.getD i 0).natAbs < 2 ^ 4000 := by
  by_cases hi : i < r.length
  · exact h _ (Gd.getD_mem hi)
  · rw [List.getD_eq_getElem?_getD, List.getElem?_eq_none (by omega)]
    exact Nat.pow_pos (by decide)
theorem one_wide : (-1 : Int).natAbs < 2 ^ 4000 := Nat.one_lt_two_pow (by decide)
def spScaled (K : PySem.W.Frag) : Sp := fun vs H Q _ => ∃ (v : V) (r : List Int) (n : Int), vs = [v, .int n] ∧ Dp K H v (rowD r) ∧ r.length ≤ 1000 ∧ Wd r ∧ n.natAbs < 2 ^ 4000 ∧
  ∀ y H', Same H H' → Dp K H' y (rowD (scaleR r n)) → Q y H'
theorem ok_row_scaled (D : Df K mg "row_scaled" s_row_scaled) (B : Bn mg) : Has P w K mg base "row_scaled" 1 p_row_scaled (spScaled K) := by
  refine has_of (k := 0) D sc_row_scaled bn_row_scaled ?_ ?_
  · rintro vs H Q E ⟨v, r, n, rfl, _⟩
    rfl
  rintro f cdv A outer s0 H vs Q E hr ⟨v, r, n, rfl, hv, hl, hw, hn, k⟩
  obtain ⟨p, rfl, hp⟩ := dp_row hv
  refine ⟨_, (pss_one (ps_ret (pe_callTy (call_tupleK (K := K) (by rfl)) (by rfl) B.tuple_ (by decide +kernel) (pa_cons (pe_lc (own := [("other", 2)]) rfl sc_row_scaled.nd (pi_tupK (K := K) (by rfl) (pv 0)) (blkOk_by (own := [("other", 2)]) (N := n_row_scaled) (sc := defScope s_row_scaled) (by decide +kernel)) (fun _ _ _ _ _ => (pg_name (i := 2) sc_row_scaled.nd rfl (by first | exact Or.inl rfl | exact Or.inr rfl))) (fun _ _ _ _ _ => pts_nil) (fun _ _ _ _ _ => (pe_op op_mulW (pv 1) (pv 2)))) pa_nil)))), ?_⟩
  refine ⟨_, rfl, p, rfl, ⟨_, hp⟩, fun D1 hD1 => ?_⟩
  refine lct (K := K) (j := 2) (fun c => .int (n * r.getD c 0)) hD1 hp (by rw [List.length_map]; omega) (fun _ _ => by simp [tupOnly]) (fun _ => rfl) ?_ ?_
  · intro i x H1 Q1 hx e1 k1
    obtain ⟨hi, rfl⟩ := row_get hx
    exact ⟨_, rfl, _, rfl, _, _, rfl, rfl, wide_mul hn (hw.at i) (by decide) (by decide) (by decide), k1 _ _ (Same.refl _) (.int _)⟩
  · intro H1 ys e1 h1 hd1
    rw [List.length_map] at hd1
    try dsimp only [tC, tNil]
    refine tupL_dp h1 hd1 fun v2 H2 e2 hv2 => ?_
    rw [mapR_row] at hv2
    exact k _ _ (e1.trans e2) hv2
def spRowSum (K : PySem.W.Frag) : Sp := fun vs H Q _ => ∃ (v u : V) (r t : List Int), vs = [v, u] ∧ Dp K H v (rowD r) ∧ Dp K H u (rowD t) ∧ r.length = t.length ∧ r.length ≤ 1000 ∧
  ∀ y H', Same H H' → Dp K H' y (rowD (sumRow r t)) → Q y H'
theorem ok_row_sum (D : Df K mg "row_sum" s_row_sum) (B : Bn mg) : Has P w K mg base "row_sum" 1 p_row_sum (spRowSum K) := by
  refine has_of (k := 0) D sc_row_sum bn_row_sum ?_ ?_
  · rintro vs H Q E ⟨v, u, r, t, rfl, _⟩
    rfl
  rintro f cdv A outer s0 H vs Q E hr ⟨v, u, r, t, rfl, hv, hu, hl, hl2, k⟩
  obtain ⟨p, rfl, hp⟩ := dp_row hv
  obtain ⟨q, rfl, hq⟩ := dp_row hu
  refine ⟨_, (pss_one (ps_ret (pe_callTy (call_tupleK (K := K) (by rfl)) (by rfl) B.tuple_ (by decide +kernel) (pa_cons (pe_lc (own := [("number", 2), ("more", 3)]) rfl sc_row_sum.nd (pi_zipK (K := K) (by rfl) (by rfl) B.zip_ (pa_cons (pv 0) (pa_cons (pv 1) pa_nil))) (blkOk_by (own := [("number", 2), ("more", 3)]) (N := n_row_sum) (sc := defScope s_row_sum) (by decide +kernel)) (fun _ _ _ _ _ => (pg_tupK (K := K) (n := 2) (by rfl) (by rfl) (pgs_cons (pg_name (i := 2) sc_row_sum.nd rfl (by first | exact Or.inl rfl | exact Or.inr rfl)) (pgs_cons (pg_name (i := 3) sc_row_sum.nd rfl (by first | exact Or.inl rfl | exact Or.inr rfl)) pgs_nil)))) (fun _ _ _ _ _ => pts_nil) (fun _ _ _ _ _ => (pe_op op_add (pv 2) (pv 3)))) pa_nil)))), ?_⟩
  refine ⟨_, rfl, _, rfl, p, q, _, _, rfl, .inr ⟨hp, hq, fun D1 hD1 => ?_⟩⟩
  refine lcz (K := K) (j1 := 2) (j2 := 3) (fun c => .int (r.getD c 0 + t.getD c 0)) hD1 (by rw [List.length_map, List.length_map, hl]) hp hq
    (by rw [List.length_map]; omega) (fun _ _ => by simp [tupOnly]) (fun _ _ => rfl) (fun T x y H2 R h2 r2 => ⟨T, _, rfl, SqT.of h2, rfl, _, _, rfl, _, _, rfl, rfl, r2⟩) ?_ ?_
  · intro i x y H1 Q1 hx hy e1 k1
    obtain ⟨hi, rfl⟩ := row_get hx
    obtain ⟨hi2, rfl⟩ := row_get hy
    exact ⟨_, rfl, _, rfl, _, _, rfl, rfl, k1 _ _ (Same.refl _) (.int _)⟩
  · intro H1 ys e1 h1 hd1
    rw [List.length_map] at hd1
    try dsimp only [tC, tNil]
    refine tupL_dp h1 hd1 fun v2 H2 e2 hv2 => ?_
    rw [mapR_row] at hv2
    exact k _ _ (e1.trans e2) hv2
/-- a list of rows at l, that may be changed -/
def RowsL (K : PySem.W.Frag) (H : Hp) (l : Addr) (rs : List (List Int)) : Prop := ∃ ys, H l = some (.lst ys) ∧ DpAll K H ys (rs.map rowD)
def spDoDeed (K : PySem.W.Frag) : Sp := fun vs H Q _ => ∃ (l : Addr) (v : V) (d : Deed) (b : Int) (m wd : Nat) (rs : List (List Int)),
  vs = [.ref l, v] ∧ Dp K H v (deedD d) ∧ OkD m b d ∧ rs.length = m ∧ (∀ r ∈ rs, r.length = wd) ∧ wd ≤ 1000 ∧ (∀ r ∈ rs, Wd r) ∧ 0 ≤ b ∧ b.natAbs < 2 ^ 4000 ∧ RowsL K H l rs ∧
  ∀ H', Sb l H H' → RowsL K H' l (stepD rs d) → Q .non H'
theorem ok_do_deed (D : Df K mg "do_deed" s_do_deed) (B : Bn mg) (h_row_scaled : Has P w K mg base "row_scaled" 1 p_row_scaled (spScaled K))
    (h_row_sum : Has P w K mg base "row_sum" 1 p_row_sum (spRowSum K)) :
    Has P w K mg base "do_deed" 2 p_do_deed (spDoDeed K) := by
  refine has_of (k := 1) D sc_do_deed bn_do_deed ?_ ?_
  · rintro vs H Q E ⟨l, v, d, b, m, wd, rs, rfl, _⟩
    rfl
  rintro f cdv A outer s0 H vs Q E hr ⟨l, v, d, b, m, wd, rs, rfl, hd, ok, hm, hw, hwd, hwide, hb0, hb, ⟨ys, hl, hall⟩, k⟩
  have hlen : ys.length = rs.length := by rw [dpa_len _ _ hall, List.length_map]
  have tall := rows_tup rs
  refine ⟨_, (pss_cons (ps_asg (pe_ix (ix_tupK (K := K) (by rfl)) (pv 1) pe_int (fun _ _ => rfl)) (pg_name (i := 2) sc_do_deed.nd rfl (by first | exact Or.inl rfl | exact Or.inr rfl)))
      (pss_cons (ps_asg (pe_ix (ix_tupK (K := K) (by rfl)) (pv 1) pe_int (fun _ _ => rfl)) (pg_name (i := 3) sc_do_deed.nd rfl (by first | exact Or.inl rfl | exact Or.inr rfl)))
      (pss_one (ps_if (pt_cmpR op_eq (pv 2) pe_str (nomark _)) (pss_cons (ps_asg (pe_ix (ix_tupK (K := K) (by rfl)) (pv 1) pe_int (fun _ _ => rfl)) (pg_name (i := 4) sc_do_deed.nd rfl (by first | exact Or.inl rfl | exact Or.inr rfl)))
      (pss_one (ps_asg (pe_tup (pa_cons (pe_ix (ix_listK (K := K) (by rfl)) (pv 0) (pv 4) (fun _ _ => rfl)) (pa_cons (pe_ix (ix_listK (K := K) (by rfl)) (pv 0) (pv 3) (fun _ _ => rfl)) pa_nil))) (pg_tupK (K := K) (n := 2) (by rfl) (by rfl) (pgs_cons (pg_sub (pv 0) (pv 3) set_list) (pgs_cons (pg_sub (pv 0) (pv 4) set_list) pgs_nil)))))) (pss_one (ps_if (pt_cmpR op_eq (pv 2) pe_str (nomark _)) (pss_one (ps_asg (pe_has (h_row_scaled) (hr.mono (by first | decide | omega)) (by rfl) (pa_cons (pe_ix (ix_listK (K := K) (by rfl)) (pv 0) (pv 3) (fun _ _ => rfl)) (pa_cons (pe_un un_neg pe_int) pa_nil))) (pg_sub (pv 0) (pv 3) set_list))) (pss_one (ps_asg (pe_has (h_row_sum) (hr.mono (by first | decide | omega)) (by rfl) (pa_cons (pe_ix (ix_listK (K := K) (by rfl)) (pv 0) (pv 3) (fun _ _ => rfl)) (pa_cons (pe_has (h_row_scaled) (hr.mono (by first | decide | omega)) (by rfl) (pa_cons (pe_ix (ix_listK (K := K) (by rfl)) (pv 0) (pe_ix (ix_tupK (K := K) (by rfl)) (pv 1) pe_int (fun _ _ => rfl)) (fun _ _ => rfl)) (pa_cons (pe_ix (ix_tupK (K := K) (by rfl)) (pv 1) pe_int (fun _ _ => rfl)) pa_nil))) pa_nil))) (pg_sub (pv 0) (pv 3) set_list))))))))), ?_⟩
  cases d with
  | swap i j =>
    obtain ⟨a, xs, rfl, hs, ha⟩ := dp_tup hd
    obtain ⟨x0, t0, rfl, q0, ha⟩ := dpa_cons ha
    obtain ⟨x1, t1, rfl, q1, ha⟩ := dpa_cons ha
    obtain ⟨x2, t2, rfl, q2, ha⟩ := dpa_cons ha
    rw [dpa_nil ha] at hs
    cases q0
    cases q1
    cases q2
    obtain ⟨o1, o2, o3⟩ := ok
    have hi : i < rs.length := by omega
    have hj : j < rs.length := by omega
    obtain ⟨xi, hxi, dxi⟩ := dpa_at _ _ i _ hall (rows_getD hi)
    obtain ⟨xj, hxj, dxj⟩ := dpa_at _ _ j _ hall (rows_getD hj)
    refine ⟨_, rfl, a, _, 0, _, rfl, rfl, hs, rfl, ?_⟩
    refine ⟨_, rfl, a, _, 1, _, rfl, rfl, hs, rfl, ?_⟩
    refine ⟨_, rfl, rfl, _, rfl, ?_⟩
    rw [decide_eq_true (rfl : V.str _ = V.str _)]
    refine iteT ?_
    refine ⟨_, rfl, a, _, 2, _, rfl, rfl, hs, rfl, ?_⟩
    refine ⟨_, rfl, _, rfl, l, _, _, _, rfl, rfl, SqL.of hl, atI_nat hxj, _, rfl, _, rfl, l, _, _, _, rfl, rfl, SqL.of hl, atI_nat hxi, by show 2 ≤ sizeLine; decide, fun p np => ?_⟩
    have ep := Same.new (o := .tup [xj, xi]) np
    have hl1 := ep _ _ hl
    refine ⟨p, _, rfl, SqT.of upd_same, rfl, _, _, rfl, ?_⟩
    refine ⟨_, rfl, _, rfl, l, ys, _, i, rfl, rfl, hl1, ixN_of (by omega), ?_⟩
    refine ⟨_, _, rfl, _, rfl, _, rfl, l, _, _, j, rfl, rfl, upd_same, ixN_of (by rw [List.length_set]; omega), rfl, ?_⟩
    refine k _ (Sb.own (Sb.own (Sb.of ep))) ⟨_, upd_same, ?_⟩
    have tk1 := (Tk.of ep).trans ((Tk.lst (o := .lst (ys.set i xj)) hl1).trans (Tk.lst (o := .lst ((ys.set i xj).set j xi)) upd_same))
    show DpAll K _ ((ys.set i xj).set j xi) (((rs.set i (rs.getD j [])).set j (rs.getD i [])).map rowD)
    rw [map_set, map_set]
    exact dpa_set _ _ _ _ _ (dpa_set _ _ _ _ _ (DpAll.tk tk1 _ _ tall hall) (Dp.tk tk1 _ _ (rowD_tup _) dxj)) (Dp.tk tk1 _ _ (rowD_tup _) dxi)
  | turn i =>
    obtain ⟨a, xs, rfl, hs, ha⟩ := dp_tup hd
    obtain ⟨x0, t0, rfl, q0, ha⟩ := dpa_cons ha
    obtain ⟨x1, t1, rfl, q1, ha⟩ := dpa_cons ha
    rw [dpa_nil ha] at hs
    cases q0
    cases q1
    have hi : i < rs.length := by
      have : i < m := ok
      omega
    obtain ⟨xi, hxi, dxi⟩ := dpa_at _ _ i _ hall (rows_getD hi)
    have hmem := Gd.getD_mem (d := ([] : List Int)) hi
    refine ⟨_, rfl, a, _, 0, _, rfl, rfl, hs, rfl, ?_⟩
    refine ⟨_, rfl, a, _, 1, _, rfl, rfl, hs, rfl, ?_⟩
    refine ⟨_, rfl, rfl, _, rfl, ?_⟩
    rw [str_ne (by decide +kernel)]
    refine iteF ?_
    refine ⟨_, rfl, rfl, _, rfl, ?_⟩
    rw [decide_eq_true (rfl : V.str _ = V.str _)]
    refine iteT ?_
    refine ⟨_, rfl, _, rfl, l, _, _, _, rfl, rfl, SqL.of hl, atI_nat hxi, _, rfl, xi, _, _, rfl, dxi, by rw [hw _ hmem]; omega, hwide _ hmem, one_wide, fun y H1 e1 hy => ?_⟩
    have hl1 := e1 _ _ hl
    refine ⟨_, rfl, _, rfl, l, ys, _, i, rfl, rfl, hl1, ixN_of (by omega), ?_⟩
    refine k _ (Sb.own (Sb.of e1)) ⟨_, upd_same, ?_⟩
    have tk1 := (Tk.of e1).trans (Tk.lst (o := .lst (ys.set i y)) hl1)
    show DpAll K _ (ys.set i y) ((rs.set i (scaleR (rs.getD i []) (-1))).map rowD)
    rw [map_set]
    exact dpa_set _ _ _ _ _ (DpAll.tk tk1 _ _ tall hall) (Dp.tk (Tk.lst (o := .lst (ys.set i y)) hl1) _ _ (rowD_tup _) hy)
  | add i j n =>
    obtain ⟨a, xs, rfl, hs, ha⟩ := dp_tup hd
    obtain ⟨x0, t0, rfl, q0, ha⟩ := dpa_cons ha
    obtain ⟨x1, t1, rfl, q1, ha⟩ := dpa_cons ha
    obtain ⟨x2, t2, rfl, q2, ha⟩ := dpa_cons ha
    obtain ⟨x3, t3, rfl, q3, ha⟩ := dpa_cons ha
    rw [dpa_nil ha] at hs
    cases q0
    cases q1
    cases q2
    cases q3
    obtain ⟨o1, o2, o3, o4, o5⟩ := ok
    have hi : i < rs.length := by omega
    have hj : j < rs.length := by omega
    obtain ⟨xi, hxi, dxi⟩ := dpa_at _ _ i _ hall (rows_getD hi)
    obtain ⟨xj, hxj, dxj⟩ := dpa_at _ _ j _ hall (rows_getD hj)
    have hmi := Gd.getD_mem (d := ([] : List Int)) hi
    have hmj := Gd.getD_mem (d := ([] : List Int)) hj
    refine ⟨_, rfl, a, _, 0, _, rfl, rfl, hs, rfl, ?_⟩
    refine ⟨_, rfl, a, _, 1, _, rfl, rfl, hs, rfl, ?_⟩
    refine ⟨_, rfl, rfl, _, rfl, ?_⟩
    rw [str_ne (by decide +kernel)]
    refine iteF ?_
    refine ⟨_, rfl, rfl, _, rfl, ?_⟩
    rw [str_ne (by decide +kernel)]
    refine iteF ?_
    refine ⟨_, rfl, _, rfl, l, _, _, _, rfl, rfl, SqL.of hl, atI_nat hxi, ?_⟩
    refine ⟨_, rfl, _, rfl, a, _, 2, _, rfl, rfl, hs, rfl, l, _, _, _, rfl, rfl, SqL.of hl, atI_nat hxj, ?_⟩
    refine ⟨_, rfl, a, _, 3, _, rfl, rfl, hs, rfl, xj, _, n, rfl, dxj, by rw [hw _ hmj]; omega, hwide _ hmj, by omega, fun y1 H1 e1 hy1 => ?_⟩
    refine ⟨xi, y1, _, _, rfl, Dp.same e1 _ _ dxi, hy1, by simp only [scaleR, List.length_map, List.length_range]; rw [hw _ hmi, hw _ hmj], by rw [hw _ hmi]; omega, fun y H2 e2 hy => ?_⟩
    have e12 := e1.trans e2
    have hl1 := e12 _ _ hl
    refine ⟨_, rfl, _, rfl, l, ys, _, i, rfl, rfl, hl1, ixN_of (by omega), ?_⟩
    refine k _ (Sb.own (Sb.of e12)) ⟨_, upd_same, ?_⟩
    have tk1 := (Tk.of e12).trans (Tk.lst (o := .lst (ys.set i y)) hl1)
    show DpAll K _ (ys.set i y) ((rs.set i (sumRow (rs.getD i []) (scaleR (rs.getD j []) n))).map rowD)
    rw [map_set]
    exact dpa_set _ _ _ _ _ (DpAll.tk tk1 _ _ tall hall) (Dp.tk (Tk.lst (o := .lst (ys.set i y)) hl1) _ _ (rowD_tup _) hy)

def allD (rs : List (List Int)) (ds : List Deed) : List (List Int) := ds.foldl stepD rs
theorem allD_take {rs : List (List Int)} {ds : List Deed} {i : Nat} {d : Deed} (h : ds[i]? = some d) : allD rs (ds.take (i + 1)) = stepD (allD rs (ds.take i)) d := by
  unfold allD
  rw [List.take_succ, h, List.foldl_append]
  rfl
theorem allD_facts {rs : List (List Int)} {wd m b c : Nat} (hm : rs.length = m) (hw : ∀ r ∈ rs, r.length = wd) (hb : Bs (b : Int) rs) (hc : 1 ≤ c) :
    ∀ ds : List Deed, (∀ d ∈ ds, OkD m (c : Int) d) → (allD rs ds).length = m ∧ (∀ r ∈ allD rs ds, r.length = wd) ∧ Bs ((b * (c + 1) ^ ds.length : Nat) : Int) (allD rs ds) := by
  have key : ∀ (ds : List Deed) (rs : List (List Int)) (b : Nat), rs.length = m → (∀ r ∈ rs, r.length = wd) → Bs (b : Int) rs → (∀ d ∈ ds, OkD m (c : Int) d) →
      (allD rs ds).length = m ∧ (∀ r ∈ allD rs ds, r.length = wd) ∧ Bs ((b * (c + 1) ^ ds.length : Nat) : Int) (allD rs ds) := by
    intro ds
    induction ds with
    | nil =>
      intro rs b h1 h2 h3 _
      refine ⟨h1, h2, ?_⟩
      rw [List.length_nil, Nat.pow_zero, Nat.mul_one]
      exact h3
    | cons d ds ih =>
      intro rs b h1 h2 h3 h4
      have hd := h4 d (List.mem_cons_self ..)
      have s1 := stepD_bd (b := (b : Int)) (c := (c : Int)) (by omega) (by omega) h3 h1 hd
      have e : (b : Int) * ((c : Int) + 1) = ((b * (c + 1) : Nat) : Int) := by
        rw [Int.natCast_mul]
        rfl
      rw [e] at s1
      have := ih (stepD rs d) (b * (c + 1)) (by rw [stepD_len]; exact h1) (stepD_wide h2 h1 hd) s1 (fun x hx => h4 x (List.mem_cons_of_mem _ hx))
      have e2 : b * (c + 1) * (c + 1) ^ ds.length = b * (c + 1) ^ (d :: ds).length := by
        rw [List.length_cons, Nat.pow_succ, Nat.mul_assoc, Nat.mul_comm (c + 1)]
      rw [e2] at this
      exact this
  exact fun ds => key ds rs b hm hw hb
theorem Bs.wd {b : Nat} {rs : List (List Int)} (h : Bs (b : Int) rs) (hb : b < 2 ^ 4000) : ∀ r ∈ rs, Wd r := fun r hr x hx => by
  have := h r hr x hx
  omega
def spDone (K : PySem.W.Frag) : Sp := fun vs H Q _ => ∃ (v u : V) (wd b c : Nat) (rs : List (List Int)) (ds : List Deed),
  vs = [v, u] ∧ Dp K H v (tabD wd rs) ∧ Dp K H u (deedsD ds) ∧ (∀ r ∈ rs, r.length = wd) ∧ wd ≤ 1000 ∧ rs.length ≤ 1000 ∧
  Bs (b : Int) rs ∧ 1 ≤ c ∧ (∀ d ∈ ds, OkD rs.length (c : Int) d) ∧ b * (c + 1) ^ ds.length < 2 ^ 4000 ∧ c < 2 ^ 4000 ∧
  ∀ y H', Same H H' → Dp K H' y (tabD wd (allD rs ds)) → Q y H'
theorem ok_done (D : Df K mg "done" s_done) (B : Bn mg) (h_refuse_other_than_deeds : Has P w K mg base "refuse_other_than_deeds" 5 p_refuse_other_than_deeds (spRefuse K))
    (h_do_deed : Has P w K mg base "do_deed" 2 p_do_deed (spDoDeed K)) :
    Has P w K mg base "done" 6 p_done (spDone K) := by
  refine has_of (k := 5) D sc_done bn_done ?_ ?_
  · rintro vs H Q E ⟨v, u, wd, b, c, rs, ds, rfl, _⟩
    rfl
  rintro f cdv A outer s0 H vs Q E hr ⟨v, u, wd, b, c, rs, ds, rfl, hv, hu, hw, hwd, hm, hb, hc, ok, hbig, hcb, k⟩
  obtain ⟨pt, ur, rfl, htab, hrows⟩ := dp_tab hv
  obtain ⟨pr, xs, rfl, hxs, hall, hlen⟩ := dp_rows hrows
  obtain ⟨pd, xd, rfl, hxd, hda⟩ := dp_tup hu
  have hld : xd.length = ds.length := by rw [dpa_len _ _ hda, List.length_map]
  refine ⟨_, (pss_cons (ps_asg (pv 0) (pg_tupK (K := K) (n := 2) (by rfl) (by rfl) (pgs_cons (pg_name (i := 2) sc_done.nd rfl (by first | exact Or.inl rfl | exact Or.inr rfl)) (pgs_cons (pg_name (i := 3) sc_done.nd rfl (by first | exact Or.inl rfl | exact Or.inr rfl)) pgs_nil))))
      (pss_cons (ps_expr (pe_has (h_refuse_other_than_deeds) (hr.mono (by first | decide | omega)) (by rfl) (pa_cons (pe_callB (call_lenK (K := K) (by rfl)) (by rfl) B.len_ (by decide +kernel) (pa_cons (pv 3) pa_nil)) (pa_cons (pv 1) pa_nil))))
      (pss_cons (ps_asg (pe_callTy (call_listK (K := K) (by rfl)) (by rfl) B.list_ (by decide +kernel) (pa_cons (pv 3) pa_nil)) (pg_name (i := 4) sc_done.nd rfl (by first | exact Or.inl rfl | exact Or.inr rfl)))
      (pss_cons (ps_for PassesOwn.never rfl (pi_tupK (K := K) (by rfl) (pv 1)) (pg_name (i := 5) sc_done.nd rfl (by first | exact Or.inl rfl | exact Or.inr rfl)) (pss_one (ps_expr (pe_has (h_do_deed) (hr.mono (by first | decide | omega)) (by rfl) (pa_cons (pv 4) (pa_cons (pv 5) pa_nil))))))
      (pss_one (ps_ret (pe_tup (pa_cons (pv 2) (pa_cons (pe_callTy (call_tupleK (K := K) (by rfl)) (by rfl) B.tuple_ (by decide +kernel) (pa_cons (pv 4) pa_nil)) pa_nil))))))))), ?_⟩
  refine ⟨_, rfl, pt, _, rfl, htab, rfl, _, _, rfl, _, _, rfl, rfl, ?_⟩
  refine ⟨_, rfl, pr, _, rfl, .inr hxs, _, rfl, rs.length, _, ds, (c : Int), ?_, hu, ok, fun H1 e1 => ?_⟩
  · rw [hlen]
    rfl
  refine ⟨_, rfl, pr, _, rfl, .inr (sqt_same e1 hxs), fun l nl => ?_⟩
  have e2 := Same.new (o := .lst xs) nl
  have nl0 : H l = none := e1.free nl
  refine ⟨_, rfl, pd, rfl, ⟨_, sqt_same (e1.trans e2) hxd⟩, for_tup (K := K) (xs := xd) (fun i σ H' => Same H H' ∧ RowsL K H' l (allD rs (ds.take i)) ∧
    ∃ v5 : Option V, σ = [some (.ref pt), some (.ref pd), some (.int wd), some (.ref pr), some (.ref l), v5]) ?_ ?_ ?_ ?_⟩
  · refine ⟨e1.trans e2, ⟨xs, upd_same, ?_⟩, _, rfl⟩
    exact DpAll.same (e1.trans e2) _ _ hall
  · rintro i σ H' hi ⟨e, _⟩
    exact sqt_same e hxd
  · rintro i x σ H' hx ⟨e, hR, v5, rfl⟩
    obtain ⟨dt, hd1, hd2⟩ := dpa_get _ _ i x (DpAll.same e _ _ hda) hx
    rw [List.getElem?_map] at hd1
    cases q : ds[i]? with
    | none => rw [q] at hd1; cases hd1
    | some dd =>
      rw [q] at hd1
      cases hd1
      have hi := (List.getElem?_eq_some_iff.mp q).1
      obtain ⟨f1, f2, f3⟩ := allD_facts (b := b) (c := c) rfl hw hb hc (ds.take i) (fun d hd => ok d (List.mem_of_mem_take hd))
      have hp : b * (c + 1) ^ (ds.take i).length < 2 ^ 4000 := by
        refine Nat.lt_of_le_of_lt (Nat.mul_le_mul_left b (Nat.pow_le_pow_right (by omega) ?_)) hbig
        rw [List.length_take]
        omega
      refine ⟨_, rfl, _, rfl, l, x, dd, (c : Int), rs.length, wd, _, rfl, hd2, ok dd (List.mem_of_getElem? q), f1, f2, hwd, Bs.wd f3 hp, by omega, by omega, hR, fun H2 sb2 hR2 => ?_⟩
      refine ⟨Same.sb e nl0 sb2, ?_, _, rfl⟩
      rw [allD_take q]
      exact hR2
  · rintro σ H' ⟨e, ⟨ys, h1, h2⟩, v5, rfl⟩
    rw [hld, List.take_length] at h2
    refine ⟨_, rfl, _, rfl, ?_⟩
    try dsimp only [tC, tNil]
    refine tupL_dp h1 h2 fun v2 H2 e3 hv2 => ?_
    try dsimp only [tC, tNil]
    refine tup_dp (K := K) (.cons (.int _) (.cons hv2 .nil)) (by simp) fun v3 H3 e4 hv3 => ?_
    exact k _ _ ((e.trans e3).trans e4) hv3

def spUnitRow (K : PySem.W.Frag) : Sp := fun vs H Q _ => ∃ (n k : Nat), vs = [.int n, .int k] ∧ n ≤ 1000 ∧
  ∀ (y : V) (H' : Hp), Same H H' → Dp K H' y (rowD (unitRow n k)) → Q y H'
theorem ok_unit_row (D : Df K mg "unit_row" s_unit_row) (B : Bn mg) :
    Has P w K mg base "unit_row" 1 p_unit_row (spUnitRow K) := by
  refine has_of (k := 0) D sc_unit_row bn_unit_row ?_ ?_
  · rintro vs H Q E ⟨n, k, rfl, _⟩
    rfl
  rintro f cdv A outer s0 H vs Q E hr ⟨n, kk, rfl, hn, k⟩
  refine ⟨_, (pss_one (ps_ret (pe_callTy (call_tupleK (K := K) (by rfl)) (by rfl) B.tuple_ (by decide +kernel) (pa_cons (pe_lc (own := [("column", 2)]) rfl sc_unit_row.nd (pi_range1 (by rfl) B.range_ (pa_cons (pv 0) pa_nil)) (blkOk_by (own := [("column", 2)]) (N := n_unit_row) (sc := defScope s_unit_row) (by decide +kernel)) (fun _ _ _ _ _ => (pg_name (i := 2) sc_unit_row.nd rfl (by first | exact Or.inl rfl | exact Or.inr rfl))) (fun _ _ _ _ _ => pts_nil) (fun _ _ _ _ _ => (pe_ifExp (pt_cmpR op_eq (pv 2) (pv 1) (nomark _)) pe_int pe_int))) pa_nil)))), ?_⟩
  refine ⟨_, rfl, (n : Int), rfl, by omega, by omega, fun D1 hD1 => ?_⟩
  refine lcr (K := K) (n := n) (fun c => .int (if c = kk then 1 else 0)) hD1 (by omega) (fun _ _ => by simp [tupOnly]) (fun _ => rfl) ?_ ?_
  · intro c H1 Q1 hc e1 k1
    refine ⟨_, rfl, _, rfl, rfl, _, rfl, ?_⟩
    have k2 := k1 _ _ (Same.refl _) (.int _)
    by_cases h : c = kk
    · subst h
      rw [if_pos rfl] at k2
      rw [decide_eq_true (by rw [Int.zero_add])]
      exact iteT k2
    · rw [if_neg h] at k2
      rw [decide_eq_false (fun z => h (by have := V.int.inj z; omega))]
      exact iteF k2
  · intro H1 ys e1 h1 hd1
    try dsimp only [tC, tNil]
    refine tupL_dp h1 hd1 fun v2 H2 e2 hv2 => ?_
    rw [mapR_row] at hv2
    exact k _ _ (e1.trans e2) hv2
def spUnit (K : PySem.W.Frag) : Sp := fun vs H Q _ => ∃ (n : Nat), vs = [.int n] ∧ n ≤ 1000 ∧
  ∀ (y : V) (H' : Hp), Same H H' → Dp K H' y (tabD n (unitR n)) → Q y H'
theorem spUnit_len : ∀ vs H Q E, spUnit K vs H Q E → vs.length = 1 := by
  rintro vs H Q E ⟨n, rfl, _⟩
  rfl
theorem ok_unit (D : Df K mg "unit" s_unit) (B : Bn mg)
    (h_unit_row : Has P w K mg base "unit_row" 1 p_unit_row (spUnitRow K)) :
    Has P w K mg base "unit" 2 p_unit (spUnit K) := by
  refine has_of (k := 1) D sc_unit bn_unit spUnit_len ?_
  rintro f cdv A outer s0 H vs Q E hr ⟨n, rfl, hn, k⟩
  refine ⟨_, (pss_one (ps_ret (pe_tup (pa_cons (pv 0) (pa_cons (pe_callTy (call_tupleK (K := K) (by rfl)) (by rfl) B.tuple_ (by decide +kernel) (pa_cons (pe_lc (own := [("k", 1)]) rfl sc_unit.nd (pi_range1 (by rfl) B.range_ (pa_cons (pv 0) pa_nil)) (blkOk_by (own := [("k", 1)]) (N := n_unit) (sc := defScope s_unit) (by decide +kernel)) (fun _ _ _ _ _ => (pg_name (i := 1) sc_unit.nd rfl (by first | exact Or.inl rfl | exact Or.inr rfl))) (fun _ _ _ _ _ => pts_nil) (fun _ _ _ _ _ => (pe_has (h_unit_row) (hr.mono (by first | decide | omega)) (by rfl) (pa_cons (pv 0) (pa_cons (pv 1) pa_nil))))) pa_nil)) pa_nil))))), ?_⟩
  refine ⟨_, rfl, _, rfl, (n : Int), rfl, by omega, by omega, fun D1 hD1 => ?_⟩
  refine lcr (K := K) (n := n) (fun c => rowD (unitRow n c)) hD1 (by omega) (fun _ _ => rowD_tup _) (fun _ => rfl) ?_ ?_
  · intro c H1 Q1 hc e1 k1
    refine ⟨_, rfl, _, rfl, n, c, ?_, hn, fun y H2 e2 hy => k1 y H2 e2 hy⟩
    rw [Int.zero_add]
    rfl
  · intro H1 ys e1 h1 hd1
    try dsimp only [tC, tNil]
    refine tupL_dp h1 hd1 fun v2 H2 e2 hv2 => ?_
    rw [mapR_rows] at hv2
    try dsimp only [tC, tNil]
    refine tup_dp (K := K) (.cons (.int _) (.cons hv2 .nil)) (by simp) fun v3 H3 e3 hv3 => ?_
    exact k _ _ ((e1.trans e2).trans e3) hv3

def spDTable (K : PySem.W.Frag) : Sp := fun vs H Q _ => ∃ (u : V) (m c : Nat) (ds : List Deed),
  vs = [.int m, u] ∧ Dp K H u (deedsD ds) ∧ m ≤ 1000 ∧ 1 ≤ c ∧ (∀ d ∈ ds, OkD m (c : Int) d) ∧ 1 * (c + 1) ^ ds.length < 2 ^ 4000 ∧ c < 2 ^ 4000 ∧
  ∀ y H', Same H H' → Dp K H' y (tabD m (allD (unitR m) ds)) → Q y H'
theorem unitR_len (n : Nat) : (unitR n).length = n := by simp [unitR]
theorem unitR_wide {n : Nat} : ∀ r ∈ unitR n, r.length = n := by
  intro r hr
  obtain ⟨k, _, rfl⟩ := List.mem_map.mp hr
  simp [unitRow]
theorem ok_deeds_table (D : Df K mg "deeds_table" s_deeds_table) (B : Bn mg) (h_done : Has P w K mg base "done" 6 p_done (spDone K)) (h_unit : Has P w K mg base "unit" 2 p_unit (spUnit K)) :
    Has P w K mg base "deeds_table" 7 p_deeds_table (spDTable K) := by
  refine has_of (k := 6) D sc_deeds_table bn_deeds_table ?_ ?_
  · rintro vs H Q E ⟨u, m, c, ds, rfl, _⟩
    rfl
  rintro f cdv A outer s0 H vs Q E hr ⟨u, m, c, ds, rfl, hu, hm, hc, ok, hbig, hcb, k⟩
  refine ⟨_, (pss_one (ps_ret (pe_has (h_done) (hr.mono (by first | decide | omega)) (by rfl) (pa_cons (pe_has (h_unit) (hr.mono (by first | decide | omega)) (by rfl) (pa_cons (pv 0) pa_nil)) (pa_cons (pv 1) pa_nil))))), ?_⟩
  refine ⟨_, rfl, m, rfl, hm, fun y H1 e1 hy => ?_⟩
  refine ⟨_, rfl, y, u, m, 1, c, unitR m, ds, rfl, hy, Dp.same e1 _ _ hu, unitR_wide, hm, ?_, bs_unit, hc, ?_, hbig, hcb, fun z H2 e2 hz => k _ _ (e1.trans e2) hz⟩
  · rw [unitR_len]
    exact hm
  · rw [unitR_len]
    exact ok

theorem allD_app (rs : List (List Int)) (ds es : List Deed) : allD rs (ds ++ es) = allD (allD rs ds) es := by
  unfold allD
  rw [List.foldl_append]
theorem backD_app (ds es : List Deed) : backD (ds ++ es) = backD es ++ backD ds := by
  unfold backD
  rw [List.reverse_append, List.map_append]
theorem allD_mul {ts : List (List Int)} {n w m : Nat} {b : Int} : ∀ (ds : List Deed) (as : List (List Int)), (∀ r ∈ as, r.length = n) → as.length = m → (∀ d ∈ ds, OkD m b d) →
    mulR (allD as ds) w ts = allD (mulR as w ts) ds
  | [], as, _, _, _ => rfl
  | d :: ds, as, h1, h2, h3 => by
    have hd := h3 d (List.mem_cons_self ..)
    have := allD_mul (ts := ts) (n := n) (w := w) (m := m) (b := b) ds (stepD as d) (stepD_wide h1 h2 hd) (by rw [stepD_len]; exact h2) (fun x hx => h3 x (List.mem_cons_of_mem _ hx))
    rw [stepD_mul h1 h2 hd] at this
    exact this
theorem deeds_mul {ts : List (List Int)} {w m : Nat} {b : Int} {ds : List Deed} (hT : Tb w ts) (hm : ts.length = m) (h : ∀ d ∈ ds, OkD m b d) :
    mulR (allD (unitR m) ds) w ts = allD ts ds := by
  rw [allD_mul ds (unitR m) unitR_wide (unitR_len m) h, ← hm, unit_mul hT]
theorem allD_back {m : Nat} {b : Int} : ∀ (ds : List Deed) (rs : List (List Int)), rs.length = m → (∀ d ∈ ds, OkD m b d) → allD (allD rs ds) (backD ds) = rs
  | [], rs, _, _ => rfl
  | d :: ds, rs, h1, h2 => by
    have hd := h2 d (List.mem_cons_self ..)
    have ih := allD_back ds (stepD rs d) (by rw [stepD_len]; exact h1) (fun x hx => h2 x (List.mem_cons_of_mem _ hx))
    have e : backD (d :: ds) = backD ds ++ [conD d] := by simp [backD]
    rw [e, allD_app]
    show allD (allD (allD (stepD rs d) ds) (backD ds)) [conD d] = rs
    rw [ih]
    exact stepD_con h1 hd
theorem allD_forth {m : Nat} {b : Int} (ds : List Deed) (rs : List (List Int)) (h1 : rs.length = m) (h2 : ∀ d ∈ ds, OkD m b d) : allD (allD rs (backD ds)) ds = rs := by
  have := allD_back (backD ds) rs h1 (backD_ok h2)
  rw [backD_back] at this
  exact this
theorem allD_len {rs : List (List Int)} : ∀ ds : List Deed, (allD rs ds).length = rs.length := by
  intro ds
  induction ds generalizing rs with
  | nil => rfl
  | cons d ds ih =>
    show (allD (stepD rs d) ds).length = rs.length
    rw [ih, stepD_len]
theorem allD_tb {rs : List (List Int)} {w m : Nat} {b : Int} {ds : List Deed} (hT : Tb w rs) (hm : rs.length = m) (h : ∀ d ∈ ds, OkD m b d) : Tb w (allD rs ds) := by
  refine ⟨by rw [allD_len]; exact hT.1, hT.2.1, ?_⟩
  have key : ∀ (ds : List Deed) (rs : List (List Int)), rs.length = m → (∀ r ∈ rs, r.length = w) → (∀ d ∈ ds, OkD m b d) → ∀ r ∈ allD rs ds, r.length = w := by
    intro ds
    induction ds with
    | nil => exact fun rs _ h _ => h
    | cons d ds ih =>
      intro rs h1 h2 h3
      exact ih (stepD rs d) (by rw [stepD_len]; exact h1) (stepD_wide h2 h1 (h3 d (List.mem_cons_self ..))) (fun x hx => h3 x (List.mem_cons_of_mem _ hx))
  exact key ds rs hm hT.2.2 h
/-- one led there, the other led back: the unit -/
theorem there_back {m : Nat} {b : Int} {ds : List Deed} (hm : m ≤ 1000) (h : ∀ d ∈ ds, OkD m b d) :
    mulR (allD (unitR m) ds) m (allD (unitR m) (backD ds)) = unitR m := by
  rw [deeds_mul (allD_tb (unit_tb hm) (unitR_len m) (backD_ok h)) (by rw [allD_len, unitR_len]) h]
  exact allD_forth ds _ (unitR_len m) h
theorem back_there {m : Nat} {b : Int} {ds : List Deed} (hm : m ≤ 1000) (h : ∀ d ∈ ds, OkD m b d) :
    mulR (allD (unitR m) (backD ds)) m (allD (unitR m) ds) = unitR m := by
  have := there_back (ds := backD ds) hm (backD_ok h)
  rw [backD_back] at this
  exact this
theorem both_mul {m : Nat} {b : Int} {ds es : List Deed} (hm : m ≤ 1000) (h : ∀ d ∈ ds, OkD m b d) (h2 : ∀ d ∈ es, OkD m b d) :
    mulR (allD (unitR m) es) m (allD (unitR m) ds) = allD (unitR m) (ds ++ es) := by
  rw [deeds_mul (allD_tb (unit_tb hm) (unitR_len m) h) (by rw [allD_len, unitR_len]) h2, allD_app]
theorem further_mul {m : Nat} {b : Int} {ds : List Deed} {d : Deed} (hm : m ≤ 1000) (h : ∀ d ∈ ds, OkD m b d) (hd : OkD m b d) :
    mulR (stepD (allD (unitR m) ds) d) m (allD (unitR m) (backD ds)) = stepD (unitR m) d := by
  rw [stepD_mul (allD_tb (unit_tb hm) (unitR_len m) h).2.2 (by rw [allD_len, unitR_len]) hd, there_back hm h]
theorem mul_further {m : Nat} {b : Int} {ds : List Deed} {d : Deed} (hm : m ≤ 1000) (h : ∀ d ∈ ds, OkD m b d) (hd : OkD m b d) (hne : stepD (unitR m) d ≠ unitR m) :
    mulR (allD (unitR m) (backD ds)) m (stepD (allD (unitR m) ds) d) ≠ unitR m := by
  have t1 := allD_tb (unit_tb hm) (unitR_len m) h
  have l1 : (allD (unitR m) ds).length = m := by rw [allD_len, unitR_len]
  have t2 : Tb m (stepD (allD (unitR m) ds) d) := ⟨by rw [stepD_len]; exact t1.1, hm, stepD_wide t1.2.2 l1 hd⟩
  have l2 : (stepD (allD (unitR m) ds) d).length = m := by rw [stepD_len]; exact l1
  rw [deeds_mul t2 l2 (backD_ok h)]
  intro e
  have e2 := allD_forth ds (stepD (allD (unitR m) ds) d) l2 h
  rw [e] at e2
  have e3 := further_mul hm h hd
  rw [← e2, there_back hm h] at e3
  exact hne e3.symm
theorem cols_mul {rs : List (List Int)} {w m : Nat} {b : Int} {ds : List Deed} (hT : Tb w rs) (hm : rs.length = m) (h : ∀ d ∈ ds, OkD w b d) :
    turnR m (allD (turnR w rs) ds) = mulR rs w (turnR w (allD (unitR w) ds)) := by
  subst hm
  have hu := allD_tb (unit_tb hT.2.1) (unitR_len w) h
  have hl : (allD (unitR w) ds).length = w := by rw [allD_len, unitR_len]
  rw [← deeds_mul (turn_tb hT.1 hT.2.1) turn_len h, turn_mul hu turn_len.symm, turn_turn hT, hl]

end K14

set_option Elab.async false
set_option linter.all false
set_option maxRecDepth 100000
set_option maxHeartbeats 1000000
namespace K14
open PySem PySem.Spec PyProof.Rows L2 Gd
variable {P : Program} {w : World} {K : PySem.W.Frag} {mg : Str → Option Value} {base : Heap}
def spRowTimes (K : PySem.W.Frag) : Sp := fun vs H Q _ => ∃ (v u : V) (r : List Int) (w : Nat) (rs : List (List Int)),
  vs = [v, u] ∧ Dp K H v (rowD r) ∧ Dp K H u (tabD w rs) ∧ Tb w rs ∧ r.length = rs.length ∧ Wd r ∧ (∀ t ∈ rs, Wd t) ∧
  ∀ (y : V) (H' : Hp), Same H H' → Dp K H' y (rowD (mulRow r w rs)) → Q y H'
theorem spRowTimes_len : ∀ vs H Q E, spRowTimes K vs H Q E → vs.length = 2 := by
  rintro vs H Q E ⟨v, u, r, w, rs, rfl, _⟩
  rfl
theorem ok_row_times (D : Df K mg "row_times" s_row_times) (B : Bn mg) :
    Has P w K mg base "row_times" 1 p_row_times (spRowTimes K) := by
  refine has_of (k := 0) D sc_row_times bn_row_times spRowTimes_len ?_
  rintro f cdv A outer s0 H vs Q E hr ⟨v, u, r, wd, rs, rfl, hv, hu, hT, hl, hs, hts, k⟩
  obtain ⟨pv', rfl, hrow⟩ := dp_row hv
  obtain ⟨pt, ur, rfl, htab, hrows⟩ := dp_tab hu
  obtain ⟨pr, xs, rfl, hxs, hall, hlen⟩ := dp_rows hrows
  have hT' := hT
  obtain ⟨t1, t2, t3⟩ := hT'
  refine ⟨_, (pss_cons (ps_asg (pv 1) (pg_tupK (K := K) (n := 2) (by rfl) (by rfl) (pgs_cons (pg_name (i := 2) sc_row_times.nd rfl (by first | exact Or.inl rfl | exact Or.inr rfl)) (pgs_cons (pg_name (i := 3) sc_row_times.nd rfl (by first | exact Or.inl rfl | exact Or.inr rfl)) pgs_nil))))
      (pss_one (ps_ret (pe_callTy (call_tupleK (K := K) (by rfl)) (by rfl) B.tuple_ (by decide +kernel) (pa_cons (pe_lc (own := [("k", 4)]) rfl sc_row_times.nd (pi_range1 (by rfl) B.range_ (pa_cons (pv 2) pa_nil)) (blkOk_by (own := [("k", 4)]) (N := n_row_times) (sc := defScope s_row_times) (by decide +kernel)) (fun _ _ _ _ _ => (pg_name (i := 4) sc_row_times.nd rfl (by first | exact Or.inl rfl | exact Or.inr rfl))) (fun _ _ _ _ _ => pts_nil) (fun _ _ _ _ _ => (pe_callB (call_sumK (K := K) (by rfl) (by rfl)) (by rfl) B.sum_ (by decide +kernel) (pa_cons (pe_lc (own := [("number", 5), ("other", 6)]) rfl sc_row_times.nd (pi_zipK (K := K) (by rfl) (by rfl) B.zip_ (pa_cons (pv 0) (pa_cons (pv 3) pa_nil))) (blkOk_by (own := [("number", 5), ("other", 6)]) (N := n_row_times) (sc := { kind := PySem.ScopeKind.function, names := [ (PySem.Str.ofString ".0", PySem.NameKind.local), (PySem.Str.ofString "k", PySem.NameKind.cell), (PySem.Str.ofString "sum", PySem.NameKind.globalImplicit), (PySem.Str.ofString "zip", PySem.NameKind.globalImplicit), (PySem.Str.ofString "row", PySem.NameKind.cell), (PySem.Str.ofString "rows", PySem.NameKind.cell)], isGenerator := false, isCoroutine := false, more := [] : PySem.Scope }) (by decide +kernel)) (fun _ _ _ _ _ => (pg_tupK (K := K) (n := 2) (by rfl) (by rfl) (pgs_cons (pg_name (i := 5) sc_row_times.nd rfl (by first | exact Or.inl rfl | exact Or.inr rfl)) (pgs_cons (pg_name (i := 6) sc_row_times.nd rfl (by first | exact Or.inl rfl | exact Or.inr rfl)) pgs_nil)))) (fun _ _ _ _ _ => pts_nil) (fun _ _ _ _ _ => (pe_op op_mulW (pv 5) (pe_ix (ix_tupK (K := K) (by rfl)) (pv 6) (pv 4) (fun _ _ => rfl))))) pa_nil)))) pa_nil))))), ?_⟩
  refine ⟨_, rfl, pt, _, rfl, htab, rfl, _, _, rfl, _, _, rfl, rfl, ?_⟩
  refine ⟨_, rfl, (wd : Int), rfl, by omega, by omega, fun D1 hD1 => ?_⟩
  refine lcr (K := K) (n := wd) (fun c => .int (((List.range r.length).map fun i => r.getD i 0 * ent rs i c).sum)) hD1 (by omega)
    (fun _ _ => by simp [tupOnly]) (fun _ => rfl) ?_ ?_
  · intro c H1 Q1 hc e1 k1
    refine ⟨_, rfl, _, rfl, pv', pr, _, _, rfl, .inr ⟨sqt_same e1 hrow, sqt_same e1 hxs, fun D2 hD2 => ?_⟩⟩
    refine lcz (K := K) (j1 := 5) (j2 := 6) (fun i => .int (r.getD i 0 * ent rs i c)) hD2 (by rw [List.length_map, hlen, hl]) (sqt_same e1 hrow) (sqt_same e1 hxs)
      (by rw [List.length_map]; omega) (fun _ _ => by simp [tupOnly]) (fun _ _ => rfl) (fun T x y H2 R h2 r2 => ⟨T, _, rfl, SqT.of h2, rfl, _, _, rfl, _, _, rfl, rfl, r2⟩) ?_ ?_
    · intro i x y H2 Q2 hx hy e2 k2
      obtain ⟨hi, rfl⟩ := row_get hx
      obtain ⟨hi2, py, rfl, hpy⟩ := rows_lt (DpAll.same (e1.trans e2) _ _ hall) hy
      have hlc : c < (rs.getD i []).length := by rw [hT.len hi2]; exact hc
      refine ⟨_, rfl, _, rfl, _, rfl, py, _, _, _, rfl, rfl, hpy, at_row0 hlc, _, _, rfl, rfl, wide_mul (hs.at i) (Wd.at (hts _ (Gd.getD_mem hi2)) c) (by decide) (by decide) (by decide), ?_⟩
      exact k2 _ _ (Same.refl _) (.int _)
    · intro H3 ys e3 h3 hd3
      rw [List.length_map] at hd3
      have ey := intsR hd3
      subst ey
      exact ⟨D2, _, rfl, SqL.of h3, k1 _ _ e3 (.int _)⟩
  · intro H1 ys e1 h1 hd1
    refine ⟨D1, ys, rfl, .inl ⟨SqL.of h1, fun p np => ?_⟩⟩
    have e2 := Same.new (o := .tup ys) np
    exact k _ _ (e1.trans e2) (mk_rowR (SqT.of upd_same) (DpAll.same e2 _ _ hd1))
def spTimes (K : PySem.W.Frag) : Sp := fun vs H Q _ => ∃ (v u : V) (w : Nat) (rs : List (List Int)) (w' : Nat) (ts : List (List Int)),
  vs = [v, u] ∧ Dp K H v (tabD w rs) ∧ Dp K H u (tabD w' ts) ∧ Tb w rs ∧ Tb w' ts ∧ w = ts.length ∧ (∀ r ∈ rs, Wd r) ∧ (∀ t ∈ ts, Wd t) ∧
  ∀ (y : V) (H' : Hp), Same H H' → Dp K H' y (tabD w' (mulR rs w' ts)) → Q y H'
theorem ok_times (D : Df K mg "times" s_times) (B : Bn mg)
    (h_row_times : Has P w K mg base "row_times" 1 p_row_times (spRowTimes K)) :
    Has P w K mg base "times" 2 p_times (spTimes K) := by
  refine has_of (k := 1) D sc_times bn_times ?_ ?_
  · rintro vs H Q E ⟨v, u, w, rs, w', ts, rfl, _⟩
    rfl
  rintro f cdv A outer s0 H vs Q E hr ⟨v, u, wd, rs, w', ts, rfl, hv, hu, hT, hT', hw, hs, hts, k⟩
  obtain ⟨a, ur, rfl, htab, hrows⟩ := dp_tab hv
  obtain ⟨pr, xs, rfl, hxs, hall, hlen⟩ := dp_rows hrows
  refine ⟨_, (pss_one (ps_ret (pe_tup (pa_cons (pe_ix (ix_tupK (K := K) (by rfl)) (pv 1) pe_int (fun _ _ => rfl)) (pa_cons (pe_callTy (call_tupleK (K := K) (by rfl)) (by rfl) B.tuple_ (by decide +kernel) (pa_cons (pe_lc (own := [("row", 2)]) rfl sc_times.nd (pi_tupK (K := K) (by rfl) (pe_ix (ix_tupK (K := K) (by rfl)) (pv 0) pe_int (fun _ _ => rfl))) (blkOk_by (own := [("row", 2)]) (N := n_times) (sc := defScope s_times) (by decide +kernel)) (fun _ _ _ _ _ => (pg_name (i := 2) sc_times.nd rfl (by first | exact Or.inl rfl | exact Or.inr rfl))) (fun _ _ _ _ _ => pts_nil) (fun _ _ _ _ _ => (pe_has (h_row_times) (hr.mono (by first | decide | omega)) (by rfl) (pa_cons (pv 2) (pa_cons (pv 1) pa_nil))))) pa_nil)) pa_nil))))), ?_⟩
  refine ⟨_, rfl, ?_⟩
  try dsimp only [tC, tNil]
  refine ix_dp (i := 0) hu rfl fun z hz => ?_
  have ez := dp_int hz
  subst ez
  refine ⟨_, rfl, a, _, 1, _, rfl, rfl, htab, rfl, pr, rfl, ⟨_, hxs⟩, fun D1 hD1 => ?_⟩
  refine lct (K := K) (j := 2) (fun i => rowD (mulRow (rs.getD i []) w' ts)) hD1 hxs (by have := hT.1; omega) (fun _ _ => rowD_tup _) (fun _ => rfl) ?_ ?_
  · intro i x H1 Q1 hx e1 k1
    have hall1 := DpAll.same e1 _ _ hall
    obtain ⟨hi, hdx⟩ := rows_at hall1 hx
    have hlt := (List.getElem?_eq_some_iff.mp hi).1
    refine ⟨_, rfl, _, rfl, x, u, _, w', ts, rfl, hdx, Dp.same e1 _ _ hu, hT', ?_, hs _ (Gd.getD_mem hlt), hts, fun y H2 e2 hy => k1 y H2 e2 hy⟩
    rw [hT.len hlt]
    exact hw
  · intro H1 ys e1 h1 hd1
    rw [hlen] at hd1
    try dsimp only [tC, tNil]
    refine tupL_dp h1 hd1 fun v2 H2 e2 hv2 => ?_
    rw [mapR_rows] at hv2
    try dsimp only [tC, tNil]
    refine tup_dp (K := K) (.cons (.int _) (.cons hv2 .nil)) (by simp) fun v3 H3 e3 hv3 => ?_
    exact k _ _ ((e1.trans e2).trans e3) hv3

def spTurn (K : PySem.W.Frag) : Sp := fun vs H Q _ => ∃ (v : V) (w : Nat) (rs : List (List Int)),
  vs = [v] ∧ Dp K H v (tabD w rs) ∧ Tb w rs ∧
  ∀ (y : V) (H' : Hp), Same H H' → Dp K H' y (tabD rs.length (turnR w rs)) → Q y H'
theorem spTurn_len : ∀ vs H Q E, spTurn K vs H Q E → vs.length = 1 := by
  rintro vs H Q E ⟨v, w, rs, rfl, _⟩
  rfl
theorem ok_turned_over (D : Df K mg "turned_over" s_turned_over) (B : Bn mg) :
    Has P w K mg base "turned_over" 1 p_turned_over (spTurn K) := by
  refine has_of (k := 0) D sc_turned_over bn_turned_over spTurn_len ?_
  rintro f cdv A outer s0 H vs Q E hr ⟨v, wd, rs, rfl, hv, hT, k⟩
  obtain ⟨a, ur, rfl, htab, hrows⟩ := dp_tab hv
  obtain ⟨pr, xs, rfl, hxs, hall, hlen⟩ := dp_rows hrows
  have hT' := hT
  obtain ⟨t1, t2, t3⟩ := hT'
  refine ⟨_, (pss_cons (ps_asg (pv 0) (pg_tupK (K := K) (n := 2) (by rfl) (by rfl) (pgs_cons (pg_name (i := 1) sc_turned_over.nd rfl (by first | exact Or.inl rfl | exact Or.inr rfl)) (pgs_cons (pg_name (i := 2) sc_turned_over.nd rfl (by first | exact Or.inl rfl | exact Or.inr rfl)) pgs_nil))))
      (pss_one (ps_ret (pe_tup (pa_cons (pe_callB (call_lenK (K := K) (by rfl)) (by rfl) B.len_ (by decide +kernel) (pa_cons (pv 2) pa_nil)) (pa_cons (pe_callTy (call_tupleK (K := K) (by rfl)) (by rfl) B.tuple_ (by decide +kernel) (pa_cons (pe_lc (own := [("k", 3)]) rfl sc_turned_over.nd (pi_range1 (by rfl) B.range_ (pa_cons (pv 1) pa_nil)) (blkOk_by (own := [("k", 3)]) (N := n_turned_over) (sc := defScope s_turned_over) (by decide +kernel)) (fun _ _ _ _ _ => (pg_name (i := 3) sc_turned_over.nd rfl (by first | exact Or.inl rfl | exact Or.inr rfl))) (fun _ _ _ _ _ => pts_nil) (fun _ _ _ _ _ => (pe_callTy (call_tupleK (K := K) (by rfl)) (by rfl) B.tuple_ (by decide +kernel) (pa_cons (pe_lc (own := [("row", 4)]) rfl sc_turned_over.nd (pi_tupK (K := K) (by rfl) (pv 2)) (blkOk_by (own := [("row", 4)]) (N := n_turned_over) (sc := { kind := PySem.ScopeKind.function, names := [ (PySem.Str.ofString ".0", PySem.NameKind.local), (PySem.Str.ofString "k", PySem.NameKind.cell), (PySem.Str.ofString "tuple", PySem.NameKind.globalImplicit), (PySem.Str.ofString "rows", PySem.NameKind.cell)], isGenerator := false, isCoroutine := false, more := [] : PySem.Scope }) (by decide +kernel)) (fun _ _ _ _ _ => (pg_name (i := 4) sc_turned_over.nd rfl (by first | exact Or.inl rfl | exact Or.inr rfl))) (fun _ _ _ _ _ => pts_nil) (fun _ _ _ _ _ => (pe_ix (ix_tupK (K := K) (by rfl)) (pv 4) (pv 3) (fun _ _ => rfl)))) pa_nil)))) pa_nil)) pa_nil)))))), ?_⟩
  refine ⟨_, rfl, a, _, rfl, htab, rfl, _, _, rfl, _, _, rfl, rfl, ?_⟩
  refine ⟨_, rfl, pr, _, rfl, .inr hxs, ?_⟩
  rw [hlen]
  refine ⟨_, rfl, (wd : Int), rfl, by omega, by omega, fun D1 hD1 => ?_⟩
  refine lcr (K := K) (n := wd) (fun c => rowD ((List.range rs.length).map fun i => ent rs i c)) hD1 (by omega) (fun _ _ => rowD_tup _) (fun _ => rfl) ?_ ?_
  · intro c H1 Q1 hc e1 k1
    have hxs1 := sqt_same e1 hxs
    refine ⟨_, rfl, pr, rfl, ⟨_, hxs1⟩, fun D2 hD2 => ?_⟩
    refine lct (K := K) (j := 4) (fun i => .int (ent rs i c)) hD2 hxs1 (by omega) (fun _ _ => by simp [tupOnly]) (fun _ => rfl) ?_ ?_
    · intro i x H2 Q2 hx e2 k2
      obtain ⟨hi, p, rfl, hp⟩ := rows_lt (DpAll.same (e1.trans e2) _ _ hall) hx
      have hlc : c < (rs.getD i []).length := by rw [hT.len hi]; exact hc
      exact ⟨_, rfl, _, rfl, p, _, _, _, rfl, rfl, hp, at_row0 hlc, k2 _ _ (Same.refl _) (.int _)⟩
    · intro H3 ys e3 h3 hd3
      rw [hlen] at hd3
      try dsimp only [tC, tNil]
      refine tupL_dp h3 hd3 fun v2 H2 e2 hv2 => ?_
      rw [mapR_row] at hv2
      exact k1 _ _ (e3.trans e2) hv2
  · intro H1 ys e1 h1 hd1
    try dsimp only [tC, tNil]
    refine tupL_dp h1 hd1 fun v2 H2 e2 hv2 => ?_
    rw [mapR_rows] at hv2
    try dsimp only [tC, tNil]
    refine tup_dp (K := K) (.cons (.int _) (.cons hv2 .nil)) (by simp) fun v3 H3 e3 hv3 => ?_
    exact k _ _ ((e1.trans e2).trans e3) hv3

end K14

set_option Elab.async false
set_option linter.all false
set_option maxRecDepth 100000
set_option maxHeartbeats 1000000
namespace K14
open PySem PySem.Spec PyProof.Rows L2 Gd
variable {P : Program} {w : World} {K : PySem.W.Frag} {mg : Str → Option Value} {base : Heap}
def spChoices : Sp := fun vs H Q _ => ∃ (many k : Nat), vs = [.int many, .int k] ∧ many ≤ 7 ∧ k ≤ 7 ∧
  ∀ (l : Addr) (H' : Hp) (xs : List V), Same H H' → H' l = some (.lst xs) → Tts H' xs (choicesM many k) → Q (.ref l) H'
theorem ok_choices (D : Df K mg "choices" s_choices) (B : Bn mg) : Has P w K mg base "choices" 1 p_choices spChoices := by
  refine has_of (k := 0) D sc_choices bn_choices ?_ ?_
  · rintro vs H Q E ⟨many, k, rfl, _⟩
    rfl
  rintro f cdv A outer s0 H vs Q E hr ⟨many, k, rfl, hm, hk, kk⟩
  refine ⟨_, (pss_cons (ps_asg (pe_lst (pa_cons (pe_tup pa_nil) pa_nil)) (pg_name (i := 2) sc_choices.nd rfl (by first | exact Or.inl rfl | exact Or.inr rfl)))
      (pss_cons (ps_for PassesOwn.never rfl (pi_range1 (by rfl) B.range_ (pa_cons (pv 1) pa_nil)) (pg_name (i := 3) sc_choices.nd rfl (by first | exact Or.inl rfl | exact Or.inr rfl)) (pss_one (ps_setLc2 (i := 2) (own := [("chosen", 4), ("n", 5)]) (vs1 := [5]) rfl sc_choices.nd rfl rfl (sw_true rfl rfl rfl (by decide +kernel)) (pi_listK (K := K) (by rfl) (pv 2)) (blkOk_by (own := [("chosen", 4), ("n", 5)]) (N := n_choices) (sc := defScope s_choices) (by decide +kernel)) (by decide) (fun _ _ _ _ _ => (pg_name (i := 4) sc_choices.nd rfl (by first | exact Or.inl rfl | exact Or.inr rfl))) (fun _ _ _ _ _ => pts_nil) (fun _ _ _ _ _ => (pi_range1 (by rfl) B.range_ (pa_cons (pv 0) pa_nil))) (fun _ _ _ _ _ => (pg_name (i := 5) sc_choices.nd rfl (by first | exact Or.inl rfl | exact Or.inr rfl))) (fun _ _ _ _ _ => (pts_one (PW.pt (pw_or (pt_cmpR op_eq (pv 3) pe_int (nomark _)) (pw_or1 (pt_cmpR op_gt (pv 5) (pe_ix (ix_tupK (K := K) (by rfl)) (pv 4) (pe_un un_neg pe_int) (fun _ _ => rfl)) (nomark _))))))) (fun _ _ _ _ _ => (pe_op (op_catK (K := K) (by rfl)) (pv 4) (pe_tup (pa_cons (pv 5) pa_nil)))))))
      (pss_one (ps_ret (pv 2))))), ?_⟩
  refine ⟨by decide, fun p0 n0 => ?_⟩
  have e0 := Same.new (o := .tup []) n0
  refine ⟨by show 1 ≤ sizeLine; decide, fun l0 nl0 => ?_⟩
  have e1 := Same.new (o := .lst [.ref p0]) nl0
  refine ⟨_, rfl, (k : Int), rfl, by omega, by omega, for_range (lo := 0) (n := k) (fun i σ H' => ∃ (l : Addr) (xs : List V) (v3 v4 v5 : Option V),
    σ = [some (.int many), some (.int k), some (.ref l), v3, v4, v5] ∧ Same H H' ∧ H' l = some (.lst xs) ∧ Tts H' xs (choicesM many i)) ?_ ?_ ?_⟩
  · exact ⟨l0, _, _, _, _, rfl, e0.trans e1, upd_same, .cons (c := []) (e1 _ _ upd_same) .nil⟩
  · rintro i σ H' hi ⟨l, xs, v3, v4, v5, rfl, e, hl, t⟩
    refine ⟨_, rfl, l, rfl, ⟨_, SqL.of hl⟩, fun D1 hD1 => ?_⟩
    refine lcG (K := K) (a := l) (xs := xs) (fun p H2 => ∃ ys, Same H' H2 ∧ H2 D1 = some (.lst ys) ∧ Tts H2 ys (((choicesM many i).take p).flatMap (extM many i))) ?_ ?_ ?_ ?_
    · exact ⟨[], Same.new hD1, upd_same, .nil⟩
    · rintro p H2 _ ⟨ys, e2, _, _⟩
      exact SqL.of (e2 _ _ hl)
    · rintro p x H2 hx ⟨ys, e2, hD2, t2⟩
      obtain ⟨b, c, rfl, hc, hb⟩ := (t.same e2).get hx
      obtain ⟨hc1, hc2⟩ := choices_mem (List.mem_of_getElem? hc)
      have bound : ((choicesM many i).take p).length ≤ 35 := by
        have := (choice_facts many (by omega) i (by omega)).2
        rw [List.length_take]
        omega
      refine ⟨rfl, ?_⟩
      unfold tYes
      dsimp only
      rw [if_pos rfl]
      refine ⟨_, rfl, (many : Int), rfl, by omega, by omega, ?_⟩
      refine lcGr (lo := 0) (n := many) (fun q H3 => ∃ ys, Same H' H3 ∧ H3 D1 = some (.lst ys) ∧ H3 b = some (.tup (nV c)) ∧ Tts H3 ys (((choicesM many i).take p).flatMap (extM many i) ++ extM q i c)) ?_ ?_ ?_
      · exact ⟨ys, e2, hD2, hb, by simpa [extM] using t2⟩
      · rintro q H3 hq ⟨ys, e3, hD3, hb3, t3⟩
        have hlen : ys.length ≤ 35 * 7 + 7 := by
          rw [t3.len, List.length_append]
          have h1 := flat_len (many := many) (size := i) ((choicesM many i).take p)
          have h2 := ext_len q i c
          have h3 : ((choicesM many i).take p).length * many ≤ 35 * 7 := Nat.mul_le_mul bound hm
          omega
        have fin : goN i c q = true → ∀ Hx, Hx = H3 → tOp (rCatA K) (tVar 4) (tTup (tCons (tVar 5) tNil)) [some (.int many), some (.int k), some (.ref l), some (.int (0 + (i : Int))), some (.ref b), some (.int (0 + (q : Int)))] Hx
            fun y H7 => ∃ acc, H7 D1 = some (.lst acc) ∧ acc.length < sizeLine ∧ ∃ ys, Same H' (upd H7 D1 (.lst (acc ++ [y]))) ∧ (upd H7 D1 (.lst (acc ++ [y]))) D1 = some (.lst ys) ∧ (upd H7 D1 (.lst (acc ++ [y]))) b = some (.tup (nV c)) ∧
              Tts (upd H7 D1 (.lst (acc ++ [y]))) ys (((choicesM many i).take p).flatMap (extM many i) ++ extM (q + 1) i c) := by
          rintro hgo _ rfl
          refine ⟨_, rfl, _, rfl, by show 1 ≤ sizeLine; decide, fun p1 np => ?_⟩
          have ep := Same.new (o := .tup [.int (0 + (q : Int))]) np
          refine own_cat (c := c) (d := [q]) (ep _ _ hb3) (by rw [upd_same, Int.zero_add]; rfl) (by rw [hc1]; show i + 1 ≤ 1000; omega) fun p2 H4 e4 h4 => ?_
          have e34 := ep.trans e4
          have hD4 := e34 _ _ hD3
          have tk := Tk.put (zs := ys ++ [.ref p2]) hD4
          refine ⟨ys, hD4, Nat.lt_of_le_of_lt hlen (by decide), ys ++ [.ref p2], Gd.Same.put (e3.trans e34) hD1, upd_same, tk _ _ (fun _ z => by cases z) (e34 _ _ hb3), ?_⟩
          rw [ext_succ, if_pos hgo, ← List.append_assoc]
          exact ((t3.same e34).tk tk).snoc (tk _ _ (fun _ z => by cases z) h4)
        refine ⟨rfl, ?_⟩
        refine ⟨_, rfl, rfl, _, rfl, ?_⟩
        refine ite2 (fun h0 => ?_) (fun h0 => ?_)
        · have h0 : i = 0 := by
            have := of_decide_eq_true h0
            simp only [V.int.injEq] at this
            omega
          dsimp only
          rw [if_pos rfl]
          exact fin (by unfold goN; simp [h0]) H3 rfl
        · have h0 : i ≠ 0 := fun z => h0 (decide_eq_true (by rw [z]; rfl))
          refine ⟨_, rfl, _, rfl, _, rfl, b, nV c, _, _, rfl, rfl, SqT.of hb3, atI_last (by omega), _, _, rfl, rfl, _, rfl, ?_⟩
          refine ite2 (fun h1 => ?_) (fun h1 => ?_)
          · have h1 := of_decide_eq_true h1
            exact fin (by unfold goN; simp [h0]; omega) H3 rfl
          · refine ⟨ys, e3, hD3, hb3, ?_⟩
            have hg : goN i c q ≠ true := fun z => h1 (decide_eq_true (by
              unfold goN at z
              simp [h0] at z
              omega))
            rw [ext_succ, if_neg hg, List.append_nil]
            exact t3
      · rintro H3 ⟨ys, e3, hD3, hb3, t3⟩
        exact ⟨ys, e3, hD3, by rw [flat_take hc]; exact t3⟩
    · rintro H2 ⟨ys, e2, hD2, t2⟩
      refine ⟨D1, ys, _, _, _, rfl, e.trans e2, hD2, ?_⟩
      rw [t.len, List.take_length] at t2
      exact t2
  · rintro σ H' ⟨l, xs, v3, v4, v5, rfl, e, hl, t⟩
    exact ⟨_, rfl, kk l H' xs e hl t⟩

def spWithout : Sp := fun vs H Q _ => ∃ (a : Addr) (c : List Nat) (p : Nat), vs = [.ref a, .int p] ∧ H a = some (.tup (nV c)) ∧ c.length ≤ 100 ∧
  ∀ (q : Addr) (H' : Hp), Same H H' → H' q = some (.tup (nV (er c p))) → Q (.ref q) H'
theorem ok_without (D : Df K mg "without" s_without) (B : Bn mg) : Has P w K mg base "without" 1 p_without spWithout := by
  refine has_of (k := 0) D sc_without bn_without ?_ ?_
  · rintro vs H Q E ⟨a, c, p, rfl, _⟩
    rfl
  rintro f cdv A outer s0 H vs Q E hr ⟨a, c, p, rfl, ha, hc, kk⟩
  refine ⟨_, (pss_one (ps_ret (pe_op (op_catK (K := K) (by rfl)) (pe_slice (sl_tupK (K := K) (by rfl)) (pv 0) po_none (po_some (pv 1))) (pe_slice (sl_tupK (K := K) (by rfl)) (pv 0) (po_some (pe_op op_add (pv 1) pe_int)) po_none)))), ?_⟩
  refine ⟨_, rfl, _, rfl, p, rfl, ?_⟩
  refine own_to (i := p) rfl ha fun q1 H1 e1 h1 => ?_
  refine ⟨_, rfl, _, rfl, _, _, rfl, rfl, _, rfl, ?_⟩
  dsimp only [tNoPart]
  refine own_from (i := p + 1) (by omega) (e1 _ _ ha) fun q2 H2 e2 h2 => ?_
  refine own_cat (e2 _ _ h1) h2 ?_ fun q3 H3 e3 h3 => kk q3 H3 ((e1.trans e2).trans e3) h3
  rw [List.length_take, List.length_drop]
  omega
theorem det_wd : ∀ (rs : List (List Int)) (c : List Nat), (∀ r ∈ rs, Wd r) → c.length ≤ 7 → (detM rs c).natAbs ≤ 2 ^ (4003 * rs.length)
  | [], c, _, _ => by
    show (1 : Int).natAbs ≤ 2 ^ (4003 * 0)
    decide
  | r :: rs, c, h, hc => by
    rw [det_cons]
    have key : ∀ n ≤ c.length, (sumR n fun p => sg p * (r.getD (c.getD p 0) 0 * detM rs (er c p))).natAbs ≤ n * (2 ^ 4000 * 2 ^ (4003 * rs.length)) := by
      intro n
      induction n with
      | zero => intro _; rw [sumR_zero]; simp
      | succ n ih =>
        intro hn
        have ih := ih (by omega)
        rw [sumR_succ]
        have b1 := Wd.at (h r (List.mem_cons_self ..)) (c.getD n 0)
        have b2 := det_wd rs (er c n) (fun x hx => h x (List.mem_cons_of_mem _ hx)) (by rw [er_len (by omega)]; omega)
        have b3 : (sg n * (r.getD (c.getD n 0) 0 * detM rs (er c n))).natAbs ≤ 2 ^ 4000 * 2 ^ (4003 * rs.length) := by
          rw [Int.natAbs_mul, Int.natAbs_mul]
          have : (sg n).natAbs = 1 := by
            unfold sg
            split <;> rfl
          rw [this, Nat.one_mul]
          exact Nat.mul_le_mul (Nat.le_of_lt b1) b2
        generalize 2 ^ 4000 * 2 ^ (4003 * rs.length) = N at ih b3 ⊢
        rw [Nat.add_mul, Nat.one_mul]
        exact Nat.le_trans (Int.natAbs_add_le _ _) (Nat.add_le_add ih b3)
    have k := key c.length (Nat.le_refl _)
    have e : (2 : Nat) ^ (4003 * (r :: rs).length) = 8 * (2 ^ 4000 * 2 ^ (4003 * rs.length)) := by
      rw [List.length_cons, Nat.mul_add, Nat.pow_add, Nat.mul_one, show 4003 = 3 + 4000 from rfl, Nat.pow_add 2 3 4000]
      generalize 2 ^ ((3 + 4000) * rs.length) = M
      generalize 2 ^ 4000 = N
      grind
    rw [e]
    exact Nat.le_trans k (Nat.mul_le_mul_right _ (by omega))
theorem det_wd7 {rs : List (List Int)} {c : List Nat} (h : ∀ r ∈ rs, Wd r) (hr : rs.length ≤ 7) (hc : c.length ≤ 7) : (detM rs c).natAbs < 2 ^ 40000 :=
  Nat.lt_of_le_of_lt (det_wd rs c h hc) (Nat.pow_lt_pow_right (by decide) (by omega))
def spFirst (K : PySem.W.Frag) : Sp := fun vs H Q _ => ∃ (v : V) (b g : Addr) (r : List Int) (c : List Nat) (kvs : List (List L2.Key × V)) (fv : List Nat → Int), vs = [v, .ref b, .ref g] ∧
  Dp K H v (rowD r) ∧ Wd r ∧ H b = some (.tup (nV c)) ∧ c.length ≤ 100 ∧ (∀ n ∈ c, n < r.length) ∧ H g = some (.dT kvs) ∧ (∀ p < c.length, valV kvs (kc (er c p)) = some (.int (fv (er c p)))) ∧ (∀ p < c.length, (fv (er c p)).natAbs < 2 ^ 40000) ∧
  ∀ H', Same H H' → Q (.int (rowM r c fv c.length)) H'
theorem ok_corner_by_first_row (D : Df K mg "corner_by_first_row" s_corner_by_first_row) (B : Bn mg) (h_without : Has P w K mg base "without" 1 p_without spWithout) :
    Has P w K mg base "corner_by_first_row" 2 p_corner_by_first_row (spFirst K) := by
  refine has_of (k := 1) D sc_corner_by_first_row bn_corner_by_first_row ?_ ?_
  · rintro vs H Q E ⟨v, b, g, r, c, kvs, fv, rfl, _⟩
    rfl
  rintro f cdv A outer s0 H vs Q E hr ⟨v, b, g, r, c, kvs, fv, rfl, hv, sm, hb, hc, hin, hg, hval, hbd, kk⟩
  refine ⟨_, (pss_cons (ps_asg pe_int (pg_name (i := 3) sc_corner_by_first_row.nd rfl (by first | exact Or.inl rfl | exact Or.inr rfl)))
      (pss_cons (ps_for PassesOwn.never rfl (pi_enumK (K := K) (by rfl) (by rfl) B.enumerate_ (pa_cons (pv 1) pa_nil)) (pg_tupK (K := K) (n := 2) (by rfl) (by rfl) (pgs_cons (pg_name (i := 4) sc_corner_by_first_row.nd rfl (by first | exact Or.inl rfl | exact Or.inr rfl)) (pgs_cons (pg_name (i := 5) sc_corner_by_first_row.nd rfl (by first | exact Or.inl rfl | exact Or.inr rfl)) pgs_nil))) (pss_cons (ps_asg (pe_op op_mulW (pe_ix (ix_tupK (K := K) (by rfl)) (pv 0) (pv 5) (fun _ _ => rfl)) (pe_dget (by have hu_ := hr.units; exact (show (A.deeper _).units + 1 < cLine by omega)) (pv 2) (pe_has (h_without) (hr.mono (by first | decide | omega)) (by rfl) (pa_cons (pv 1) (pa_cons (pv 4) pa_nil))) (fun _ _ => rfl))) (pg_name (i := 6) sc_corner_by_first_row.nd rfl (by first | exact Or.inl rfl | exact Or.inr rfl)))
      (pss_one (ps_if (pt_cmpR op_eq (pe_op op_modN (pv 4) pe_int) pe_int (nomark _)) (pss_one (ps_aug (i := 3) sc_corner_by_first_row.nd rfl (by first | exact Or.inl rfl | rfl) (pv 6) ip_add)) (pss_one (ps_aug (i := 3) sc_corner_by_first_row.nd rfl (by first | exact Or.inl rfl | rfl) (pv 6) ip_sub))))))
      (pss_one (ps_ret (pv 3))))), ?_⟩
  refine ⟨_, rfl, b, nV c, rfl, SqT.of hb, for_enumT (K := K) (xs := nV c) (fun i σ H' => Same H H' ∧ ∃ v4 v5 v6 : Option V,
    σ = [some v, some (.ref b), some (.ref g), some (.int (rowM r c fv i)), v4, v5, v6]) ?_ ?_ ?_ ?_⟩
  · exact ⟨Same.refl H, _, _, _, rfl⟩
  · rintro i σ H' ⟨e, _⟩
    exact SqT.of (e _ _ hb)
  · rintro i x T σ H' hx ⟨e, v4, v5, v6, rfl⟩ nT
    have eT := Same.new (o := .tup [.int (i : Nat), x]) nT
    have hi : i < c.length := by
      have := (List.getElem?_eq_some_iff.mp hx).1
      rw [nV_len] at this
      exact this
    rw [nV_get hi] at hx
    cases hx
    refine ⟨T, _, rfl, SqT.of upd_same, rfl, _, _, rfl, _, _, rfl, rfl, ?_⟩
    have e1 := e.trans eT
    have hn : c.getD i 0 < r.length := hin _ (Gd.getD_mem (d := 0) hi)
    refine ⟨_, rfl, _, rfl, ?_⟩
    refine ix_dp (Dp.same e1 _ _ hv) (row_getD hn) fun y hy => ?_
    cases hy
    refine ⟨_, rfl, _, rfl, _, rfl, b, c, i, rfl, e1 _ _ hb, hc, fun q H2 e2 hq => ?_⟩
    refine ⟨g, .int (fv (er c i)), rfl, ?_, ?_⟩
    · rw [← hval i hi]
      exact DGet.t (e2 _ _ (e1 _ _ hg)) (by rw [kc_map]; exact hq)
    refine ⟨_, _, rfl, rfl, ?_, ?_⟩
    · exact wide_mul (sm _ (Gd.getD_mem (d := 0) hn)) (hbd i hi) (by decide) (by decide) (by decide)
    have e3 := e1.trans e2
    have hs : rowM r c fv (i + 1) = rowM r c fv i + sgnT i (r.getD (c.getD i 0) 0 * fv (er c i)) := sumR_succ ..
    refine ⟨_, rfl, _, _, rfl, rfl, (by show (2 : Int) ≠ 0; decide), rfl, _, rfl, ?_⟩
    refine ite2 (fun h0 => ?_) (fun h0 => ?_)
    · have h0 := of_decide_eq_true h0
      simp only [V.int.injEq] at h0
      have h1 : i % 2 = 0 := by
        rw [Int.fmod_eq_emod_of_nonneg _ (by decide)] at h0
        omega
      refine ⟨_, rfl, _, rfl, _, _, rfl, rfl, e3, ?_⟩
      rw [hs, sgnT, if_pos h1]
      exact ⟨_, _, _, rfl⟩
    · have h1 : ¬ i % 2 = 0 := fun z => h0 (decide_eq_true (by
        show V.int (Int.fmod (i : Int) 2) = V.int 0
        rw [Int.fmod_eq_emod_of_nonneg _ (by decide)]
        congr 1
        omega))
      refine ⟨_, rfl, _, rfl, _, _, rfl, rfl, e3, ?_⟩
      rw [hs, sgnT, if_neg h1, ← Int.sub_eq_add_neg]
      exact ⟨_, _, _, rfl⟩
  · rintro σ H' ⟨e, v4, v5, v6, rfl⟩
    rw [nV_len]
    exact ⟨_, rfl, kk H' e⟩

def mapD (cs : List (List Nat)) (fv : List Nat → Int) : List (List L2.Key × V) := cs.map fun c => (kc c, V.int (fv c))
theorem mapD_val {cs : List (List Nat)} {fv : List Nat → Int} {c : List Nat} (h : c ∈ cs) : valV (mapD cs fv) (kc c) = some (.int (fv c)) := val_map (v := fun c => V.int (fv c)) h
theorem mapD_snoc {cs : List (List Nat)} {fv : List Nat → Int} {c : List Nat} (h : c ∉ cs) : putK (mapD cs fv) (kc c) (.int (fv c)) = mapD (cs ++ [c]) fv := by
  rw [put_new]
  · unfold mapD
    rw [List.map_append]
    rfl
  · intro kv hkv e
    obtain ⟨d, hd, rfl⟩ := List.mem_map.mp hkv
    rw [kc_inj e] at hd
    exact h hd
/-- the rows behind: the last s of them -/
def lastR (rs : List (List Int)) (s : Nat) : List (List Int) := rs.drop (rs.length - s)
theorem lastR_succ {rs : List (List Int)} {s : Nat} (h : s < rs.length) : lastR rs (s + 1) = rs.getD (rs.length - (s + 1)) [] :: lastR rs s := by
  unfold lastR
  have e : rs.length - s = rs.length - (s + 1) + 1 := by omega
  rw [List.drop_eq_getElem_cons (by omega), e, List.getD_eq_getElem?_getD, List.getElem?_eq_getElem (by omega)]
  rfl
theorem nodup_take {cs : List (List Nat)} {p : Nat} {c : List Nat} (h : cs.Nodup) (hc : cs[p]? = some c) : c ∉ cs.take p := by
  intro hm
  rw [← List.take_append_drop p cs] at h
  exact (List.nodup_append.mp h).2.2 c hm c (List.mem_of_getElem? (i := 0) (by rw [List.getElem?_drop]; exact hc)) rfl
def spCols (K : PySem.W.Frag) : Sp := fun vs H Q _ => ∃ (v : V) (wd : Nat) (rs : List (List Int)), vs = [.int wd, v] ∧ Dp K H v (rowsD rs) ∧ (∀ r ∈ rs, r.length = wd ∧ Wd r) ∧ wd ≤ 7 ∧ rs.length ≤ 7 ∧
  ∀ (g : Addr) (H' : Hp), Same H H' → H' g = some (.dT (mapD (choicesM wd rs.length) (detM rs))) → Q (.ref g) H'
theorem ok_corners_by_columns (D : Df K mg "corners_by_columns" s_corners_by_columns) (B : Bn mg) (h_choices : Has P w K mg base "choices" 1 p_choices spChoices)
    (h_corner_by_first_row : Has P w K mg base "corner_by_first_row" 2 p_corner_by_first_row (spFirst K)) :
    Has P w K mg base "corners_by_columns" 3 p_corners_by_columns (spCols K) := by
  refine has_of (k := 2) D sc_corners_by_columns bn_corners_by_columns ?_ ?_
  · rintro vs H Q E ⟨v, wd, rs, rfl, _⟩
    rfl
  rintro f cdv A outer s0 H vs Q E hr ⟨v, wd, rs, rfl, hv, hrs, hwd, hm, kk⟩
  obtain ⟨pr, xs, rfl, hxs, hall, hlen⟩ := dp_rows hv
  have hlx : xs.length = rs.length := hlen
  refine ⟨_, (pss_cons (ps_asg (pe_disp1T (by have hu_ := hr.units; exact (show (A.deeper _).units < cLine by omega)) (pe_tup pa_nil) pe_int) (pg_name (i := 2) sc_corners_by_columns.nd rfl (by first | exact Or.inl rfl | exact Or.inr rfl)))
      (pss_cons (ps_for PassesOwn.never rfl (pi_range2 (by rfl) B.range_ (pa_cons pe_int (pa_cons (pe_op op_add (pe_callB (call_lenK (K := K) (by rfl)) (by rfl) B.len_ (by decide +kernel) (pa_cons (pv 1) pa_nil)) pe_int) pa_nil))) (pg_name (i := 3) sc_corners_by_columns.nd rfl (by first | exact Or.inl rfl | exact Or.inr rfl)) (pss_cons (ps_asg (pe_ix (ix_tupK (K := K) (by rfl)) (pv 1) (pe_un un_neg (pv 3)) (fun _ _ => rfl)) (pg_name (i := 4) sc_corners_by_columns.nd rfl (by first | exact Or.inl rfl | exact Or.inr rfl)))
      (pss_one (ps_asg (pe_dcT (own := [("columns", 5)]) (by have hu_ := hr.units; exact (show (A.deeper _).units < cLine by omega)) rfl sc_corners_by_columns.nd (pi_listK (K := K) (by rfl) (pe_has (h_choices) (hr.mono (by first | decide | omega)) (by rfl) (pa_cons (pv 0) (pa_cons (pv 3) pa_nil)))) (blkOk_by (own := [("columns", 5)]) (N := n_corners_by_columns) (sc := defScope s_corners_by_columns) (by decide +kernel)) (fun _ _ _ _ _ => (pg_name (i := 5) sc_corners_by_columns.nd rfl (by first | exact Or.inl rfl | exact Or.inr rfl))) (fun _ _ _ _ _ => pts_nil) (fun _ _ _ _ _ => (pv 5)) (fun _ _ _ _ _ => (pe_has (h_corner_by_first_row) (hr.mono (by first | decide | omega)) (by rfl) (pa_cons (pv 4) (pa_cons (pv 5) (pa_cons (pv 2) pa_nil)))))) (pg_name (i := 2) sc_corners_by_columns.nd rfl (by first | exact Or.inl rfl | exact Or.inr rfl))))))
      (pss_one (ps_ret (pv 2))))), ?_⟩
  refine fun g0 ng0 => ?_
  have eg := Same.new (o := .dT []) ng0
  refine ⟨by decide, fun p0 np0 => ?_⟩
  have ep := Same.new (o := .tup []) np0
  refine ⟨[], p0, .int 1, rfl, upd_same, ep _ _ upd_same, ?_⟩
  refine ⟨_, rfl, pr, _, rfl, .inr (sqt_same ?_ hxs), _, _, rfl, rfl, 1, _, rfl, ⟨by decide, by decide, by omega, by omega⟩, ?_⟩
  · exact Gd.Same.put (eg.trans ep) ng0
  have e1 : ((xs.length : Int) + 1 - 1).toNat = rs.length := by omega
  rw [e1]
  refine for_range (lo := 1) (n := rs.length) (fun i σ H' => ∃ (g : Addr) (v3 v4 v5 : Option V), Same H H' ∧ H' g = some (.dT (mapD (choicesM wd i) (detM (lastR rs i)))) ∧
    σ = [some (.int wd), some (.ref pr), some (.ref g), v3, v4, v5]) ?_ ?_ ?_
  · refine ⟨g0, _, _, _, Gd.Same.put (eg.trans ep) ng0, ?_, rfl⟩
    rw [upd_same]
    unfold lastR
    rw [Nat.sub_zero, List.drop_length]
    rfl
  · rintro i σ H' hi ⟨g, v3, v4, v5, e, hg, rfl⟩
    have hj : rs.length - (i + 1) < rs.length := by omega
    obtain ⟨x, hx, hdx⟩ := dpa_at _ _ (rs.length - (i + 1)) _ (DpAll.same e _ _ hall) (rows_getD hj)
    obtain ⟨hrl, hrm⟩ := hrs _ (Gd.getD_mem (d := []) hj)
    have hat : atI xs (-(1 + (i : Int))) = some x := by
      unfold atI
      have := ixN_back (n := xs.length) (s := i + 1) (by omega) (by omega)
      rw [show (-(1 + (i : Int))) = -((i + 1 : Nat) : Int) by omega, this, hlx]
      exact hx
    refine ⟨_, rfl, _, rfl, _, rfl, pr, xs, _, x, rfl, rfl, sqt_same e hxs, hat, ?_⟩
    refine ⟨_, rfl, _, rfl, wd, i + 1, ?_, hwd, by omega, fun l H1 xs1 e1 hl1 t1 => ⟨l, rfl, ⟨_, SqL.of hl1⟩, fun D1 hD1 => ?_⟩⟩
    · rw [show ((i + 1 : Nat) : Int) = 1 + (i : Int) by omega]
      rfl
    have ed : detM (lastR rs (i + 1)) = fun c => rowM (rs.getD (rs.length - (i + 1)) []) c (detM (lastR rs i)) c.length := by
      rw [lastR_succ hi]
      rfl
    have facts := choice_facts wd (by omega) (i + 1) (by omega)
    refine lcG (K := K) (a := l) (xs := xs1) (fun p H2 => Same H1 H2 ∧ H2 D1 = some (.dT (mapD ((choicesM wd (i + 1)).take p) (detM (lastR rs (i + 1)))))) ?_ ?_ ?_ ?_
    · exact ⟨Same.new hD1, upd_same⟩
    · rintro p H2 _ ⟨e2, _⟩
      exact SqL.of (e2 _ _ hl1)
    · rintro p y H2 hy ⟨e2, hD2⟩
      obtain ⟨b, c, rfl, hc, hb⟩ := (t1.same e2).get hy
      have hcm := List.mem_of_getElem? hc
      obtain ⟨hc1, hc2⟩ := choices_mem hcm
      refine ⟨rfl, ?_⟩
      unfold tYes
      dsimp only
      rw [if_pos rfl]
      have e12 := e1.trans e2
      refine ⟨_, rfl, _, rfl, _, rfl, _, rfl, x, b, g, _, c, _, detM (lastR rs i), rfl, Dp.same e12 _ _ hdx, hrm, hb, by omega, ?_, e12 _ _ hg, ?_, ?_, fun H3 e3 => ?_⟩
      · intro n hn
        rw [hrl]
        exact hc2 n hn
      · intro p hp
        exact mapD_val (choice_erase0 wd (by omega) i (by omega) c hcm p (by omega))
      · intro p hp
        refine det_wd7 (fun r hr => (hrs r (List.mem_of_mem_drop hr)).2) ?_ ?_
        · unfold lastR
          rw [List.length_drop]
          omega
        · rw [er_len hp]
          omega
      · refine ⟨_, kc c, b, rfl, ?_, e3 _ _ hD2, ?_, Gd.Same.put (e2.trans e3) hD1, ?_⟩
        · rw [kc_map]
          exact e3 _ _ hb
        · unfold mapD
          rw [List.length_map, List.length_take]
          exact Nat.lt_of_le_of_lt (Nat.le_trans (Nat.min_le_right ..) facts.2) (by decide)
        · rw [upd_same]
          have := mapD_snoc (cs := (choicesM wd (i + 1)).take p) (fv := detM (lastR rs (i + 1))) (c := c) (nodup_take facts.1 hc)
          rw [List.take_succ, hc]
          rw [ed] at this ⊢
          exact congrArg (fun z => some (HO.dT z)) this
    · rintro H2 ⟨e2, hD2⟩
      rw [t1.len, List.take_length] at hD2
      exact ⟨D1, _, _, _, e.trans (e1.trans e2), hD2, rfl⟩
  · rintro σ H' ⟨g, v3, v4, v5, e, hg, rfl⟩
    refine ⟨_, rfl, kk g H' e ?_⟩
    unfold lastR at hg
    rw [Nat.sub_self, List.drop_zero] at hg
    exact hg

theorem rgV_nV (n : Nat) : rgV 0 (n : Int) = nV (List.range n) := by
  unfold rgV nV
  simp
def spCornerOf (K : PySem.W.Frag) : Sp := fun vs H Q _ => ∃ (v : V) (wd : Nat) (rs : List (List Int)), vs = [v] ∧ Dp K H v (tabD wd rs) ∧ (∀ r ∈ rs, r.length = wd ∧ Wd r) ∧ wd ≤ 7 ∧ rs.length = wd ∧
  ∀ H', Same H H' → Q (.int (detM rs (List.range wd))) H'
theorem ok_corner_of (D : Df K mg "corner_of" s_corner_of) (B : Bn mg) (h_corners_by_columns : Has P w K mg base "corners_by_columns" 3 p_corners_by_columns (spCols K)) :
    Has P w K mg base "corner_of" 4 p_corner_of (spCornerOf K) := by
  refine has_of (k := 3) D sc_corner_of bn_corner_of ?_ ?_
  · rintro vs H Q E ⟨v, wd, rs, rfl, _⟩
    rfl
  rintro f cdv A outer s0 H vs Q E hr ⟨v, wd, rs, rfl, hv, hrs, hwd, hm, kk⟩
  obtain ⟨pt, ur, rfl, htab, hrows⟩ := dp_tab hv
  refine ⟨_, (pss_cons (ps_asg (pv 0) (pg_tupK (K := K) (n := 2) (by rfl) (by rfl) (pgs_cons (pg_name (i := 1) sc_corner_of.nd rfl (by first | exact Or.inl rfl | exact Or.inr rfl)) (pgs_cons (pg_name (i := 2) sc_corner_of.nd rfl (by first | exact Or.inl rfl | exact Or.inr rfl)) pgs_nil))))
      (pss_one (ps_ret (pe_dget (by have hu_ := hr.units; exact (show (A.deeper _).units + 1 < cLine by omega)) (pe_has (h_corners_by_columns) (hr.mono (by first | decide | omega)) (by rfl) (pa_cons (pv 1) (pa_cons (pv 2) pa_nil))) (pe_tupRg rfl (by rfl) B.tuple_ (prg_1 (by rfl) B.range_ (pv 1))) (fun _ _ => rfl))))), ?_⟩
  refine ⟨_, rfl, pt, _, rfl, htab, rfl, _, _, rfl, _, _, rfl, rfl, ?_⟩
  refine ⟨_, rfl, _, rfl, ur, wd, rs, rfl, hrows, hrs, hwd, by omega, fun g H1 e1 hg => ?_⟩
  refine ⟨_, rfl, wd, rfl, ?_, fun q nq => ?_⟩
  · exact RgOk.of_le (by decide) (by omega) (by decide) (by omega)
  have eq := Same.new (o := .tup (rgV 0 (wd : Int))) nq
  refine ⟨g, _, rfl, ?_, kk _ (e1.trans eq)⟩
  rw [← mapD_val (cs := choicesM wd rs.length) (fv := detM rs) (c := List.range wd) (by rw [hm]; exact choice_full wd (by omega))]
  refine DGet.t (eq _ _ hg) ?_
  rw [upd_same, kc_map, rgV_nV]

def pickR (rs : List (List Int)) (c : List Nat) : List (List Int) := c.map fun i => rs.getD i []
def cornersM (wd : Nat) (rs : List (List Int)) (k : Nat) : List Int :=
  if k > rs.length ∨ k > wd then [] else (choicesM rs.length k).flatMap fun c => (choicesM wd k).map (detM (pickR rs c))
def spCornersOf (K : PySem.W.Frag) : Sp := fun vs H Q _ => ∃ (v : V) (wd k : Nat) (rs : List (List Int)), vs = [v, .int k] ∧ Dp K H v (tabD wd rs) ∧ (∀ r ∈ rs, r.length = wd ∧ Wd r) ∧ wd ≤ 7 ∧ rs.length ≤ 7 ∧
  ∀ (l : Addr) (H' : Hp), Same H H' → H l = none → H' l = some (.lst ((cornersM wd rs k).map V.int)) → Q (.ref l) H'
theorem flat_takeC {cs : List (List Nat)} {f : List Nat → List Int} {i : Nat} {c : List Nat} (h : cs[i]? = some c) : (cs.take (i + 1)).flatMap f = (cs.take i).flatMap f ++ f c := by
  rw [List.take_succ, h, List.flatMap_append]
  simp
theorem flatC_len {f : List Nat → List Int} {b : Nat} (h : ∀ c, (f c).length ≤ b) : ∀ cs : List (List Nat), (cs.flatMap f).length ≤ cs.length * b
  | [] => by simp
  | c :: cs => by
    have h1 := h c
    have h2 := flatC_len h cs
    rw [List.flatMap_cons, List.length_append, List.length_cons, Nat.add_mul]
    omega
theorem choice_ne : ∀ w < 8, ∀ k < 8, k ≤ w → choicesM w k ≠ [] := by decide +kernel
theorem range_getD {α : Type} {f : Nat → α} : ∀ c : List Nat, (List.range c.length).map (fun i => f (c.getD i 0)) = c.map f := by
  intro c
  apply List.ext_getElem
  · simp
  · intro i h1 h2
    simp only [List.length_map] at h2
    simp [List.getD_eq_getElem?_getD, List.getElem?_eq_getElem h2]
theorem ok_corners_of (D : Df K mg "corners_of" s_corners_of) (B : Bn mg) (h_choices : Has P w K mg base "choices" 1 p_choices spChoices)
    (h_corners_by_columns : Has P w K mg base "corners_by_columns" 3 p_corners_by_columns (spCols K)) :
    Has P w K mg base "corners_of" 4 p_corners_of (spCornersOf K) := by
  refine has_of (k := 3) D sc_corners_of bn_corners_of ?_ ?_
  · rintro vs H Q E ⟨v, wd, k, rs, rfl, _⟩
    rfl
  rintro f cdv A outer s0 H vs Q E hr ⟨v, wd, k, rs, rfl, hv, hrs, hwd, hm, kk⟩
  obtain ⟨pt, ur, rfl, htab, hrows⟩ := dp_tab hv
  have hrows' := hrows
  obtain ⟨pr, ys, rfl, hys, hall, hlen⟩ := dp_rows hrows
  have hlen : ys.length = rs.length := hlen
  refine ⟨_, (pss_cons (ps_asg (pv 0) (pg_tupK (K := K) (n := 2) (by rfl) (by rfl) (pgs_cons (pg_name (i := 2) sc_corners_of.nd rfl (by first | exact Or.inl rfl | exact Or.inr rfl)) (pgs_cons (pg_name (i := 3) sc_corners_of.nd rfl (by first | exact Or.inl rfl | exact Or.inr rfl)) pgs_nil))))
      (Evl.pss_cut (ps_if (PW.pt (pw_or (pt_cmpR op_gt (pv 1) (pe_callB (call_lenK (K := K) (by rfl)) (by rfl) B.len_ (by decide +kernel) (pa_cons (pv 3) pa_nil)) (nomark _)) (pw_or1 (pt_cmpR op_gt (pv 1) (pv 2) (nomark _))))) (pss_one (ps_ret (pe_lst pa_nil))) pss_nil)
      (pss_cons (ps_asg (pe_lst pa_nil) (pg_name (i := 4) sc_corners_of.nd rfl (by first | exact Or.inl rfl | exact Or.inr rfl)))
      (pss_cons (ps_for PassesOwn.never rfl (pi_listK (K := K) (by rfl) (pe_has (h_choices) (hr.mono (by first | decide | omega)) (by rfl) (pa_cons (pe_callB (call_lenK (K := K) (by rfl)) (by rfl) B.len_ (by decide +kernel) (pa_cons (pv 3) pa_nil)) (pa_cons (pv 1) pa_nil)))) (pg_name (i := 5) sc_corners_of.nd rfl (by first | exact Or.inl rfl | exact Or.inr rfl)) (pss_cons (ps_asg (pe_has (h_corners_by_columns) (hr.mono (by first | decide | omega)) (by rfl) (pa_cons (pv 2) (pa_cons (pe_callTy (call_tupleK (K := K) (by rfl)) (by rfl) B.tuple_ (by decide +kernel) (pa_cons (pe_lc (own := [("at", 7)]) rfl sc_corners_of.nd (pi_tupK (K := K) (by rfl) (pv 5)) (blkOk_by (own := [("at", 7)]) (N := n_corners_of) (sc := defScope s_corners_of) (by decide +kernel)) (fun _ _ _ _ _ => (pg_name (i := 7) sc_corners_of.nd rfl (by first | exact Or.inl rfl | exact Or.inr rfl))) (fun _ _ _ _ _ => pts_nil) (fun _ _ _ _ _ => (pe_ix (ix_tupK (K := K) (by rfl)) (pv 3) (pv 7) (fun _ _ => rfl)))) pa_nil)) pa_nil))) (pg_name (i := 6) sc_corners_of.nd rfl (by first | exact Or.inl rfl | exact Or.inr rfl)))
      (pss_one (ps_expr (pe_bm PySem.F.plainAttrs_list PySem.F.slot_list_extend PySem.F.type_list_extend mt_extend (pv 4) (pa_cons (pe_lc (own := [("columns", 8)]) rfl sc_corners_of.nd (pi_listK (K := K) (by rfl) (pe_has (h_choices) (hr.mono (by first | decide | omega)) (by rfl) (pa_cons (pv 2) (pa_cons (pv 1) pa_nil)))) (blkOk_by (own := [("columns", 8)]) (N := n_corners_of) (sc := defScope s_corners_of) (by decide +kernel)) (fun _ _ _ _ _ => (pg_name (i := 8) sc_corners_of.nd rfl (by first | exact Or.inl rfl | exact Or.inr rfl))) (fun _ _ _ _ _ => pts_nil) (fun _ _ _ _ _ => (pe_dget (by have hu_ := hr.units; exact (show (A.deeper _).units + 1 < cLine by omega)) (pv 6) (pv 8) (fun _ _ => rfl)))) pa_nil))))))
      (pss_one (ps_ret (pv 4))))))), ?_⟩
  refine ⟨_, rfl, pt, _, rfl, htab, rfl, _, _, rfl, _, _, rfl, rfl, ?_⟩
  refine ⟨fun σ' H' => H' = H ∧ σ' = [some (.ref pt), some (.int k), some (.int wd), some (.ref pr), none, none, none, none, none] ∧ ¬ (k > rs.length ∨ k > wd), ?_, ?_⟩
  · have out : k > rs.length ∨ k > wd → ∀ D', tRet (tLst tNil) { nx := D', rt := Q } [some (.ref pt), some (.int k), some (.int wd), some (.ref pr), none, none, none, none, none] H := fun h D' => by
      refine ⟨Nat.zero_le _, fun p np => kk p _ (Same.new np) np ?_⟩
      rw [upd_same, cornersM, if_pos h]
      rfl
    refine ⟨_, rfl, _, rfl, pr, ys, rfl, .inr hys, _, _, rfl, rfl, _, rfl, ?_⟩
    refine ite2 (fun h1 => ?_) (fun h1 => ?_)
    · have h1 := of_decide_eq_true h1
      exact out (.inl (by omega)) _
    · have h1 : ¬ k > rs.length := fun z => h1 (decide_eq_true (by omega))
      refine ⟨_, rfl, _, rfl, _, _, rfl, rfl, _, rfl, ?_⟩
      refine ite2 (fun h2 => ?_) (fun h2 => ?_)
      · have h2 := of_decide_eq_true h2
        exact out (.inr (by omega)) _
      · exact ⟨rfl, rfl, fun z => z.elim h1 fun z => h2 (decide_eq_true (by omega))⟩
  · rintro σ' H' ⟨rfl, rfl, hno⟩
    have hk1 : k ≤ rs.length := by omega
    have hk2 : k ≤ wd := by omega
    have fr := choice_facts rs.length (by omega) k (by omega)
    have fw := choice_facts wd (by omega) k (by omega)
    refine ⟨Nat.zero_le _, fun l nl => ?_⟩
    have el := Same.new (o := .lst []) nl
    refine ⟨_, rfl, pr, ys, rfl, .inr (sqt_same el hys), _, rfl, rs.length, k, ?_, hm, by omega, fun lc H1 xs e1 hlc t => ⟨lc, rfl, ⟨_, SqL.of hlc⟩, ?_⟩⟩
    · rw [hlen]
      rfl
    have hl1 := e1 _ _ (upd_same (H := H') (a := l) (o := .lst []))
    have nll : lc ≠ l := fun z => by
      rw [z, hl1] at hlc
      cases hlc
      have := t.len
      exact choice_ne rs.length (by omega) k (by omega) hk1 (List.eq_nil_of_length_eq_zero this.symm)
    refine for_list (K := K) (a := lc) (xs := xs) (fun p σ H2 => ∃ (v5 v6 v7 v8 : Option V), σ = [some (.ref pt), some (.int k), some (.int wd), some (.ref pr), some (.ref l), v5, v6, v7, v8] ∧
      Same H' H2 ∧ H2 lc = some (.lst xs) ∧ H2 l = some (.lst ((((choicesM rs.length k).take p).flatMap fun c => (choicesM wd k).map (detM (pickR rs c))).map V.int)) ∧ Tts H2 xs (choicesM rs.length k)) ?_ ?_ ?_ ?_
    · exact ⟨_, _, _, _, rfl, el.trans e1, hlc, hl1, t⟩
    · rintro p σ H2 _ ⟨_, _, _, _, _, _, h, _⟩
      exact SqL.of h
    · rintro p x σ H2 hx ⟨v5, v6, v7, v8, rfl, e2, hlc2, hl2, t2⟩
      obtain ⟨b, c, rfl, hc, hb⟩ := t2.get hx
      have hcm := List.mem_of_getElem? hc
      obtain ⟨hc1, hc2⟩ := choices_mem hcm
      refine ⟨_, rfl, _, rfl, b, rfl, ⟨_, SqT.of hb⟩, fun D1 hD1 => ?_⟩
      refine lct (K := K) (j := 7) (fun i => rowD (rs.getD (c.getD i 0) [])) hD1 (SqT.of hb) (by rw [nV_len]; omega) (fun _ _ => rowD_tup _) (fun _ => rfl) ?_ ?_
      · intro i x H3 Q3 hx3 e3 k3
        have hi : i < c.length := by
          have := (List.getElem?_eq_some_iff.mp hx3).1
          rw [nV_len] at this
          exact this
        rw [nV_get hi] at hx3
        cases hx3
        refine ⟨_, rfl, _, rfl, ?_⟩
        exact ix_dp (Dp.same (e2.trans e3) _ _ hrows') (rows_getD (hc2 _ (Gd.getD_mem (d := 0) hi))) fun y hy => k3 y _ (Same.refl _) hy
      intro H3 zs e3 h3 hd3
      try dsimp only [tC, tNil]
      refine tupL_dp h3 hd3 fun v4 H4 e4 hv4 => ?_
      have hv4 : Dp K H4 v4 (rowsD (pickR rs c)) := by
        have : rowsD (pickR rs c) = .tuple ((List.range (nV c).length).map fun i => rowD (rs.getD (c.getD i 0) [])) := by
          unfold rowsD pickR
          rw [nV_len, range_getD (f := fun n => rowD (rs.getD n [])), List.map_map]
          rfl
        rw [this]
        exact hv4
      refine ⟨v4, wd, pickR rs c, rfl, hv4, ?_, hwd, ?_, fun g H5 e5 hg => ?_⟩
      · intro r hr
        obtain ⟨n, hn, rfl⟩ := List.mem_map.mp hr
        exact hrs _ (Gd.getD_mem (d := []) (hc2 n hn))
      · unfold pickR
        rw [List.length_map, hc1]
        omega
      have hpl : (pickR rs c).length = k := by
        unfold pickR
        rw [List.length_map, hc1]
      rw [hpl] at hg
      have e25 := (e3.trans e4).trans e5
      refine ⟨_, rfl, .inl ⟨rfl, _, SqL.of (e25 _ _ hl2)⟩, ?_⟩
      refine ⟨_, rfl, _, rfl, wd, k, rfl, hwd, by omega, fun lc2 H6 xs2 e6 h6 t6 => ⟨lc2, rfl, ⟨_, SqL.of h6⟩, fun D2 hD2 => ?_⟩⟩
      refine lcG (K := K) (a := lc2) (xs := xs2) (fun q H7 => Same H6 H7 ∧ H7 D2 = some (.lst (((choicesM wd k).take q).map fun d => V.int (detM (pickR rs c) d)))) ?_ ?_ ?_ ?_
      · exact ⟨Same.new hD2, upd_same⟩
      · rintro q H7 _ ⟨e7, _⟩
        exact SqL.of (e7 _ _ h6)
      · rintro q y H7 hy ⟨e7, hD7⟩
        obtain ⟨b2, d, rfl, hd, hb2⟩ := (t6.same e7).get hy
        refine ⟨rfl, ?_⟩
        unfold tYes
        dsimp only
        rw [if_pos rfl]
        refine ⟨_, rfl, _, rfl, g, .int (detM (pickR rs c) d), rfl, ?_, ?_⟩
        · rw [← mapD_val (cs := choicesM wd k) (fv := detM (pickR rs c)) (List.mem_of_getElem? hd)]
          exact DGet.t (e7 _ _ (e6 _ _ hg)) (by rw [kc_map]; exact hb2)
        · refine ⟨_, hD7, ?_, Gd.Same.put e7 hD2, ?_⟩
          · rw [List.length_map, List.length_take]
            exact Nat.lt_of_le_of_lt (Nat.le_trans (Nat.min_le_right ..) fw.2) (by decide)
          · rw [upd_same, List.take_succ, hd, List.map_append]
            rfl
      · rintro H7 ⟨e7, hD7⟩
        rw [t6.len, List.take_length] at hD7
        have e27 := (e25.trans e6).trans e7
        have hl7 := e27 _ _ hl2
        have tk := Tk.put (zs := (((choicesM rs.length k).take p).flatMap fun c => (choicesM wd k).map (detM (pickR rs c))).map V.int ++ ((choicesM wd k).map fun d => V.int (detM (pickR rs c) d))) hl7
        refine ⟨l, D2, _, _, rfl, rfl, hl7, hD7, ?_, ?_⟩
        · have h1 := flatC_len (f := fun c => (choicesM wd k).map (detM (pickR rs c))) (b := 35) (fun c => by rw [List.length_map]; exact fw.2) ((choicesM rs.length k).take p)
          have h2 : ((choicesM rs.length k).take p).length * 35 ≤ 35 * 35 := Nat.mul_le_mul_right _ (by rw [List.length_take]; omega)
          rw [List.length_map, List.length_map]
          exact Nat.le_trans (show _ ≤ 35 * 35 + 35 by omega) (by decide)
        · refine ⟨_, _, _, _, rfl, Gd.Same.put (e2.trans e27) nl, ?_, ?_, (t2.same e27).tk tk⟩
          · rw [upd_ne nll]
            exact e27 _ _ hlc2
          · rw [upd_same, flat_takeC hc, List.map_append, List.map_map]
            rfl
    · rintro σ H2 ⟨v5, v6, v7, v8, rfl, e2, hlc2, hl2, t2⟩
      rw [t2.len, List.take_length] at hl2
      refine ⟨_, rfl, kk l H2 e2 nl ?_⟩
      rw [hl2, cornersM, if_neg hno]

end K14

set_option Elab.async false
set_option linter.all false
set_option maxRecDepth 100000
set_option maxHeartbeats 1000000
namespace K14
open PySem PySem.Spec PyProof.Rows L2 Gd
variable {P : Program} {w : World} {K : PySem.W.Frag} {mg : Str → Option Value} {base : Heap}
theorem ok_l_feed (D : Df K mg "_law_feed" s_l_feed) (B : Bn mg) :
    Has P w K mg base "_law_feed" 1 p_l_feed (spFeed K) := by
  refine has_of (k := 0) D sc_l_feed bn_l_feed ?_ ?_
  · rintro vs H Q E ⟨sc, ns, rfl, _⟩
    rfl
  · rintro f cdv A outer s H vs Q E hr ⟨sc, ns, rfl, hS, hl, k⟩
    refine ⟨_, (pss_one (ps_ret (pe_lst (pa_cons (pe_slice (sl_listK (K := K) (by rfl)) (pv 0) po_none (po_some pe_int)) (pa_cons pe_int (pa_cons pe_int (pa_cons pe_int pa_nil))))))), ?_⟩
    obtain ⟨ms, e, hm⟩ := cut_ints ns none (some 63)
    refine ⟨_, rfl, _, rfl, sc, _, rfl, hS, fun p np => ?_⟩
    refine ⟨by show 4 ≤ sizeLine; decide, fun a na => ?_⟩
    have npa : p ≠ a := fun z => by
      rw [z, upd_same] at na
      cases na
    have na0 : H a = none := by
      rw [upd_ne npa.symm] at na
      exact na
    refine k a p _ na0 np (Same.mut (Same.new np) na0) ⟨ms, 0, 0, 0, upd_same, ?_, by omega, by omega, by omega, by omega⟩
    rw [upd_ne npa, upd_same, e]
theorem ok_l_draw (D : Df K mg "_law_draw" s_l_draw) (B : Bn mg) :
    Has P w K mg base "_law_draw" 1 p_l_draw spDraw := by
  refine has_of (k := 0) D sc_l_draw bn_l_draw ?_ ?_
  · rintro vs H Q E ⟨a, s, m, n, rfl, _⟩
    rfl
  · rintro f cdv A outer s0 H vs Q E hr ⟨a, s, m, n, rfl, ⟨ns, p, l, c, ha, hs, hl, hp, hc, hcn⟩, hn, hm1, hm2, k⟩
    have nsa : s ≠ a := ne_of hs ha ref_ints
    refine ⟨_, (pss_cons (ps_asg (pe_op op_add (pe_ix (ix_listK (K := K) (by rfl)) (pv 0) pe_int (fun _ _ => rfl)) pe_int) (pg_sub (pv 0) pe_int set_list))
      (pss_cons (ps_if (pt_cmpR op_gt (pe_ix (ix_listK (K := K) (by rfl)) (pv 0) pe_int (fun _ _ => rfl)) pe_int (nomark _)) (pss_cons (ps_asg (pe_op op_modN (pe_ix (ix_listK (K := K) (by rfl)) (pv 0) pe_int (fun _ _ => rfl)) (pv 1)) (pg_name (i := 2) sc_l_draw.nd rfl (by first | exact Or.inl rfl | exact Or.inr rfl)))
      (pss_cons (ps_asg (pe_op op_fdivN (pe_ix (ix_listK (K := K) (by rfl)) (pv 0) pe_int (fun _ _ => rfl)) (pv 1)) (pg_sub (pv 0) pe_int set_list))
      (pss_one (ps_ret (pv 2))))) pss_nil)
      (pss_cons (ps_asg pe_int (pg_name (i := 3) sc_l_draw.nd rfl (by first | exact Or.inl rfl | exact Or.inr rfl)))
      (Evl.pss_cut (ps_if (pt_cmpR (op_neK (K := K) (by rfl) hr.units) (pe_ix (ix_listK (K := K) (by rfl)) (pv 0) pe_int (fun _ _ => rfl)) (pe_lst pa_nil) (nomark _)) (pss_one (ps_asg (pe_ix (ix_listK (K := K) (by rfl)) (pe_ix (ix_listK (K := K) (by rfl)) (pv 0) pe_int (fun _ _ => rfl)) (pe_op op_modN (pe_ix (ix_listK (K := K) (by rfl)) (pv 0) pe_int (fun _ _ => rfl)) (pe_callB (call_lenK (K := K) (by rfl)) (by rfl) B.len_ (by decide +kernel) (pa_cons (pe_ix (ix_listK (K := K) (by rfl)) (pv 0) pe_int (fun _ _ => rfl)) pa_nil))) (fun _ _ => rfl)) (pg_name (i := 3) sc_l_draw.nd rfl (by first | exact Or.inl rfl | exact Or.inr rfl)))) pss_nil)
      (pss_cons (ps_asg (pe_op op_add (pe_ix (ix_listK (K := K) (by rfl)) (pv 0) pe_int (fun _ _ => rfl)) pe_int) (pg_sub (pv 0) pe_int set_list))
      (Evl.pss_cut (ps_if (PW.pt (pw_and (pt_cmpR op_ge (pv 3) (pe_op op_pow pe_int pe_int) (nomark _)) (pw_and1 (pt_cmpR op_le (pe_ix (ix_listK (K := K) (by rfl)) (pv 0) pe_int (fun _ _ => rfl)) (pe_callB (call_lenK (K := K) (by rfl)) (by rfl) B.len_ (by decide +kernel) (pa_cons (pe_ix (ix_listK (K := K) (by rfl)) (pv 0) pe_int (fun _ _ => rfl)) pa_nil)) (nomark _))))) (pss_cons (ps_asg (pe_op op_fdivN (pv 3) (pv 1)) (pg_sub (pv 0) pe_int set_list))
      (pss_one (ps_ret (pe_op op_modN (pv 3) (pv 1))))) pss_nil)
      (pss_cons (ps_asg (pe_op op_modN (pe_op op_pow (pe_op op_add (pe_op op_modN (pv 3) pe_int) (pe_op op_mul pe_int (pe_ix (ix_listK (K := K) (by rfl)) (pv 0) pe_int (fun _ _ => rfl)))) pe_int) pe_int) (pg_name (i := 4) sc_l_draw.nd rfl (by first | exact Or.inl rfl | exact Or.inr rfl)))
      (pss_cons (ps_asg (pe_op op_modN (pe_op op_pow (pe_op op_add (pe_op op_mul (pv 4) (pe_op op_add (pe_op op_mul pe_int (pe_ix (ix_listK (K := K) (by rfl)) (pv 0) pe_int (fun _ _ => rfl))) pe_int)) pe_int) pe_int) pe_int) (pg_name (i := 4) sc_l_draw.nd rfl (by first | exact Or.inl rfl | exact Or.inr rfl)))
      (pss_one (ps_ret (pe_op op_modN (pe_op op_fdivN (pv 4) pe_int) (pv 1)))))))))))), ?_⟩
    refine ⟨_, rfl, a, _, 3, _, rfl, rfl, SqL.of ha, rfl, _, _, rfl, rfl, _, rfl, a, _, 3, 3, rfl, rfl, ha, rfl, ?_⟩
    have h1a : upd H a (.lst [.ref s, .int p, .int l, .int (c + 1)]) a = some (.lst [.ref s, .int p, .int l, .int (c + 1)]) := upd_same
    have h1s : upd H a (.lst [.ref s, .int p, .int l, .int (c + 1)]) s = some (.lst (ns.map V.int)) := by
      rw [upd_ne nsa]
      exact hs
    have sb1 : Sb a H (upd H a (.lst [.ref s, .int p, .int l, .int (c + 1)])) := Sb.own (Sb.refl a H)
    refine ⟨_, rfl, a, _, 2, _, rfl, rfl, SqL.of h1a, rfl, _, _, rfl, rfl, _, rfl, ?_⟩
    refine ite2 (fun hlt => ?_) (fun hle => ?_)
    · refine ⟨_, rfl, a, _, 2, _, rfl, rfl, SqL.of h1a, rfl, _, rfl, _, _, rfl, rfl, (by omega), ?_⟩
      refine ⟨_, rfl, a, _, 2, _, rfl, rfl, SqL.of h1a, rfl, _, rfl, _, _, rfl, rfl, ⟨by omega, by omega⟩, _, rfl, a, _, 2, 2, rfl, rfl, h1a, rfl, ?_⟩
      refine ⟨_, rfl, ?_⟩
      refine k _ _ (fmod_nn (by omega)) (fmod_lt' (by omega)) (Sb.own sb1) ⟨ns, p, _, c + 1, upd_same, ?_, hl, hp, by omega, by omega⟩
      rw [upd_ne nsa]
      exact h1s
    · refine ⟨fun σ' H' => ∃ z : Int, σ' = [some (.ref a), some (.int m), none, some (.int z), none] ∧
        H' a = some (.lst [.ref s, .int p, .int l, .int (c + 1)]) ∧ H' s = some (.lst (ns.map V.int)) ∧ Sb a H H', ?_, ?_⟩
      · refine ⟨_, rfl, a, _, 0, _, rfl, rfl, SqL.of h1a, rfl, Nat.zero_le _, fun q nq => ?_⟩
        have nqa : q ≠ a := fun z => by
          rw [z, upd_same] at nq
          cases nq
        have nq : upd H a (.lst [.ref s, .int p, .int l, .int (c + 1)]) q = none := nq
        have nqs : q ≠ s := fun z => by
          rw [z, h1s] at nq
          cases nq
        have h2a := upd_ne (H := upd H a (.lst [.ref s, .int p, .int l, .int (c + 1)])) (o := .lst []) nqa.symm
        have h2s := upd_ne (H := upd H a (.lst [.ref s, .int p, .int l, .int (c + 1)])) (o := .lst []) nqs.symm
        rw [h1a] at h2a
        rw [h1s] at h2s
        have sb2 := Sb.trans sb1 (Sb.new (a := a) (o := .lst []) nq)
        refine ⟨.list (ns.map PyData.int), .list [], .lst (SqL.of h2s) (dp_ints ns), .lst (SqL.of upd_same) .nil, ints_shaped ns, ints_shaped [], ?_⟩
        refine ⟨_, rfl, ?_⟩
        rw [ints_nil]
        refine ite2 (fun he => ?_) (fun he => ?_)
        · have hne : ns ≠ [] := by
            intro z
            rw [decide_eq_true z] at he
            cases he
          have hpos : 0 < ns.length := List.length_pos_iff.mpr hne
          obtain ⟨z, hz⟩ := at_ints (ns := ns) (i := p.fmod ((ns.map V.int).length : Int)) (fmod_nn (by rw [List.length_map]; omega))
            (by
              have := fmod_lt' (a := p) (b := ((ns.map V.int).length : Int)) (by rw [List.length_map]; omega)
              rw [List.length_map] at this ⊢
              exact this)
          refine ⟨_, rfl, a, _, 0, _, rfl, rfl, SqL.of h2a, rfl, _, rfl, a, _, 1, _, rfl, rfl, SqL.of h2a, rfl, _, rfl, a, _, 0, _, rfl, rfl, SqL.of h2a, rfl, s, _, rfl, .inl (SqL.of h2s), _, _, rfl, rfl, (by rw [List.length_map]; omega), s, _, _, _, rfl, rfl, SqL.of h2s, hz, ?_⟩
          exact ⟨z, rfl, h2a, h2s, sb2⟩
        · exact ⟨7, rfl, h2a, h2s, sb2⟩
      · rintro σ' H' ⟨z, rfl, h3a, h3s, sb3⟩
        refine ⟨_, rfl, a, _, 1, _, rfl, rfl, SqL.of h3a, rfl, _, _, rfl, rfl, _, rfl, a, _, 1, 1, rfl, rfl, h3a, rfl, ?_⟩
        have h4a : upd H' a (.lst [.ref s, .int (p + 1), .int l, .int (c + 1)]) a = some (.lst [.ref s, .int (p + 1), .int l, .int (c + 1)]) := upd_same
        have h4s : upd H' a (.lst [.ref s, .int (p + 1), .int l, .int (c + 1)]) s = some (.lst (ns.map V.int)) := by
          rw [upd_ne nsa]
          exact h3s
        have sb4 : Sb a H (upd H' a (.lst [.ref s, .int (p + 1), .int l, .int (c + 1)])) := Sb.own sb3
        refine ⟨fun σ'' H'' => σ'' = [some (.ref a), some (.int m), none, some (.int z), none] ∧ H'' = upd H' a (.lst [.ref s, .int (p + 1), .int l, .int (c + 1)]), ?_, ?_⟩
        · refine ⟨_, rfl, _, _, rfl, rfl, ⟨by decide, by decide, by decide⟩, _, _, rfl, rfl, _, rfl, ?_⟩
          refine ite2 (fun hz => ?_) (fun hz => ⟨rfl, rfl⟩)
          refine ⟨_, rfl, a, _, 1, _, rfl, rfl, SqL.of h4a, rfl, _, rfl, a, _, 0, _, rfl, rfl, SqL.of h4a, rfl, s, _, rfl, .inl (SqL.of h4s), _, _, rfl, rfl, _, rfl, ?_⟩
          refine ite2 (fun hw => ?_) (fun hw => ⟨rfl, rfl⟩)
          refine ⟨_, rfl, _, rfl, _, _, rfl, rfl, ⟨by omega, by omega⟩, _, rfl, a, _, 2, 2, rfl, rfl, h4a, rfl, ?_⟩
          refine ⟨_, rfl, _, rfl, _, _, rfl, rfl, (by omega), ?_⟩
          refine k _ _ (fmod_nn (by omega)) (fmod_lt' (by omega)) (Sb.own sb4) ⟨ns, p + 1, _, c + 1, upd_same, ?_, hl, by omega, by omega, by omega⟩
          rw [upd_ne nsa]
          exact h4s
        · rintro σ'' H'' ⟨rfl, rfl⟩
          have f1 := fmod_nn (a := z) (b := 2147483629) (by omega)
          have f2 := fmod_lt' (a := z) (b := 2147483629) (by omega)
          refine ⟨_, rfl, _, _, rfl, rfl, (by omega), _, rfl, a, _, 3, _, rfl, rfl, SqL.of h4a, rfl, _, _, rfl, rfl, .inl ⟨by omega, by omega⟩, _, _, rfl, rfl, _, _, rfl, rfl, ⟨by omega, by omega, by omega⟩, _, _, rfl, rfl, (by omega), ?_⟩
          have big : ∀ y : Int, 0 ≤ y → y < 2147483647 → (y * (2 * (c + 1) + 1) + 7919).natAbs < 2 ^ 64 := by
            intro y g1 g2
            have g3 : 0 ≤ y * (2 * (c + 1) + 1) := Int.mul_nonneg g1 (by omega)
            have g4 : y * (2 * (c + 1) + 1) ≤ 2147483647 * 2000005 := Int.mul_le_mul (by omega) (by omega) (by omega) (by omega)
            omega
          have sml : ∀ y : Int, 0 ≤ y → y < 2147483647 → -(2 ^ 64) < y ∧ y < 2 ^ 64 := by
            intro y g1 g2
            omega
          refine ⟨_, rfl, _, rfl, a, _, 3, _, rfl, rfl, SqL.of h4a, rfl, _, _, rfl, rfl, .inl ⟨by omega, by omega⟩, _, _, rfl, rfl, _, _, rfl, rfl, .inl (sml _ (fmod_nn (by omega)) (fmod_lt' (by omega))), _, _, rfl, rfl, _, _, rfl, rfl, ⟨by omega, by omega, big _ (fmod_nn (by omega)) (fmod_lt' (by omega))⟩, _, _, rfl, rfl, (by omega), ?_⟩
          refine ⟨_, rfl, _, _, rfl, rfl, ⟨by omega, by omega⟩, _, rfl, _, _, rfl, rfl, (by omega), ?_⟩
          exact k _ _ (fmod_nn (by omega)) (fmod_lt' (by omega)) sb4 ⟨ns, p + 1, l, c + 1, h4a, h4s, hl, by omega, by omega, by omega⟩

abbrev spNumber : Sp := spNum (-99) 100 2
theorem ok_l_number (D : Df K mg "_law_number" s_l_number) (B : Bn mg) (h_l_draw : Has P w K mg base "_law_draw" 1 p_l_draw spDraw) :
    Has P w K mg base "_law_number" 2 p_l_number spNumber := by
  refine has_of (k := 1) D sc_l_number bn_l_number spNum_len ?_
  rintro f cdv A outer s0 H vs Q E hr ⟨a, s, n, rfl, hF, hn, k⟩
  refine ⟨_, (pss_cons (ps_asg (pe_has (h_l_draw) (hr.mono (by first | decide | omega)) (by rfl) (pa_cons (pv 0) (pa_cons pe_int pa_nil))) (pg_name (i := 1) sc_l_number.nd rfl (by first | exact Or.inl rfl | exact Or.inr rfl)))
      (pss_cons (ps_if (pt_cmpR op_eq (pv 1) pe_int (nomark _)) (pss_one (ps_ret pe_int)) pss_nil)
      (pss_one (ps_ret (pe_ifExp (pt_cmpR op_lt (pv 1) pe_int (nomark _)) (pe_op op_sub (pe_has (h_l_draw) (hr.mono (by first | decide | omega)) (by rfl) (pa_cons (pv 0) (pa_cons pe_int pa_nil))) pe_int) (pe_op op_sub (pe_has (h_l_draw) (hr.mono (by first | decide | omega)) (by rfl) (pa_cons (pv 0) (pa_cons pe_int pa_nil))) pe_int)))))), ?_⟩
  refine ⟨_, rfl, a, s, _, n, rfl, hF, by omega, by decide, by decide, fun r H1 r0 r1 sb1 f1 => ?_⟩
  refine ⟨_, rfl, rfl, _, rfl, ?_⟩
  refine ite2 (fun _ => ?_) (fun _ => ?_)
  · exact k _ _ (by decide) (by decide) sb1 (f1.mono (by omega))
  · refine ⟨_, rfl, _, _, rfl, rfl, _, rfl, ?_⟩
    refine ite2 (fun _ => ?_) (fun _ => ?_)
    · refine ⟨_, rfl, a, s, _, n + 1, rfl, f1, by omega, by decide, by decide, fun r2 H2 r20 r21 sb2 f2 => ?_⟩
      exact ⟨_, _, rfl, rfl, k _ _ (by omega) (by omega) (Sb.trans sb1 sb2) f2⟩
    · refine ⟨_, rfl, a, s, _, n + 1, rfl, f1, by omega, by decide, by decide, fun r2 H2 r20 r21 sb2 f2 => ?_⟩
      exact ⟨_, _, rfl, rfl, k _ _ (by omega) (by omega) (Sb.trans sb1 sb2) f2⟩

def OkR (w : Nat) (r : List Int) : Prop := r.length = w ∧ ∀ x ∈ r, -99 ≤ x ∧ x ≤ 99
def spRows (K : PySem.W.Frag) : Sp := fun vs H Q _ => ∃ (a s : Addr) (m wd n : Nat),
  vs = [.ref a, .int m, .int wd] ∧ Fd H a s n ∧ m ≤ 8 ∧ wd ≤ 8 ∧ n + 200 ≤ 1000000 ∧
  ∀ (v : V) (H' : Hp) (rs : List (List Int)), Sb a H H' → Fd H' a s (n + 200) → OkT m wd rs → Dp K H' v (rowsD rs) → Q v H'
theorem ok_l_rows (D : Df K mg "_law_rows" s_l_rows) (B : Bn mg) (h_l_draw : Has P w K mg base "_law_draw" 1 p_l_draw spDraw)
    (h_l_number : Has P w K mg base "_law_number" 2 p_l_number spNumber) :
    Has P w K mg base "_law_rows" 3 p_l_rows (spRows K) := by
  refine has_of (k := 2) D sc_l_rows bn_l_rows ?_ ?_
  · rintro vs H Q E ⟨a, s, m, wd, n, rfl, _⟩
    rfl
  rintro f cdv A outer s0 H vs Q E hr ⟨a, s, m, wd, n, rfl, hF, hm, hwd, hn, k⟩
  refine ⟨_, (pss_cons (ps_asg (pe_lst pa_nil) (pg_name (i := 3) sc_l_rows.nd rfl (by first | exact Or.inl rfl | exact Or.inr rfl)))
      (pss_cons (ps_for PassesOwn.never rfl (pi_range1 (by rfl) B.range_ (pa_cons (pv 1) pa_nil)) (pg_name (i := 4) sc_l_rows.nd rfl (by first | exact Or.inl rfl | exact Or.inr rfl)) (pss_cons (ps_asg (pe_has (h_l_draw) (hr.mono (by first | decide | omega)) (by rfl) (pa_cons (pv 0) (pa_cons pe_int pa_nil))) (pg_name (i := 5) sc_l_rows.nd rfl (by first | exact Or.inl rfl | exact Or.inr rfl)))
      (pss_cons (ps_asg (pe_op (op_repK (K := K) (by rfl)) (pe_tup (pa_cons pe_int pa_nil)) (pv 2)) (pg_name (i := 6) sc_l_rows.nd rfl (by first | exact Or.inl rfl | exact Or.inr rfl)))
      (Evl.pss_cut (ps_if (PW.pt (pw_or (pt_cmpR op_gt (pv 5) pe_int (nomark _)) (pw_or1 (PW.pt (pw_and (pt_cmpR op_gt (pv 5) pe_int (nomark _)) (pw_and1 (pt_cmpR (op_eqK (K := K) (by rfl) hr.units) (pv 3) (pe_lst pa_nil) (nomark _)))))))) (pss_one (ps_asg (pe_callTy (call_tupleK (K := K) (by rfl)) (by rfl) B.tuple_ (by decide +kernel) (pa_cons (pe_lc (own := [("_law_j", 7)]) rfl sc_l_rows.nd (pi_range1 (by rfl) B.range_ (pa_cons (pv 2) pa_nil)) (blkOk_by (own := [("_law_j", 7)]) (N := n_l_rows) (sc := defScope s_l_rows) (by decide +kernel)) (fun _ _ _ _ _ => (pg_name (i := 7) sc_l_rows.nd rfl (by first | exact Or.inl rfl | exact Or.inr rfl))) (fun _ _ _ _ _ => pts_nil) (fun _ _ _ _ _ => (pe_has (h_l_number) (hr.mono (by first | decide | omega)) (by rfl) (pa_cons (pv 0) pa_nil)))) pa_nil)) (pg_name (i := 6) sc_l_rows.nd rfl (by first | exact Or.inl rfl | exact Or.inr rfl)))) (pss_one (ps_if (pt_cmpR op_gt (pv 5) pe_int (nomark _)) (pss_cons (ps_asg (pe_ix (ix_listK (K := K) (by rfl)) (pv 3) (pe_has (h_l_draw) (hr.mono (by first | decide | omega)) (by rfl) (pa_cons (pv 0) (pa_cons (pe_callB (call_lenK (K := K) (by rfl)) (by rfl) B.len_ (by decide +kernel) (pa_cons (pv 3) pa_nil)) pa_nil))) (fun _ _ => rfl)) (pg_name (i := 6) sc_l_rows.nd rfl (by first | exact Or.inl rfl | exact Or.inr rfl)))
      (pss_one (ps_asg (pe_ifExp (pt_cmpR op_eq (pv 5) pe_int (nomark _)) (pv 6) (pe_callTy (call_tupleK (K := K) (by rfl)) (by rfl) B.tuple_ (by decide +kernel) (pa_cons (pe_lc (own := [("_law_number_here", 8)]) rfl sc_l_rows.nd (pi_tupK (K := K) (by rfl) (pv 6)) (blkOk_by (own := [("_law_number_here", 8)]) (N := n_l_rows) (sc := defScope s_l_rows) (by decide +kernel)) (fun _ _ _ _ _ => (pg_name (i := 8) sc_l_rows.nd rfl (by first | exact Or.inl rfl | exact Or.inr rfl))) (fun _ _ _ _ _ => pts_nil) (fun _ _ _ _ _ => (pe_un un_neg (pv 8)))) pa_nil))) (pg_name (i := 6) sc_l_rows.nd rfl (by first | exact Or.inl rfl | exact Or.inr rfl))))) pss_nil)))
      (pss_one (ps_expr (pe_bm PySem.F.plainAttrs_list PySem.F.slot_list_append PySem.F.type_list_append mt_append (pv 3) (pa_cons (pv 6) pa_nil))))))))
      (pss_one (ps_ret (pe_callTy (call_tupleK (K := K) (by rfl)) (by rfl) B.tuple_ (by decide +kernel) (pa_cons (pv 3) pa_nil)))))), ?_⟩
  refine ⟨Nat.zero_le _, fun l nl => ?_⟩
  obtain ⟨la, ls⟩ := hF.apart nl
  refine ⟨_, rfl, (m : Int), rfl, by omega, by omega, for_range (lo := 0) (n := m) (fun i σ H' => ∃ (ys : List V) (rs : List (List Int)) (v4 v5 v6 v7 v8 : Option V),
    σ = [some (.ref a), some (.int m), some (.int wd), some (.ref l), v4, v5, v6, v7, v8] ∧ H' l = some (.lst ys) ∧ DpAll K H' ys (rs.map rowD) ∧
    OkT i wd rs ∧ Sb a H H' ∧ Fd H' a s (n + 20 * i)) ?_ ?_ ?_⟩
  · exact ⟨[], [], none, none, none, none, none, rfl, upd_same, .nil, ⟨rfl, fun r h => by cases h⟩, Sb.new nl, hF.upd la ls⟩
  · rintro i σ H' hi ⟨ys, rs, v4, v5, v6, v7, v8, rfl, hl, hall, hok, sb, f⟩
    have tall : tupAll (rs.map rowD) = true := rows_tup rs
    refine ⟨_, rfl, a, s, _, n + 20 * i, rfl, f, by omega, by decide, by decide, fun r H1 r0 r1 sb1 f1 => ?_⟩
    have hl1 := sb1 _ _ la hl
    have hall1 := DpAll.tk (f.tk sb1) _ _ tall hall
    refine ⟨by show 1 ≤ sizeLine; decide, fun p np => ⟨_, rfl, ?_⟩⟩
    refine rep_dp (K := K) (z := 0) (mk_row (r := [0]) (SqT.of upd_same)) (by omega) (by omega) fun v H2 e2 hv => ?_
    have e12 := (Same.new np).trans e2
    have hl2 := e12 _ _ hl1
    have hall2 := DpAll.same e12 _ _ hall1
    have f2 := f1.same e12
    have sb2 := (sb.trans sb1).trans (Sb.of (a := a) e12)
    -- a row of new numbers
    have body1 : ∀ (Hx : Hp) (D' : Ends), Hx l = some (.lst ys) → DpAll K Hx ys (rs.map rowD) → Sb a H Hx → Fd Hx a s (n + 20 * i + 1) →
        (∀ (u : V) (rw : List Int) (Hy : Hp), Hy l = some (.lst ys) → DpAll K Hy ys (rs.map rowD) → Sb a H Hy → Fd Hy a s (n + 20 * i + 19) → OkR wd rw → Dp K Hy u (rowD rw) →
          D'.nx [some (.ref a), some (.int m), some (.int wd), some (.ref l), some (.int (0 + (i : Int))), some (.int r), some u, v7, v8] Hy) →
        tAsg (tCB (rTupleK K) (tCons (tLc (iRng1 (tCons (tVar 2) tNil)) (gName 7) tYes (tCall spNumber [] E0 (tCons (tVar 0) tNil)) [7]) tNil)) (gName 6) D'
          [some (.ref a), some (.int m), some (.int wd), some (.ref l), some (.int (0 + (i : Int))), some (.int r), some v, v7, v8] Hx := by
      intro Hx D' hlx hallx sbx fx kx
      refine ⟨_, rfl, (wd : Int), rfl, by omega, by omega, fun D1 hD1 => ?_⟩
      refine lcrF (m := wd) (c := 2) (fun z => -99 ≤ z ∧ z ≤ 99) hD1 fx (by omega) (fun _ => rfl) ?_ ?_
      · intro j H3 Q3 hj sb3 f3 k3
        exact ⟨_, rfl, a, s, _, rfl, f3, by omega, fun z H4 z0 z1 sb4 f4 => k3 z H4 sb4 f4 ⟨z0, by omega⟩⟩
      · intro H3 ns sb3 f3 h3 hlen hb
        have tk3 := fx.tk sb3
        refine ⟨D1, _, rfl, .inl ⟨SqL.of h3, fun q nq => ?_⟩⟩
        have eq := Same.new (o := .tup (ns.map V.int)) nq
        refine kx _ ns _ (eq _ _ (sb3 _ _ la hlx)) (DpAll.same eq _ _ (DpAll.tk tk3 _ _ tall hallx)) ((sbx.trans sb3).trans (Sb.of eq)) ((f3.same eq).mono (by omega)) ⟨hlen, hb⟩ (mk_row (SqT.of upd_same))
    refine ⟨fun σ' H' => ∃ (u : V) (rw : List Int) (v4 v5 v7 v8 : Option V), σ' = [some (.ref a), some (.int m), some (.int wd), some (.ref l), v4, v5, some u, v7, v8] ∧
      H' l = some (.lst ys) ∧ DpAll K H' ys (rs.map rowD) ∧ Sb a H H' ∧ Fd H' a s (n + 20 * i + 19) ∧ OkR wd rw ∧ Dp K H' u (rowD rw), ?_, ?_⟩
    · refine ⟨_, rfl, _, _, rfl, rfl, _, rfl, ?_⟩
      refine ite2 (fun _ => ?_) (fun h2 => ?_)
      · exact body1 H2 _ hl2 hall2 sb2 (f2.mono (by omega)) fun u rw Hy g1 g2 g3 g4 g5 g6 => ⟨u, rw, _, _, _, _, rfl, g1, g2, g3, g4, g5, g6⟩
      · have h2 : ¬ r > 2 := fun z => h2 (decide_eq_true z)
        refine ⟨_, rfl, _, _, rfl, rfl, _, rfl, ?_⟩
        refine ite2 (fun h0 => ?_) (fun h0 => ?_)
        · have h0 : r > 0 := of_decide_eq_true h0
          refine ⟨_, rfl, Nat.zero_le _, fun q nq => ?_⟩
          have eq := Same.new (o := .lst []) nq
          have hl3 := eq _ _ hl2
          have hall3 := DpAll.same eq _ _ hall2
          have f3 := f2.same eq
          have sb3 := sb2.trans (Sb.of (a := a) eq)
          refine ⟨.list (rs.map rowD), .list [], .lst (SqL.of hl3) hall3, .lst (SqL.of upd_same) .nil, ?_, ints_shaped [], _, rfl, ?_⟩
          · exact rows_shaped rs
          rw [rows_nil]
          refine ite2 (fun he => ?_) (fun he => ?_)
          · exact body1 _ _ hl3 hall3 sb3 (f3.mono (by omega)) fun u rw Hy g1 g2 g3 g4 g5 g6 => ⟨u, rw, _, _, _, _, rfl, g1, g2, g3, g4, g5, g6⟩
          · have hne : rs ≠ [] := fun z => he (decide_eq_true z)
            have hpos : 0 < rs.length := List.length_pos_iff.mpr hne
            have hlen : ys.length = rs.length := by rw [dpa_len _ _ hall3, List.length_map]
            refine ⟨_, rfl, _, _, rfl, rfl, _, rfl, ?_⟩
            rw [decide_eq_true (show r > 0 from h0)]
            refine iteT ?_
            refine ⟨_, rfl, _, rfl, _, rfl, l, _, rfl, .inl (SqL.of hl3), ?_⟩
            have hb := hok.1
            refine ⟨a, s, _, n + 20 * i + 1, rfl, f3.mono (by omega), by omega, by omega, by omega, fun j H4 j0 j1 sb4 f4 => ?_⟩
            have hl4 := sb4 _ _ la hl3
            have hall4 := DpAll.tk (f3.tk sb4) _ _ tall hall3
            obtain ⟨j', rfl⟩ := Int.eq_ofNat_of_zero_le j0
            have hj' : j' < rs.length := by omega
            obtain ⟨x, hx, hdx⟩ := dpa_at _ _ j' _ hall4 (rows_getD hj')
            refine ⟨l, _, _, _, rfl, rfl, SqL.of hl4, atI_nat hx, ?_⟩
            have hmem := hok.2 _ (getD_mem (d := []) hj')
            have sb5 := sb3.trans sb4
            refine ⟨_, rfl, rfl, _, rfl, ?_⟩
            refine ite2 (fun _ => ?_) (fun _ => ?_)
            · exact ⟨_, rfl, x, _, _, _, _, _, rfl, hl4, hall4, sb5, f4.mono (by omega), hmem, hdx⟩
            · obtain ⟨px, rfl, hpx⟩ := dp_row hdx
              refine ⟨_, rfl, px, rfl, ⟨_, hpx⟩, fun D1 hD1 => ?_⟩
              refine lct (K := K) (j := 8) (fun c => .int (-((rs.getD j' []).getD c 0))) hD1 hpx (by rw [List.length_map, hmem.1]; omega) (fun _ _ => by simp [tupOnly]) (fun _ => rfl) ?_ ?_
              · intro c x H5 Q5 hx5 e5 k5
                obtain ⟨hc, rfl⟩ := row_get hx5
                exact ⟨_, rfl, _, rfl, k5 _ _ (Same.refl _) (.int _)⟩
              · intro H5 zs e5 h5 hd5
                rw [List.length_map] at hd5
                try dsimp only [tC, tNil]
                refine tupL_dp h5 hd5 fun v6 H6 e6 hv6 => ?_
                rw [mapR_row] at hv6
                have e56 := e5.trans e6
                refine ⟨v6, _, _, _, _, _, rfl, e56 _ _ hl4, DpAll.same e56 _ _ hall4, sb5.trans (Sb.of e56), (f4.same e56).mono (by omega), ⟨?_, ?_⟩, hv6⟩
                · rw [List.length_map, List.length_range]
                  exact hmem.1
                · intro z hz
                  obtain ⟨c, hc, rfl⟩ := List.mem_map.mp hz
                  have := hmem.2 _ (getD_mem (d := 0) (List.mem_range.mp hc))
                  omega
        · refine ⟨_, rfl, _, _, rfl, rfl, _, rfl, ?_⟩
          refine ite2 (fun hz => absurd hz h0) (fun _ => ?_)
          refine ⟨v, _, _, _, _, _, rfl, hl2, hall2, sb2, f2.mono (by omega), ⟨?_, ?_⟩, hv⟩
          · simp
          · intro x hx
            rw [(List.mem_replicate.mp hx).2]
            decide
    · rintro σ' H9 ⟨u, rw', w4, w5, w7, w8, rfl, hl9, hall9, sb9, f9, hok9, hu9⟩
      have hlen : ys.length = rs.length := by rw [dpa_len _ _ hall9, List.length_map]
      refine ⟨_, rfl, .inl ⟨rfl, _, SqL.of hl9⟩, _, rfl, l, _, _, rfl, rfl, hl9, ?_, ?_⟩
      · rw [hlen, hok.1]
        exact Nat.lt_of_lt_of_le (show i < 100 by omega) (by decide)
      · have tk := Tk.lst (o := .lst (ys ++ [u])) hl9
        refine ⟨ys ++ [u], rs ++ [rw'], _, _, _, _, _, rfl, upd_same, ?_, ⟨?_, ?_⟩, sb9.mut nl, (f9.upd la ls).mono (by omega)⟩
        · rw [List.map_append]
          exact dpa_snoc _ _ _ _ (DpAll.tk tk _ _ tall hall9) (Dp.tk tk _ _ (rowD_tup _) hu9)
        · rw [List.length_append, hok.1]
          rfl
        · intro r' hr'
          rcases List.mem_append.mp hr' with h | h
          · exact hok.2 r' h
          · rw [List.mem_singleton.mp h]
            exact hok9
  · rintro σ H' ⟨ys, rs, v4, v5, v6, v7, v8, rfl, hl, hall, hok, sb, f⟩
    refine ⟨_, rfl, ?_⟩
    try dsimp only [tC, tNil]
    refine tupL_dp hl hall fun v2 H2 e2 hv2 => ?_
    exact k _ _ rs (sb.trans (Sb.of e2)) ((f.same e2).mono (by omega)) hok hv2
def spTable (K : PySem.W.Frag) : Sp := fun vs H Q _ => ∃ (a s : Addr) (m wd n : Nat),
  vs = [.ref a, .int m, .int wd] ∧ Fd H a s n ∧ m ≤ 8 ∧ wd ≤ 8 ∧ n + 200 ≤ 1000000 ∧
  ∀ (v : V) (H' : Hp) (rs : List (List Int)), Sb a H H' → Fd H' a s (n + 200) → OkT m wd rs → Dp K H' v (tabD wd rs) → Q v H'
theorem ok_l_table (D : Df K mg "_law_table" s_l_table) (B : Bn mg) (h_l_rows : Has P w K mg base "_law_rows" 3 p_l_rows (spRows K)) :
    Has P w K mg base "_law_table" 4 p_l_table (spTable K) := by
  refine has_of (k := 3) D sc_l_table bn_l_table ?_ ?_
  · rintro vs H Q E ⟨a, s, m, wd, n, rfl, _⟩
    rfl
  rintro f cdv A outer s0 H vs Q E hr ⟨a, s, m, wd, n, rfl, hF, hm, hwd, hn, k⟩
  refine ⟨_, (pss_one (ps_ret (pe_tup (pa_cons (pv 2) (pa_cons (pe_has (h_l_rows) (hr.mono (by first | decide | omega)) (by rfl) (pa_cons (pv 0) (pa_cons (pv 1) (pa_cons (pv 2) pa_nil)))) pa_nil))))), ?_⟩
  refine ⟨_, rfl, _, rfl, _, rfl, _, rfl, a, s, m, wd, n, rfl, hF, hm, hwd, hn, fun v H1 rs sb1 f1 hok hv => ?_⟩
  try dsimp only [tC, tNil]
  refine tup_dp (K := K) (.cons (.int _) (.cons hv .nil)) (by simp) fun v3 H3 e3 hv3 => ?_
  exact k _ _ rs (sb1.trans (Sb.of e3)) (f1.same e3) hok hv3

theorem other_row {m i r : Nat} (h1 : i < m) (h2 : m ≤ 8) (h3 : r + 1 < m) :
    ∃ j : Nat, ((i : Int) + 1 + (r : Int)).fmod (m : Int) = (j : Int) ∧ j < m ∧ i ≠ j := by
  rw [Int.fmod_eq_emod_of_nonneg _ (by omega)]
  have c : m = 2 ∨ m = 3 ∨ m = 4 ∨ m = 5 ∨ m = 6 ∨ m = 7 ∨ m = 8 := by omega
  refine ⟨(((i : Int) + 1 + (r : Int)) % (m : Int)).toNat, ?_, ?_, ?_⟩
  · rcases c with rfl | rfl | rfl | rfl | rfl | rfl | rfl <;> omega
  · rcases c with rfl | rfl | rfl | rfl | rfl | rfl | rfl <;> omega
  · rcases c with rfl | rfl | rfl | rfl | rfl | rfl | rfl <;> omega
def spLDeed (K : PySem.W.Frag) : Sp := fun vs H Q _ => ∃ (a s : Addr) (m n : Nat),
  vs = [.ref a, .int m] ∧ Fd H a s n ∧ 1 ≤ m ∧ m ≤ 8 ∧ n + 10 ≤ 1000000 ∧
  ∀ (v : V) (H' : Hp) (d : Deed), Sb a H H' → Fd H' a s (n + 10) → OkD m 99 d → Dp K H' v (deedD d) → Q v H'
theorem ok_l_deed (D : Df K mg "_law_deed" s_l_deed) (B : Bn mg) (h_l_draw : Has P w K mg base "_law_draw" 1 p_l_draw spDraw)
    (h_l_number : Has P w K mg base "_law_number" 2 p_l_number spNumber) :
    Has P w K mg base "_law_deed" 3 p_l_deed (spLDeed K) := by
  refine has_of (k := 2) D sc_l_deed bn_l_deed ?_ ?_
  · rintro vs H Q E ⟨a, s, m, n, rfl, _⟩
    rfl
  rintro f cdv A outer s0 H vs Q E hr ⟨a, s, m, n, rfl, hF, hm1, hm8, hn, k⟩
  refine ⟨_, (pss_cons (ps_asg (pe_has (h_l_draw) (hr.mono (by first | decide | omega)) (by rfl) (pa_cons (pv 0) (pa_cons (pv 1) pa_nil))) (pg_name (i := 2) sc_l_deed.nd rfl (by first | exact Or.inl rfl | exact Or.inr rfl)))
      (pss_cons (ps_asg (pe_has (h_l_draw) (hr.mono (by first | decide | omega)) (by rfl) (pa_cons (pv 0) (pa_cons pe_int pa_nil))) (pg_name (i := 3) sc_l_deed.nd rfl (by first | exact Or.inl rfl | exact Or.inr rfl)))
      (Evl.pss_cut (ps_if (PW.pt (pw_or (pt_cmpR op_eq (pv 1) pe_int (nomark _)) (pw_or1 (pt_cmpR op_eq (pv 3) pe_int (nomark _))))) (pss_one (ps_ret (pe_tup (pa_cons pe_str (pa_cons (pv 2) pa_nil))))) pss_nil)
      (pss_cons (ps_asg (pe_op op_modN (pe_op op_add (pe_op op_add (pv 2) pe_int) (pe_has (h_l_draw) (hr.mono (by first | decide | omega)) (by rfl) (pa_cons (pv 0) (pa_cons (pe_op op_sub (pv 1) pe_int) pa_nil)))) (pv 1)) (pg_name (i := 4) sc_l_deed.nd rfl (by first | exact Or.inl rfl | exact Or.inr rfl)))
      (pss_one (ps_ret (pe_ifExp (pt_cmpR op_eq (pv 3) pe_int (nomark _)) (pe_tup (pa_cons pe_str (pa_cons (pv 2) (pa_cons (pv 4) pa_nil)))) (pe_tup (pa_cons pe_str (pa_cons (pv 2) (pa_cons (pv 4) (pa_cons (pe_has (h_l_number) (hr.mono (by first | decide | omega)) (by rfl) (pa_cons (pv 0) pa_nil)) pa_nil)))))))))))), ?_⟩
  refine ⟨_, rfl, _, rfl, a, s, _, n, rfl, hF, by omega, by omega, by omega, fun ri H1 r0 r1 sb1 f1 => ?_⟩
  refine ⟨_, rfl, a, s, _, n + 1, rfl, f1, by omega, by decide, by decide, fun rw H2 w0 w1 sb2 f2 => ?_⟩
  obtain ⟨i, rfl⟩ := Int.eq_ofNat_of_zero_le r0
  have hi : i < m := by omega
  have sb02 := sb1.trans sb2
  refine ⟨fun σ' H' => H' = H2 ∧ m ≠ 1 ∧ σ' = [some (.ref a), some (.int m), some (.int i), some (.int rw), none], ?_, ?_⟩
  · have turn : ∀ (D' : Ends), D'.rt = Q → tRet (tTup (tCons (tC (V.str "turn")) (tCons (tVar 2) tNil))) D' [some (.ref a), some (.int m), some (.int i), some (.int rw), none] H2 := by
      intro D' hD
      refine ⟨_, rfl, by show 2 ≤ sizeLine; decide, fun p np => ?_⟩
      show D'.rt _ _
      rw [hD]
      have ep := Same.new (o := .tup [V.str "turn", V.int i]) np
      exact k _ _ (.turn i) (sb02.trans (Sb.of ep)) ((f2.same ep).mono (by omega)) hi (.tup (SqT.of upd_same) (.cons (.str _) (.cons (.int _) .nil)))
    refine ⟨_, rfl, rfl, _, rfl, ?_⟩
    refine ite2 (fun _ => turn _ rfl) (fun hne => ?_)
    have hne : m ≠ 1 := fun z => hne (decide_eq_true (by rw [z]; rfl))
    refine ⟨_, rfl, rfl, _, rfl, ?_⟩
    exact ite2 (fun _ => turn _ rfl) (fun _ => ⟨rfl, hne, rfl⟩)
  · rintro σ' H' ⟨rfl, hne, rfl⟩
    refine ⟨_, rfl, _, _, rfl, rfl, _, rfl, _, rfl, _, _, rfl, rfl, a, s, _, n + 2, rfl, f2, by omega, by omega, by omega, fun rj H3 j0 j1 sb3 f3 => ?_⟩
    obtain ⟨r, rfl⟩ := Int.eq_ofNat_of_zero_le j0
    obtain ⟨j, ej, hj, hij⟩ := other_row (r := r) hi hm8 (by omega)
    refine ⟨_, _, rfl, rfl, _, rfl, _, _, rfl, rfl, by omega, ?_⟩
    dsimp only
    rw [ej]
    have sb03 := sb02.trans sb3
    refine ⟨_, rfl, rfl, _, rfl, ?_⟩
    refine ite2 (fun _ => ?_) (fun _ => ?_)
    · refine ⟨_, rfl, _, rfl, by show 3 ≤ sizeLine; decide, fun p np => ?_⟩
      have ep := Same.new (o := .tup [V.str "swap", V.int i, V.int j]) np
      exact k _ _ (.swap i j) (sb03.trans (Sb.of ep)) ((f3.same ep).mono (by omega)) ⟨hi, hj, hij⟩ (.tup (SqT.of upd_same) (.cons (.str _) (.cons (.int _) (.cons (.int _) .nil))))
    · refine ⟨_, rfl, _, rfl, _, rfl, a, s, n + 3, rfl, f3, by omega, fun kk H4 k0 k1 sb4 f4 => ?_⟩
      refine ⟨by show 4 ≤ sizeLine; decide, fun p np => ?_⟩
      have ep := Same.new (o := .tup [V.str "add", V.int i, V.int j, V.int kk]) np
      exact k _ _ (.add i j kk) ((sb03.trans sb4).trans (Sb.of ep)) ((f4.same ep).mono (by omega)) ⟨hi, hj, hij, k0, by omega⟩
        (.tup (SqT.of upd_same) (.cons (.str _) (.cons (.int _) (.cons (.int _) (.cons (.int _) .nil)))))
theorem deeds_of {m : Nat} {b : Int} : ∀ es : List PyData, (∀ e ∈ es, ∃ d, e = deedD d ∧ OkD m b d) → ∃ ds : List Deed, es = ds.map deedD ∧ ∀ d ∈ ds, OkD m b d
  | [], _ => ⟨[], rfl, fun d h => by cases h⟩
  | e :: es, h => by
    obtain ⟨d, rfl, hd⟩ := h e (List.mem_cons_self ..)
    obtain ⟨ds, rfl, hs⟩ := deeds_of es (fun x hx => h x (List.mem_cons_of_mem _ hx))
    refine ⟨d :: ds, rfl, fun x hx => ?_⟩
    rcases List.mem_cons.mp hx with rfl | hx
    · exact hd
    · exact hs x hx
def spLDeeds (K : PySem.W.Frag) : Sp := fun vs H Q _ => ∃ (a s : Addr) (m t n : Nat),
  vs = [.ref a, .int m, .int t] ∧ Fd H a s n ∧ m ≤ 8 ∧ t ≤ 12 ∧ n + 200 ≤ 1000000 ∧
  ∀ (v : V) (H' : Hp) (ds : List Deed), Sb a H H' → Fd H' a s (n + 200) → (∀ d ∈ ds, OkD m 99 d) → ds.length ≤ t → Dp K H' v (deedsD ds) → Q v H'
theorem ok_l_deeds (D : Df K mg "_law_deeds" s_l_deeds) (B : Bn mg) (h_l_deed : Has P w K mg base "_law_deed" 3 p_l_deed (spLDeed K))
    (h_l_draw : Has P w K mg base "_law_draw" 1 p_l_draw spDraw) :
    Has P w K mg base "_law_deeds" 4 p_l_deeds (spLDeeds K) := by
  refine has_of (k := 3) D sc_l_deeds bn_l_deeds ?_ ?_
  · rintro vs H Q E ⟨a, s, m, t, n, rfl, _⟩
    rfl
  rintro f cdv A outer s0 H vs Q E hr ⟨a, s, m, t, n, rfl, hF, hm, ht, hn, k⟩
  refine ⟨_, (pss_one (ps_ret (pe_callTy (call_tupleK (K := K) (by rfl)) (by rfl) B.tuple_ (by decide +kernel) (pa_cons (pe_lc (own := [("_law_k", 3)]) rfl sc_l_deeds.nd (pi_range1 (by rfl) B.range_ (pa_cons (pe_op op_mul (pe_has (h_l_draw) (hr.mono (by first | decide | omega)) (by rfl) (pa_cons (pv 0) (pa_cons (pe_op op_add (pv 2) pe_int) pa_nil))) (pe_callTy call_int1 (by rfl) B.int_ (by decide +kernel) (pa_cons (pe_cmpR op_gt (pv 1) pe_int (nomark _)) pa_nil))) pa_nil)) (blkOk_by (own := [("_law_k", 3)]) (N := n_l_deeds) (sc := defScope s_l_deeds) (by decide +kernel)) (fun _ _ _ _ _ => (pg_name (i := 3) sc_l_deeds.nd rfl (by first | exact Or.inl rfl | exact Or.inr rfl))) (fun _ _ _ _ _ => pts_nil) (fun _ _ _ _ _ => (pe_has (h_l_deed) (hr.mono (by first | decide | omega)) (by rfl) (pa_cons (pv 0) (pa_cons (pv 1) pa_nil))))) pa_nil)))), ?_⟩
  refine ⟨_, rfl, _, rfl, _, _, rfl, rfl, a, s, _, n, rfl, hF, by omega, by omega, by omega, fun r H1 r0 r1 sb1 f1 => ?_⟩
  obtain ⟨r, rfl⟩ := Int.eq_ofNat_of_zero_le r0
  refine ⟨_, rfl, _, _, rfl, rfl, .inr ⟨_, rfl, ?_⟩⟩
  have fin : ∀ q : Nat, (q = 0 ∨ (1 ≤ m ∧ q = r)) → ∀ z : Int, z = (q : Int) → ∀ (R : It → Hp → Prop),
      (R (Itr 0 z.toNat) H1) → ∃ nn : Int, [V.int z] = [V.int nn] ∧ -(2 ^ 62) ≤ nn ∧ nn < 2 ^ 62 ∧ R (Itr 0 nn.toNat) H1 := by
    intro q hq z hz R hR
    refine ⟨z, rfl, ?_, ?_, hR⟩
    · omega
    · omega
  by_cases h0 : 0 < m
  · rw [decide_eq_true (show (m : Int) > 0 by omega)]
    refine ⟨_, _, rfl, rfl, .inl ⟨by omega, by omega⟩, _, rfl, ?_, ?_, fun D1 hD1 => ?_⟩
    · show -(2 ^ 62) ≤ (r : Int) * 1
      omega
    · show (r : Int) * 1 < 2 ^ 62
      omega
    have er : ((r : Int) * (if true = true then 1 else 0)).toNat = r := by
      show ((r : Int) * 1).toNat = r
      omega
    rw [er]
    refine lcrD (K := K) (m := r) (c := 10) (fun e => ∃ d, e = deedD d ∧ OkD m 99 d) hD1 f1 (by omega) (fun e he => by obtain ⟨d, rfl, _⟩ := he; exact deedD_tup d) (fun _ => rfl) ?_ ?_
    · intro j H3 Q3 hj sb3 f3 k3
      exact ⟨_, rfl, _, rfl, a, s, m, _, rfl, f3, by omega, hm, by omega, fun v H4 d sb4 f4 hd hv => k3 v _ H4 sb4 f4 ⟨d, rfl, hd⟩ hv⟩
    · intro H3 ys es sb3 f3 h3 ha3 hl3 hp3
      obtain ⟨ds, rfl, hds⟩ := deeds_of es hp3
      try dsimp only [tC, tNil]
      refine tupL_dp h3 ha3 fun v2 H2 e2 hv2 => ?_
      refine k _ _ ds ((sb1.trans sb3).trans (Sb.of e2)) ((f3.same e2).mono (by omega)) hds ?_ hv2
      rw [List.length_map] at hl3
      omega
  · have em : m = 0 := by omega
    rw [decide_eq_false (show ¬ (m : Int) > 0 by omega)]
    refine ⟨_, _, rfl, rfl, .inl ⟨by omega, by omega⟩, _, rfl, ?_, ?_, fun D1 hD1 => ?_⟩
    · show -(2 ^ 62) ≤ (r : Int) * 0
      omega
    · show (r : Int) * 0 < 2 ^ 62
      omega
    have er : ((r : Int) * (if false = true then 1 else 0)).toNat = 0 := by
      show ((r : Int) * 0).toNat = 0
      omega
    rw [er]
    refine lcrD (K := K) (m := 0) (c := 10) (fun e => ∃ d, e = deedD d ∧ OkD m 99 d) hD1 f1 (by omega) (fun e he => by obtain ⟨d, rfl, _⟩ := he; exact deedD_tup d) (fun _ => rfl) ?_ ?_
    · intro j H3 Q3 hj sb3 f3 k3
      omega
    · intro H3 ys es sb3 f3 h3 ha3 hl3 hp3
      obtain ⟨ds, rfl, hds⟩ := deeds_of es hp3
      try dsimp only [tC, tNil]
      refine tupL_dp h3 ha3 fun v2 H2 e2 hv2 => ?_
      refine k _ _ ds ((sb1.trans sb3).trans (Sb.of e2)) ((f3.same e2).mono (by omega)) hds ?_ hv2
      rw [List.length_map] at hl3
      omega

end K14

set_option Elab.async false
set_option linter.all false
set_option maxRecDepth 100000
set_option maxHeartbeats 1000000
namespace K14
open PySem PySem.Spec PyProof.Rows L2 Gd
variable {P : Program} {w : World} {K : PySem.W.Frag} {mg : Str → Option Value} {base : Heap}
def notAdd : Deed → Bool
  | .add _ _ _ => false
  | _ => true
def cntD (ds : List Deed) : Nat := (ds.filter notAdd).length
theorem sg_cnt (d : Deed) (ds : List Deed) : sg (cntD (d :: ds)) = sgD d * sg (cntD ds) := by
  unfold cntD
  cases d with
  | add i j k =>
    show sg (List.filter notAdd ds).length = 1 * _
    omega
  | swap i j =>
    show sg ((List.filter notAdd ds).length + 1) = -1 * _
    rw [sg_succ]
    omega
  | turn i =>
    show sg ((List.filter notAdd ds).length + 1) = -1 * _
    rw [sg_succ]
    omega
theorem det_allD {m w : Nat} {b : Int} (c : List Nat) : ∀ (ds : List Deed) (rs : List (List Int)), rs.length = m → (∀ r ∈ rs, r.length = w) → (∀ d ∈ ds, OkD m b d) → detM (allD rs ds) c = sg (cntD ds) * detM rs c
  | [], rs, _, _, _ => by
    show detM rs c = 1 * detM rs c
    omega
  | d :: ds, rs, hm, hw, hd => by
    have h1 := hd d (List.mem_cons_self ..)
    have ih := det_allD c ds (stepD rs d) (by rw [stepD_len]; exact hm) (stepD_wide hw hm h1) fun x hx => hd x (List.mem_cons_of_mem _ hx)
    show detM (allD (stepD rs d) ds) c = _
    rw [ih, det_stepD hm hw h1, sg_cnt]
    grind
theorem okd_trs {m : Nat} {b : Int} {ds : List Deed} (h : ∀ d ∈ ds, OkD m b d) : ∀ d ∈ (ds.map trD).reverse, OkD m b d := by
  intro d hd
  rw [List.mem_reverse] at hd
  obtain ⟨x, hx, rfl⟩ := List.mem_map.mp hd
  exact trD_ok (h x hx)
/-- the table of deeds turned over is that of the deeds turned over, the other way about -/
theorem turn_allD {n : Nat} {b : Int} (hn : n < 8) (ds : List Deed) : (∀ d ∈ ds, OkD n b d) → turnR n (allD (unitR n) ds) = allD (unitR n) (ds.map trD).reverse := by
  suffices h : ∀ es : List Deed, (∀ d ∈ es, OkD n b d) → turnR n (allD (unitR n) es.reverse) = allD (unitR n) (es.reverse.map trD).reverse by
    intro hd
    have := h ds.reverse (fun d h => hd d (List.mem_reverse.mp h))
    rw [List.reverse_reverse] at this
    exact this
  intro es
  induction es with
  | nil =>
    intro _
    have : ∀ n < 8, turnR n (unitR n) = unitR n := by decide +kernel
    exact this n hn
  | cons d es ih =>
    intro hd
    have h1 := hd d (List.mem_cons_self ..)
    have h2 : ∀ x ∈ es.reverse, OkD n b x := fun x hx => hd x (List.mem_cons_of_mem _ (List.mem_reverse.mp hx))
    have ih := ih fun x hx => hd x (List.mem_cons_of_mem _ hx)
    have hT := allD_tb (unit_tb (n := n) (by omega)) (unitR_len n) h2
    have hl : (allD (unitR n) es.reverse).length = n := by rw [allD_len, unitR_len]
    rw [List.reverse_cons, allD_app]
    have e1 := deeds_mul (ds := [d]) (ts := allD (unitR n) es.reverse) hT hl (fun x hx => by rw [List.mem_singleton.mp hx]; exact h1)
    have e2 : Tb n (stepD (unitR n) d) := ⟨by rw [stepD_len, unitR_len]; omega, by omega, stepD_wide unitR_wide (unitR_len n) h1⟩
    have e3 : (stepD (unitR n) d).length = n := by rw [stepD_len, unitR_len]
    rw [← e1]
    show turnR n (mulR (stepD (unitR n) d) n (allD (unitR n) es.reverse)) = _
    have tm := turn_mul (as := stepD (unitR n) d) (bs := allD (unitR n) es.reverse) (v := n) (w := n) e2 hl.symm
    rw [e3] at tm
    rw [tm, ih, turn_stepU hn h1]
    have h3 := okd_trs h2
    have e4 := deeds_mul (ds := (es.reverse.map trD).reverse) (ts := stepD (unitR n) (trD d)) (w := n) (m := n) (b := b) ⟨by rw [stepD_len, unitR_len]; omega, by omega, stepD_wide unitR_wide (unitR_len n) (trD_ok h1)⟩ (by rw [stepD_len, unitR_len]) h3
    rw [e4, List.map_append, List.reverse_append]
    rfl
theorem cnt_trs (ds : List Deed) : cntD (ds.map trD).reverse = cntD ds := by
  unfold cntD
  rw [List.filter_reverse, List.length_reverse, List.filter_map, List.length_map]
  congr 1
  refine List.filter_congr fun d _ => ?_
  cases d <;> rfl
/-! ### corners of products -/
theorem pick_len (rs : List (List Int)) (c : List Nat) : (pickR rs c).length = c.length := List.length_map ..
theorem pick_mul {as ts : List (List Int)} {w : Nat} {c : List Nat} (h : ∀ n ∈ c, n < as.length) : pickR (mulR as w ts) c = mulR (pickR as c) w ts := by
  rw [mulR_eq (pickR as c)]
  unfold pickR
  rw [List.map_map]
  exact List.map_congr_left fun n hn => mulR_at (h n hn)
theorem cbG {as ts : List (List Int)} {w mid k : Nat} {d : List Nat} (hmid : mid ≤ 3) (hm1 : 1 ≤ mid) (hk : k ≤ 3) (hk1 : 1 ≤ k) (ha : as.length = k) (ht : ts.length = mid) (hr : ∀ r ∈ as, r.length = mid) (hd : d.length = k) (hw : ∀ q ∈ d, q < w) :
    detM (mulR as w ts) d = ((choicesM mid k).map fun c => detM as c * detM (pickR ts c) d).sum := by
  rw [mulR_eq]
  match mid, k, as, ts, d, hmid, hm1, hk, hk1, ha, ht, hd with
  | 1, 1, [a], [t0], [x], _, _, _, _, _, _, _ =>
    have e : choicesM 1 1 = [[0]] := by decide +kernel
    rw [e]
    have h := cb11 (w := w) (t0 := t0) (hr a (by simp)) (hw x (by simp))
    simp only [List.map_cons, List.map_nil, List.sum_cons, List.sum_nil]
    first
      | (rw [h]; done)
      | (rw [h]; simp only [pickR, List.map_cons, List.map_nil, List.getD_cons_zero, List.getD_cons_succ]; done)
      | (rw [h]; simp only [pickR, List.map_cons, List.map_nil, List.getD_cons_zero, List.getD_cons_succ]; omega)
  | 1, 2, [a, b], [t0], [x, y], _, _, _, _, _, _, _ =>
    have e : choicesM 1 2 = [] := by decide +kernel
    rw [e]
    have h := cb12 (w := w) (t0 := t0) (hr a (by simp)) (hr b (by simp)) (hw x (by simp)) (hw y (by simp))
    simp only [List.map_cons, List.map_nil, List.sum_cons, List.sum_nil]
    first
      | (rw [h]; done)
      | (rw [h]; simp only [pickR, List.map_cons, List.map_nil, List.getD_cons_zero, List.getD_cons_succ]; done)
      | (rw [h]; simp only [pickR, List.map_cons, List.map_nil, List.getD_cons_zero, List.getD_cons_succ]; omega)
  | 1, 3, [a, b, c], [t0], [x, y, z], _, _, _, _, _, _, _ =>
    have e : choicesM 1 3 = [] := by decide +kernel
    rw [e]
    have h := cb13 (w := w) (t0 := t0) (hr a (by simp)) (hr b (by simp)) (hr c (by simp)) (hw x (by simp)) (hw y (by simp)) (hw z (by simp))
    simp only [List.map_cons, List.map_nil, List.sum_cons, List.sum_nil]
    first
      | (rw [h]; done)
      | (rw [h]; simp only [pickR, List.map_cons, List.map_nil, List.getD_cons_zero, List.getD_cons_succ]; done)
      | (rw [h]; simp only [pickR, List.map_cons, List.map_nil, List.getD_cons_zero, List.getD_cons_succ]; omega)
  | 2, 1, [a], [t0, t1], [x], _, _, _, _, _, _, _ =>
    have e : choicesM 2 1 = [[0], [1]] := by decide +kernel
    rw [e]
    have h := cb21 (w := w) (t0 := t0) (t1 := t1) (hr a (by simp)) (hw x (by simp))
    simp only [List.map_cons, List.map_nil, List.sum_cons, List.sum_nil]
    first
      | (rw [h]; done)
      | (rw [h]; simp only [pickR, List.map_cons, List.map_nil, List.getD_cons_zero, List.getD_cons_succ]; done)
      | (rw [h]; simp only [pickR, List.map_cons, List.map_nil, List.getD_cons_zero, List.getD_cons_succ]; omega)
  | 2, 2, [a, b], [t0, t1], [x, y], _, _, _, _, _, _, _ =>
    have e : choicesM 2 2 = [[0, 1]] := by decide +kernel
    rw [e]
    have h := cb22 (w := w) (t0 := t0) (t1 := t1) (hr a (by simp)) (hr b (by simp)) (hw x (by simp)) (hw y (by simp))
    simp only [List.map_cons, List.map_nil, List.sum_cons, List.sum_nil]
    first
      | (rw [h]; done)
      | (rw [h]; simp only [pickR, List.map_cons, List.map_nil, List.getD_cons_zero, List.getD_cons_succ]; done)
      | (rw [h]; simp only [pickR, List.map_cons, List.map_nil, List.getD_cons_zero, List.getD_cons_succ]; omega)
  | 2, 3, [a, b, c], [t0, t1], [x, y, z], _, _, _, _, _, _, _ =>
    have e : choicesM 2 3 = [] := by decide +kernel
    rw [e]
    have h := cb23 (w := w) (t0 := t0) (t1 := t1) (hr a (by simp)) (hr b (by simp)) (hr c (by simp)) (hw x (by simp)) (hw y (by simp)) (hw z (by simp))
    simp only [List.map_cons, List.map_nil, List.sum_cons, List.sum_nil]
    first
      | (rw [h]; done)
      | (rw [h]; simp only [pickR, List.map_cons, List.map_nil, List.getD_cons_zero, List.getD_cons_succ]; done)
      | (rw [h]; simp only [pickR, List.map_cons, List.map_nil, List.getD_cons_zero, List.getD_cons_succ]; omega)
  | 3, 1, [a], [t0, t1, t2], [x], _, _, _, _, _, _, _ =>
    have e : choicesM 3 1 = [[0], [1], [2]] := by decide +kernel
    rw [e]
    have h := cb31 (w := w) (t0 := t0) (t1 := t1) (t2 := t2) (hr a (by simp)) (hw x (by simp))
    simp only [List.map_cons, List.map_nil, List.sum_cons, List.sum_nil]
    first
      | (rw [h]; done)
      | (rw [h]; simp only [pickR, List.map_cons, List.map_nil, List.getD_cons_zero, List.getD_cons_succ]; done)
      | (rw [h]; simp only [pickR, List.map_cons, List.map_nil, List.getD_cons_zero, List.getD_cons_succ]; omega)
  | 3, 2, [a, b], [t0, t1, t2], [x, y], _, _, _, _, _, _, _ =>
    have e : choicesM 3 2 = [[0, 1], [0, 2], [1, 2]] := by decide +kernel
    rw [e]
    have h := cb32 (w := w) (t0 := t0) (t1 := t1) (t2 := t2) (hr a (by simp)) (hr b (by simp)) (hw x (by simp)) (hw y (by simp))
    simp only [List.map_cons, List.map_nil, List.sum_cons, List.sum_nil]
    first
      | (rw [h]; done)
      | (rw [h]; simp only [pickR, List.map_cons, List.map_nil, List.getD_cons_zero, List.getD_cons_succ]; done)
      | (rw [h]; simp only [pickR, List.map_cons, List.map_nil, List.getD_cons_zero, List.getD_cons_succ]; omega)
  | 3, 3, [a, b, c], [t0, t1, t2], [x, y, z], _, _, _, _, _, _, _ =>
    have e : choicesM 3 3 = [[0, 1, 2]] := by decide +kernel
    rw [e]
    have h := cb33 (w := w) (t0 := t0) (t1 := t1) (t2 := t2) (hr a (by simp)) (hr b (by simp)) (hr c (by simp)) (hw x (by simp)) (hw y (by simp)) (hw z (by simp))
    simp only [List.map_cons, List.map_nil, List.sum_cons, List.sum_nil]
    first
      | (rw [h]; done)
      | (rw [h]; simp only [pickR, List.map_cons, List.map_nil, List.getD_cons_zero, List.getD_cons_succ]; done)
      | (rw [h]; simp only [pickR, List.map_cons, List.map_nil, List.getD_cons_zero, List.getD_cons_succ]; omega)
/-! ### what divides all -/
def gcdL (l : List Int) : Nat := l.foldl (fun g x => Nat.gcd x.natAbs g) 0
theorem gcd_from (d : Nat) : ∀ (l : List Int) (g : Nat), d ∣ l.foldl (fun g x => Nat.gcd x.natAbs g) g ↔ d ∣ g ∧ ∀ x ∈ l, d ∣ x.natAbs
  | [], g => by simp
  | x :: l, g => by
    rw [List.foldl_cons, gcd_from d l, Nat.dvd_gcd_iff]
    constructor
    · rintro ⟨⟨h1, h2⟩, h3⟩
      refine ⟨h2, fun y hy => ?_⟩
      rcases List.mem_cons.mp hy with rfl | hy
      · exact h1
      · exact h3 y hy
    · rintro ⟨h1, h2⟩
      exact ⟨⟨h2 x (List.mem_cons_self ..), h1⟩, fun y hy => h2 y (List.mem_cons_of_mem _ hy)⟩
theorem gcdL_dvd {l : List Int} {d : Nat} : d ∣ gcdL l ↔ ∀ x ∈ l, d ∣ x.natAbs := by
  unfold gcdL
  rw [gcd_from]
  simp
theorem gcdL_eq {l t : List Int} (h1 : ∀ x ∈ t, ∀ d : Int, (∀ y ∈ l, d ∣ y) → d ∣ x) (h2 : ∀ x ∈ l, ∀ d : Int, (∀ y ∈ t, d ∣ y) → d ∣ x) : gcdL l = gcdL t := by
  have key : ∀ l t : List Int, (∀ x ∈ t, ∀ d : Int, (∀ y ∈ l, d ∣ y) → d ∣ x) → gcdL l ∣ gcdL t := by
    intro l t h
    rw [gcdL_dvd]
    intro x hx
    have hd := h x hx (gcdL l : Int) fun y hy => Int.ofNat_dvd_left.mpr (gcdL_dvd.mp (Nat.dvd_refl _) y hy)
    exact Int.ofNat_dvd_left.mp hd
  exact Nat.dvd_antisymm (key l t h1) (key t l h2)
theorem dvd_sum {d : Int} : ∀ l : List Int, (∀ x ∈ l, d ∣ x) → d ∣ l.sum
  | [], _ => by simp
  | x :: l, h => by
    rw [List.sum_cons]
    exact Int.dvd_add (h x (List.mem_cons_self ..)) (dvd_sum l fun y hy => h y (List.mem_cons_of_mem _ hy))
theorem corner_mem {wd k : Nat} {rs : List (List Int)} {x : Int} : x ∈ cornersM wd rs k ↔ k ≤ rs.length ∧ k ≤ wd ∧ ∃ c ∈ choicesM rs.length k, ∃ e ∈ choicesM wd k, x = detM (pickR rs c) e := by
  unfold cornersM
  by_cases h : k > rs.length ∨ k > wd
  · rw [if_pos h]
    constructor
    · intro z
      cases z
    · rintro ⟨h1, h2, _⟩
      omega
  · rw [if_neg h, List.mem_flatMap]
    constructor
    · rintro ⟨c, hc, hx⟩
      obtain ⟨e, he, rfl⟩ := List.mem_map.mp hx
      exact ⟨by omega, by omega, c, hc, e, he, rfl⟩
    · rintro ⟨_, _, c, hc, e, he, rfl⟩
      exact ⟨c, hc, List.mem_map.mpr ⟨e, he, rfl⟩⟩
theorem corners_dvd {wd k m : Nat} {b : Int} {rs : List (List Int)} {ds : List Deed} (hm : rs.length = m) (hm3 : m ≤ 3) (hm1 : 1 ≤ m) (hk : k ≤ 3) (hk1 : 1 ≤ k) (hwd : wd ≤ 3) (hw : ∀ r ∈ rs, r.length = wd) (hd : ∀ d ∈ ds, OkD m b d) :
    ∀ x ∈ cornersM wd (allD rs ds) k, ∀ d : Int, (∀ y ∈ cornersM wd rs k, d ∣ y) → d ∣ x := by
  intro x hx d hy
  obtain ⟨h1, h2, c, hc, e, he, rfl⟩ := corner_mem.mp hx
  have hT : Tb wd rs := ⟨by omega, by omega, hw⟩
  have hU := allD_tb (unit_tb (n := m) (by omega)) (unitR_len m) hd
  have lU : (allD (unitR m) ds).length = m := by rw [allD_len, unitR_len]
  rw [allD_len] at hc h1
  obtain ⟨c1, c2⟩ := choices_mem hc
  obtain ⟨e1, e2⟩ := choices_mem he
  rw [← deeds_mul hT hm hd, pick_mul (by rw [lU, ← hm]; exact c2), cbG (mid := m) (k := k) hm3 hm1 hk hk1 (by rw [pick_len, c1]) hm ?_ e1 e2]
  · refine dvd_sum _ fun y hy2 => ?_
    obtain ⟨c', hc', rfl⟩ := List.mem_map.mp hy2
    refine Int.dvd_mul_of_dvd_right ?_
    exact hy _ (corner_mem.mpr ⟨h1, h2, c', by rw [hm]; exact hc', e, he, rfl⟩)
  · intro r hr
    obtain ⟨n, hn, rfl⟩ := List.mem_map.mp hr
    exact hU.2.2 _ (Gd.getD_mem (d := []) (by rw [lU, ← hm]; exact c2 n hn))
theorem corners_gcd {wd k m : Nat} {b : Int} {rs : List (List Int)} {ds : List Deed} (hm : rs.length = m) (hm3 : m ≤ 3) (hm1 : 1 ≤ m) (hk : k ≤ 3) (hk1 : 1 ≤ k) (hwd : wd ≤ 3) (hw : ∀ r ∈ rs, r.length = wd) (hd : ∀ d ∈ ds, OkD m b d) :
    gcdL (cornersM wd (allD rs ds) k) = gcdL (cornersM wd rs k) := by
  refine gcdL_eq ?_ (corners_dvd hm hm3 hm1 hk hk1 hwd hw hd)
  have := corners_dvd (rs := allD rs ds) (ds := backD ds) (k := k) (b := b) (by rw [allD_len]; exact hm) hm3 hm1 hk hk1 hwd (allD_tb ⟨by omega, by omega, hw⟩ hm hd).2.2 (backD_ok hd)
  rw [allD_back ds rs hm hd] at this
  exact this

end K14

set_option Elab.async false
set_option linter.all false
set_option maxRecDepth 100000
set_option maxHeartbeats 1000000
namespace K14
open PySem PySem.Spec PyProof.Rows L2 Gd
variable {P : Program} {w : World} {K : PySem.W.Frag} {mg : Str → Option Value} {base : Heap}
def spCommon (K : PySem.W.Frag) : Sp := fun vs H Q _ => ∃ (a : Addr) (zs : List Int), vs = [.ref a] ∧ SqL K H a (zs.map V.int) ∧ Q (.int ((gcdL zs : Nat) : Int)) H
theorem gcdL_snoc {zs : List Int} {i : Nat} {z : Int} (h : zs[i]? = some z) : gcdL (zs.take (i + 1)) = Nat.gcd z.natAbs (gcdL (zs.take i)) := by
  unfold gcdL
  rw [List.take_succ, h, List.foldl_append]
  rfl
theorem abs_eq (i : Int) : (if i < 0 then -i else i) = (i.natAbs : Int) := by
  split <;> omega
theorem gcd_turn {a b : Int} (ha : 0 ≤ a) (hb : 0 < b) : Int.gcd b (a.fmod b) = Int.gcd a b := by
  obtain ⟨m, rfl⟩ := Int.eq_ofNat_of_zero_le ha
  obtain ⟨n, rfl⟩ := Int.eq_ofNat_of_zero_le (Int.le_of_lt hb)
  rw [Int.fmod_eq_emod_of_nonneg _ (by omega)]
  show Nat.gcd n ((m : Int) % (n : Int)).natAbs = Nat.gcd m n
  have e : ((m : Int) % (n : Int)).natAbs = m % n := by omega
  rw [e, Nat.gcd_comm m n, Nat.gcd_rec n m, Nat.gcd_comm]
theorem gcd_end {a : Int} (ha : 0 ≤ a) : a = ((Int.gcd a 0 : Nat) : Int) := by
  rw [Int.gcd_zero_right]
  omega
theorem ok_l_common (D : Df K mg "_law_common" s_l_common) (B : Bn mg) : Has P w K mg base "_law_common" 1 p_l_common (spCommon K) := by
  refine has_of (k := 0) D sc_l_common bn_l_common ?_ ?_
  · rintro vs H Q E ⟨a, zs, rfl, _⟩
    rfl
  rintro f cdv A outer s0 H vs Q E hr ⟨a, zs, rfl, hz, kk⟩
  refine ⟨_, (pss_cons (ps_asg pe_int (pg_name (i := 1) sc_l_common.nd rfl (by first | exact Or.inl rfl | exact Or.inr rfl)))
      (pss_cons (ps_for PassesOwn.never rfl (pi_listK (K := K) (by rfl) (pv 0)) (pg_name (i := 2) sc_l_common.nd rfl (by first | exact Or.inl rfl | exact Or.inr rfl)) (pss_cons (ps_par (i := 3) (j := 4) (by rfl) sc_l_common.nd rfl rfl (by decide) rfl rfl (pa_cons (pe_callB call_abs (by rfl) B.abs_ (by decide +kernel) (pa_cons (pv 2) pa_nil)) (pa_cons (pv 1) pa_nil)) (by rfl))
      (pss_cons (ps_while PassesOwn.never (pt_cmpR op_gt (pv 4) pe_int (nomark _)) (pss_one (ps_par (i := 3) (j := 4) (by rfl) sc_l_common.nd rfl rfl (by decide) rfl rfl (pa_cons (pv 4) (pa_cons (pe_op op_modN (pv 3) (pv 4)) pa_nil)) (by rfl))))
      (pss_one (ps_asg (pv 3) (pg_name (i := 1) sc_l_common.nd rfl (by first | exact Or.inl rfl | exact Or.inr rfl)))))))
      (pss_one (ps_ret (pv 1))))), ?_⟩
  refine ⟨_, rfl, a, rfl, ⟨_, hz⟩, ?_⟩
  refine for_list (K := K) (a := a) (xs := zs.map V.int) (fun i σ H' => H' = H ∧ ∃ v2 v3 v4 : Option V, σ = [some (.ref a), some (.int ((gcdL (zs.take i) : Nat) : Int)), v2, v3, v4]) ?_ ?_ ?_ ?_
  · exact ⟨rfl, _, _, _, rfl⟩
  · rintro i σ H' _ ⟨rfl, _⟩
    exact hz
  · rintro i x σ H' hx ⟨rfl, v2, v3, v4, rfl⟩
    obtain ⟨z, hz1, rfl⟩ : ∃ z, zs[i]? = some z ∧ x = .int z := by
      rw [List.getElem?_map] at hx
      cases h : zs[i]? with
      | none => rw [h] at hx; cases hx
      | some z => rw [h] at hx; cases hx; exact ⟨z, rfl, rfl⟩
    refine ⟨_, rfl, _, rfl, _, rfl, _, _, rfl, ?_⟩
    generalize hg0 : ((gcdL (zs.take i) : Nat) : Int) = g0
    have g0n : 0 ≤ g0 := by omega
    refine while_by (fun σ H'' => H'' = H' ∧ ∃ p q : Int, σ = [some (.ref a), some (.int g0), some (.int z), some (.int p), some (.int q)] ∧ 0 ≤ p ∧ 0 ≤ q ∧ Int.gcd p q = Int.gcd z g0)
      (fun σ _ => match σ with | [_, _, _, _, some (.int b)] => b.natAbs | _ => 0) ?_ ?_ ?_
    · refine ⟨rfl, _, _, rfl, by rw [abs_eq]; omega, g0n, ?_⟩
      rw [abs_eq]
      rfl
    · rintro σ H'' ⟨rfl, p, q, rfl, hp, hq, hg⟩
      refine ⟨_, rfl, _, _, rfl, rfl, _, rfl, ?_⟩
      refine ite2 (fun h0 => ?_) (fun h0 => ?_)
      · have h0 : q > 0 := of_decide_eq_true h0
        refine ⟨_, rfl, _, rfl, _, rfl, _, _, rfl, rfl, (by omega), _, _, rfl, ⟨rfl, _, _, rfl, hq, fmod_nn (by omega), ?_⟩, ?_⟩
        · rw [gcd_turn hp (by omega)]
          exact hg
        · have h1 := fmod_lt' (a := p) (b := q) (by omega)
          have h2 := fmod_nn (a := p) (b := q) (by omega)
          show (p.fmod q).natAbs < q.natAbs
          omega
      · have h0 : ¬ q > 0 := fun z => h0 (decide_eq_true z)
        have e : q = 0 := by omega
        subst e
        refine ⟨_, rfl, rfl, some (.int z), some (.int p), some (.int 0), ?_⟩
        rw [gcdL_snoc hz1]
        have e2 : p = ((Nat.gcd z.natAbs (gcdL (zs.take i)) : Nat) : Int) := by
          rw [gcd_end hp, hg, ← hg0]
          rfl
        rw [← e2]
        rfl
    · rintro σ H'' Q1 Q2 hq ⟨v, h1, x1, x2, h2, h3, b, h4, h5⟩
      exact ⟨v, h1, x1, x2, h2, h3, b, h4, hq _ _ h5⟩
  · rintro σ H' ⟨rfl, v2, v3, v4, rfl⟩
    rw [List.length_map, List.take_length]
    exact ⟨_, rfl, kk⟩
/-! ### how many choices -/
def manyM (n k : Nat) : Int := (List.range k).foldl (fun (f : Int) (j : Nat) => (f * ((n : Int) - (j : Int))).fdiv ((j : Int) + 1)) 1
theorem many_succ (n k : Nat) : manyM n (k + 1) = (manyM n k * ((n : Int) - (k : Int))).fdiv ((k : Int) + 1) := by
  unfold manyM
  rw [List.range_succ, List.foldl_append]
  rfl
theorem many_eq : ∀ n < 4, ∀ k < 4, manyM n k = ((choicesM n k).length : Int) := by decide +kernel
def spMany : Sp := fun vs H Q _ => ∃ n k : Nat, vs = [.int n, .int k] ∧ n ≤ 1000 ∧ k ≤ 1000 ∧ Q (.int (manyM n k)) H
theorem ok_l_many (D : Df K mg "_law_many" s_l_many) (B : Bn mg) : Has P w K mg base "_law_many" 1 p_l_many spMany := by
  refine has_of (k := 0) D sc_l_many bn_l_many ?_ ?_
  · rintro vs H Q E ⟨n, k, rfl, _⟩
    rfl
  rintro f cdv A outer s0 H vs Q E hr ⟨n, k, rfl, hn, hk, kk⟩
  refine ⟨_, (pss_cons (ps_asg pe_int (pg_name (i := 2) sc_l_many.nd rfl (by first | exact Or.inl rfl | exact Or.inr rfl)))
      (pss_cons (ps_for PassesOwn.never rfl (pi_range1 (by rfl) B.range_ (pa_cons (pv 1) pa_nil)) (pg_name (i := 3) sc_l_many.nd rfl (by first | exact Or.inl rfl | exact Or.inr rfl)) (pss_one (ps_asg (pe_op op_fdivN (pe_op op_mul (pv 2) (pe_op op_sub (pv 0) (pv 3))) (pe_op op_add (pv 3) pe_int)) (pg_name (i := 2) sc_l_many.nd rfl (by first | exact Or.inl rfl | exact Or.inr rfl)))))
      (pss_one (ps_ret (pv 2))))), ?_⟩
  refine ⟨_, rfl, (k : Int), rfl, by omega, by omega, for_range (lo := 0) (n := k) (fun j σ H' => H' = H ∧ ∃ v3 : Option V, σ = [some (.int n), some (.int k), some (.int (manyM n j)), v3]) ?_ ?_ ?_⟩
  · exact ⟨rfl, _, rfl⟩
  · rintro j σ H' hj ⟨rfl, v3, rfl⟩
    refine ⟨_, rfl, _, rfl, _, rfl, _, _, rfl, rfl, _, _, rfl, rfl, .inr ⟨by omega, by omega⟩, ?_⟩
    refine ⟨_, rfl, _, _, rfl, rfl, _, _, rfl, rfl, ⟨by omega, by omega⟩, rfl, some (.int (0 + (j : Int))), ?_⟩
    rw [many_succ, Int.zero_add]
    rfl
  · rintro σ H' ⟨rfl, v3, rfl⟩
    exact ⟨_, rfl, kk⟩
/-! ### signs -/
def spSigned (K : PySem.W.Frag) : Sp := fun vs H Q _ => ∃ (v : V) (ds : List Deed), vs = [v] ∧ Dp K H v (deedsD ds) ∧ ds.length ≤ 1000 ∧ ∀ H', Same H H' → Q (.int (sg (cntD ds))) H'
theorem cnt_snoc {ds : List Deed} {i : Nat} {d : Deed} (h : ds[i]? = some d) : cntD (ds.take (i + 1)) = cntD (ds.take i) + (if notAdd d = true then 1 else 0) := by
  unfold cntD
  rw [List.take_succ, h, List.filter_append, List.length_append]
  cases d <;> rfl
theorem cnt_le (ds : List Deed) (i : Nat) : cntD (ds.take i) ≤ ds.length := by
  unfold cntD
  have h1 := List.length_filter_le notAdd (ds.take i)
  rw [List.length_take] at h1
  omega
theorem deed_word {H : Hp} {x : V} {d : Deed} (h : Dp K H x (deedD d)) : ∃ p xs u, x = .ref p ∧ SqT K H p (.str u :: xs) ∧ decide (V.str u = V.str "add") = !notAdd d := by
  cases d with
  | swap i j =>
    obtain ⟨p, xs, rfl, hs, ha⟩ := dp_tup h
    obtain ⟨y, r, rfl, hy, _⟩ := dpa_cons ha
    cases hy
    exact ⟨p, r, _, rfl, hs, by show decide (V.str "swap" = V.str "add") = false; decide⟩
  | turn i =>
    obtain ⟨p, xs, rfl, hs, ha⟩ := dp_tup h
    obtain ⟨y, r, rfl, hy, _⟩ := dpa_cons ha
    cases hy
    exact ⟨p, r, _, rfl, hs, by show decide (V.str "turn" = V.str "add") = false; decide⟩
  | add i j k =>
    obtain ⟨p, xs, rfl, hs, ha⟩ := dp_tup h
    obtain ⟨y, r, rfl, hy, _⟩ := dpa_cons ha
    cases hy
    exact ⟨p, r, _, rfl, hs, by show decide (V.str "add" = V.str "add") = true; decide⟩
theorem sg_at (n : Nat) : atI [V.int 1, V.int (-1)] (((n : Nat) : Int).fmod 2) = some (.int (sg n)) := by
  rw [Int.fmod_eq_emod_of_nonneg _ (by decide), show (n : Int) % 2 = ((n % 2 : Nat) : Int) by omega]
  refine atI_nat ?_
  unfold sg
  by_cases h : n % 2 = 0
  · rw [if_pos h, h]
    rfl
  · rw [if_neg h, show n % 2 = 1 by omega]
    rfl
theorem ok_l_signed (D : Df K mg "_law_signed" s_l_signed) (B : Bn mg) : Has P w K mg base "_law_signed" 1 p_l_signed (spSigned K) := by
  refine has_of (k := 0) D sc_l_signed bn_l_signed ?_ ?_
  · rintro vs H Q E ⟨v, ds, rfl, _⟩
    rfl
  rintro f cdv A outer s0 H vs Q E hr ⟨v, ds, rfl, hv, hl, kk⟩
  obtain ⟨p, xs, rfl, hs, ha⟩ := dp_tup hv
  have hlen : xs.length = ds.length := by rw [dpa_len _ _ ha, List.length_map]
  refine ⟨_, (pss_one (ps_ret (pe_ix (ix_listK (K := K) (by rfl)) (pe_lst (pa_cons pe_int (pa_cons (pe_un un_neg pe_int) pa_nil))) (pe_op op_modN (pe_callB (call_lenK (K := K) (by rfl)) (by rfl) B.len_ (by decide +kernel) (pa_cons (pe_lc (own := [("_law_deed_here", 1)]) rfl sc_l_signed.nd (pi_tupK (K := K) (by rfl) (pv 0)) (blkOk_by (own := [("_law_deed_here", 1)]) (N := n_l_signed) (sc := defScope s_l_signed) (by decide +kernel)) (fun _ _ _ _ _ => (pg_name (i := 1) sc_l_signed.nd rfl (by first | exact Or.inl rfl | exact Or.inr rfl))) (fun _ _ _ _ _ => (pts_one (pt_cmpR op_ne (pe_ix (ix_tupK (K := K) (by rfl)) (pv 1) pe_int (fun _ _ => rfl)) pe_str (nomark _)))) (fun _ _ _ _ _ => (pv 1))) pa_nil)) pe_int) (fun _ _ => rfl)))), ?_⟩
  refine ⟨_, rfl, by show 2 ≤ sizeLine; decide, fun q nq => ?_⟩
  have eq := Same.new (o := .lst [.int 1, .int (-1)]) nq
  refine ⟨_, rfl, p, rfl, ⟨_, sqt_same eq hs⟩, fun D1 hD1 => ?_⟩
  refine lcGt (K := K) (a := p) (xs := xs) (fun i H2 => Same (upd H q (.lst [.int 1, .int (-1)])) H2 ∧ ∃ ys, H2 D1 = some (.lst ys) ∧ ys.length = cntD (ds.take i)) ?_ ?_ ?_ ?_
  · exact ⟨Same.new hD1, [], upd_same, rfl⟩
  · rintro i H2 _ ⟨e2, _⟩
    exact sqt_same (eq.trans e2) hs
  · rintro i x H2 hx ⟨e2, ys, hD2, hy⟩
    obtain ⟨dd, hd1, hd2⟩ := dpa_get _ _ i x ha hx
    rw [List.getElem?_map] at hd1
    cases hd : ds[i]? with
    | none => rw [hd] at hd1; cases hd1
    | some d =>
      rw [hd] at hd1
      cases hd1
      obtain ⟨px, us, u, rfl, hpx, hword⟩ := deed_word (Dp.same (eq.trans e2) _ _ hd2)
      refine ⟨rfl, ?_⟩
      refine ⟨_, rfl, px, _, 0, .str u, rfl, rfl, hpx, (show atI (V.str u :: us) ((0 : Nat) : Int) = some (.str u) from atI_nat rfl), rfl, _, rfl, ?_⟩
      rw [hword, Bool.not_not]
      refine ite2 (fun h0 => ?_) (fun h0 => ?_)
      · refine ⟨_, rfl, _, hD2, ?_, Gd.Same.put e2 hD1, _, upd_same, ?_⟩
        · have := cnt_le ds i
          exact Nat.lt_of_le_of_lt (show _ ≤ 1000 by omega) (by decide)
        · rw [cnt_snoc hd, if_pos h0, List.length_append, hy]
          rfl
      · refine ⟨e2, ys, hD2, ?_⟩
        rw [cnt_snoc hd, if_neg h0, hy]
        rfl
  · rintro H2 ⟨e2, ys, hD2, hy⟩
    rw [hlen, List.take_length] at hy
    refine ⟨D1, ys, rfl, .inl (SqL.of hD2), _, _, rfl, rfl, (by show (2 : Int) ≠ 0; decide), ?_⟩
    rw [hy]
    exact ⟨q, _, _, _, rfl, rfl, SqL.of (e2 _ _ upd_same), sg_at _, kk _ (eq.trans e2)⟩

end K14

set_option Elab.async false
set_option linter.all false
set_option maxRecDepth 100000
set_option maxHeartbeats 1000000
namespace K14
open PySem PySem.Spec PyProof.Rows L2 Gd
variable {P : Program} {w : World} {K : PySem.W.Frag} {mg : Str → Option Value} {base : Heap}
/-! ### square ones -/
theorem tr4 (a b c d : List Int) : detM (turnR 4 [a, b, c, d]) [0, 1, 2, 3] = detM [a, b, c, d] [0, 1, 2, 3] := by
  have e : turnR 4 [a, b, c, d] = [[a.getD 0 0, b.getD 0 0, c.getD 0 0, d.getD 0 0], [a.getD 1 0, b.getD 1 0, c.getD 1 0, d.getD 1 0], [a.getD 2 0, b.getD 2 0, c.getD 2 0, d.getD 2 0], [a.getD 3 0, b.getD 3 0, c.getD 3 0, d.getD 3 0]] := by
    rw [turnR_eq]
    rfl
  rw [e, d4, d4]
  simp only [d3, d2, List.getD_cons_zero, List.getD_cons_succ]
  grind
theorem tr3 (a b c : List Int) : detM (turnR 3 [a, b, c]) [0, 1, 2] = detM [a, b, c] [0, 1, 2] := by
  have e : turnR 3 [a, b, c] = [[a.getD 0 0, b.getD 0 0, c.getD 0 0], [a.getD 1 0, b.getD 1 0, c.getD 1 0], [a.getD 2 0, b.getD 2 0, c.getD 2 0]] := by
    rw [turnR_eq]
    rfl
  rw [e]
  simp only [d3, d2, List.getD_cons_zero, List.getD_cons_succ]
  grind
theorem tr2 (a b : List Int) : detM (turnR 2 [a, b]) [0, 1] = detM [a, b] [0, 1] := by
  have e : turnR 2 [a, b] = [[a.getD 0 0, b.getD 0 0], [a.getD 1 0, b.getD 1 0]] := by
    rw [turnR_eq]
    rfl
  rw [e]
  simp only [d2, List.getD_cons_zero, List.getD_cons_succ]
  grind
theorem tr1 (a : List Int) : detM (turnR 1 [a]) [0] = detM [a] [0] := by
  have e : turnR 1 [a] = [[a.getD 0 0]] := by
    rw [turnR_eq]
    rfl
  rw [e, d1, d1]
  rfl
theorem det_turnR {n : Nat} {rs : List (List Int)} (h1 : 1 ≤ n) (h4 : n ≤ 4) (hl : rs.length = n) : detM (turnR n rs) (List.range n) = detM rs (List.range n) :=
  match n, rs, h1, h4, hl with
  | 1, [a], _, _, _ => tr1 a
  | 2, [a, b], _, _, _ => tr2 a b
  | 3, [a, b, c], _, _, _ => tr3 a b c
  | 4, [a, b, c, d], _, _, _ => tr4 a b c d
theorem det_mulR {n : Nat} {as bs : List (List Int)} (h1 : 1 ≤ n) (h4 : n ≤ 4) (ha : as.length = n) (hb : bs.length = n) (wa : ∀ r ∈ as, r.length = n) (wb : ∀ r ∈ bs, r.length = n) :
    detM (mulR as n bs) (List.range n) = detM as (List.range n) * detM bs (List.range n) := by
  rw [mulR_eq]
  match n, as, bs, h1, h4, ha, hb with
  | 1, [a], [s], _, _, _, _ =>
    have h := cb11 (w := 1) (t0 := s) (x := 0) (wa a (by simp)) (by decide)
    exact h
  | 2, [a, b], [s, t], _, _, _, _ =>
    have h := cb22 (w := 2) (t0 := s) (t1 := t) (x := 0) (y := 1) (wa a (by simp)) (wa b (by simp)) (by decide) (by decide)
    exact h
  | 3, [a, b, c], [s, t, u], _, _, _, _ =>
    have h := cb33 (w := 3) (t0 := s) (t1 := t) (t2 := u) (x := 0) (y := 1) (z := 2) (wa a (by simp)) (wa b (by simp)) (wa c (by simp)) (by decide) (by decide) (by decide)
    exact h
  | 4, [a, b, c, d], [s, t, u, v], _, _, _, _ =>
    have h := cb44 (w := 4) (wa a (by simp)) (wa b (by simp)) (wa c (by simp)) (wa d (by simp)) (wb s (by simp)) (wb t (by simp)) (wb u (by simp)) (wb v (by simp)) [0, 1, 2, 3]
    exact h
theorem choice_all : ∀ n < 8, choicesM n n = [List.range n] := by decide +kernel
theorem choice_ones : ∀ n < 8, choicesM n 1 = (List.range n).map fun i => [i] := by decide +kernel
theorem pick_all (rs : List (List Int)) : pickR rs (List.range rs.length) = rs := by
  unfold pickR
  exact rows_id rs
theorem corners_all {n : Nat} {rs : List (List Int)} (hn : n < 8) (hl : rs.length = n) : cornersM n rs n = [detM rs (List.range n)] := by
  unfold cornersM
  rw [if_neg (by omega), hl, choice_all n hn]
  simp only [List.flatMap_cons, List.flatMap_nil, List.map_cons, List.map_nil, List.append_nil]
  have := pick_all rs
  rw [hl] at this
  rw [this]
theorem corners_one {n w : Nat} {rs : List (List Int)} (hn : n < 8) (hw : w < 8) (h1 : 1 ≤ n) (h2 : 1 ≤ w) (hl : rs.length = n) (hr : ∀ r ∈ rs, r.length = w) : cornersM w rs 1 = rs.flatten := by
  unfold cornersM
  rw [if_neg (by omega), hl, choice_ones n hn, choice_ones w hw, List.flatMap_map]
  have e : ∀ i ∈ List.range n, (List.map (detM (pickR rs [i])) ((List.range w).map fun j => [j])) = rs.getD i [] := by
    intro i hi
    have hi := List.mem_range.mp hi
    rw [List.map_map]
    have hlen := hr _ (Gd.getD_mem (d := []) (show i < rs.length by omega))
    have := row_id (rs.getD i [])
    rw [hlen] at this
    rw [← this]
    refine List.map_congr_left fun j hj => ?_
    show detM [rs.getD i []] [j] = _
    rw [d1]
  rw [List.flatMap_def, List.map_congr_left e]
  have := rows_id rs
  rw [hl] at this
  rw [this]
theorem eqv_ints (zs : List Int) : PyData.eqv (.list (zs.map PyData.int)) (.list (zs.map PyData.int)) = true := by
  have h : ∀ l : List Int, PyData.eqvAll (l.map PyData.int) (l.map PyData.int) = true := by
    intro l
    induction l with
    | nil => simp [PyData.eqvAll]
    | cons a l ih => simp [PyData.eqvAll, PyData.eqv, ih]
  simp [PyData.eqv, h]
theorem okt_wd {m n : Nat} {rs : List (List Int)} (o : OkT m n rs) : ∀ r ∈ rs, r.length = n ∧ Wd r := fun r hr => ⟨(o.2 r hr).1, fun x hx => by
  have := (o.2 r hr).2 x hx
  exact Nat.lt_of_le_of_lt (show x.natAbs ≤ 99 by omega) (Nat.lt_of_lt_of_le (by decide : 99 < 2 ^ 7) (Nat.pow_le_pow_right (by decide) (by decide)))⟩
theorem bs_wdN {b : Nat} {rs : List (List Int)} (h : Bs (b : Int) rs) (hb : b < 2 ^ 200) : ∀ r ∈ rs, Wd r := Bs.wd h (Nat.lt_of_lt_of_le hb (Nat.pow_le_pow_right (by decide) (by decide)))
theorem mul_wide {as bs : List (List Int)} {w : Nat} : ∀ r ∈ mulR as w bs, r.length = w := by
  intro r hr
  rw [mulR_eq] at hr
  obtain ⟨x, _, rfl⟩ := List.mem_map.mp hr
  exact mulRow_len
theorem okt_mul_wd {m n w : Nat} {as bs : List (List Int)} (oa : OkT m n as) (ob : OkT n w bs) (hn : n ≤ 4) : ∀ r ∈ mulR as w bs, r.length = w ∧ Wd r := fun r hr => by
  refine ⟨mul_wide r hr, ?_⟩
  have h := bs_mul (a := 99) (b := 99) (v := n) (w := w) (m := 4) (by decide) (by decide) oa.bs (fun r hr => by rw [(oa.2 r hr).1]; exact hn) ob.bs
  exact bs_wdN (b := 39204) h (by decide) r hr
theorem okt_turn_wd {n : Nat} {as : List (List Int)} (oa : OkT n n as) : ∀ r ∈ turnR n as, r.length = n ∧ Wd r := fun r hr => by
  have l : r.length = n := by
    rw [turnR_eq] at hr
    obtain ⟨k, _, rfl⟩ := List.mem_map.mp hr
    rw [List.length_map, oa.1]
  exact ⟨l, bs_wdN (b := 99) (bs_turn (by decide) oa.bs) (by decide) r hr⟩

theorem none_of {H H' : Hp} {p : Addr} (e : Same H H') (n : H' p = none) : H p = none := by
  cases h : H p with
  | none => rfl
  | some o => rw [e _ _ h] at n; cases n
def spSquare (K : PySem.W.Frag) : Sp := fun vs H Q _ => ∃ (v u x : V) (n : Nat) (as bs : List (List Int)) (ds : List Deed), vs = [v, u, x] ∧ Dp K H v (tabD n as) ∧ Dp K H u (tabD n bs) ∧ Dp K H x (deedsD ds) ∧
  OkT n n as ∧ OkT n n bs ∧ (∀ d ∈ ds, OkD n 99 d) ∧ ds.length ≤ 6 ∧ 1 ≤ n ∧ n ≤ 4 ∧ ∀ H', Same H H' → Q (.bl true) H'
theorem pow100 {n : Nat} (h : n ≤ 6) : 99 * (99 + 1) ^ n ≤ 99 * 100 ^ 6 := Nat.mul_le_mul_left _ (Nat.pow_le_pow_right (by decide) h)
theorem okt_done_wd {m n : Nat} {as : List (List Int)} {ds : List Deed} (oa : OkT m n as) (hd : ∀ d ∈ ds, OkD m 99 d) (hl : ds.length ≤ 6) : (allD as ds).length = m ∧ ∀ r ∈ allD as ds, r.length = n ∧ Wd r := by
  obtain ⟨h1, h2, h3⟩ := allD_facts (b := 99) (c := 99) oa.1 (fun r hr => (oa.2 r hr).1) oa.bs (by decide) ds hd
  refine ⟨h1, fun r hr => ⟨h2 r hr, bs_wdN h3 (Nat.lt_of_le_of_lt (pow100 hl) (by decide)) r hr⟩⟩
theorem big4000 {n : Nat} (h : n < 2 ^ 200) : n < 2 ^ 4000 := Nat.lt_of_lt_of_le h (Nat.pow_le_pow_right (by decide) (by decide))
theorem ok_l_square_right (D : Df K mg "_law_square_right" s_l_square_right) (B : Bn mg) (h_corner_of : Has P w K mg base "corner_of" 4 p_corner_of (spCornerOf K))
    (h_corners_of : Has P w K mg base "corners_of" 4 p_corners_of (spCornersOf K)) (h_times : Has P w K mg base "times" 2 p_times (spTimes K)) (h_turned_over : Has P w K mg base "turned_over" 1 p_turned_over (spTurn K))
    (h_done : Has P w K mg base "done" 6 p_done (spDone K)) : Has P w K mg base "_law_square_right" 7 p_l_square_right (spSquare K) := by
  refine has_of (k := 6) D sc_l_square_right bn_l_square_right ?_ ?_
  · rintro vs H Q E ⟨v, u, x, n, as, bs, ds, rfl, _⟩
    rfl
  rintro f cdv A outer s0 H vs Q E hr ⟨v, u, x, n, as, bs, ds, rfl, hv, hu, hx, oa, ob, hd, hl, n1, n4, kk⟩
  have la : as.length = n := oa.1
  have lb : bs.length = n := ob.1
  have wa := okt_wd oa
  have wb := okt_wd ob
  have wla : ∀ r ∈ as, r.length = n := fun r hr => (wa r hr).1
  have wlb : ∀ r ∈ bs, r.length = n := fun r hr => (wb r hr).1
  have ta : Tb n as := ⟨by omega, by omega, wla⟩
  have tb : Tb n bs := ⟨by omega, by omega, wlb⟩
  obtain ⟨ld, wd⟩ := okt_done_wd oa hd hl
  have bd : ∀ rs : List (List Int), (∀ r ∈ rs, r.length = n ∧ Wd r) → rs.length = n → (detM rs (List.range n)).natAbs < 2 ^ 40000 := fun rs h1 h2 => det_wd7 (fun r hr => (h1 r hr).2) (by omega) (by rw [List.length_range]; omega)
  refine ⟨_, (pss_cons (ps_asg (pe_has (h_corner_of) (hr.mono (by first | decide | omega)) (by rfl) (pa_cons (pv 0) pa_nil)) (pg_name (i := 3) sc_l_square_right.nd rfl (by first | exact Or.inl rfl | exact Or.inr rfl)))
      (Evl.pss_cut (ps_if (PW.pt (pw_or (pt_cmpR op_ne (pe_has (h_corner_of) (hr.mono (by first | decide | omega)) (by rfl) (pa_cons (pe_has (h_times) (hr.mono (by first | decide | omega)) (by rfl) (pa_cons (pv 0) (pa_cons (pv 1) pa_nil))) pa_nil)) (pe_op op_mulW (pv 3) (pe_has (h_corner_of) (hr.mono (by first | decide | omega)) (by rfl) (pa_cons (pv 1) pa_nil))) (nomark _)) (pw_or1 (pt_cmpR op_ne (pe_has (h_corner_of) (hr.mono (by first | decide | omega)) (by rfl) (pa_cons (pe_has (h_turned_over) (hr.mono (by first | decide | omega)) (by rfl) (pa_cons (pv 0) pa_nil)) pa_nil)) (pv 3) (nomark _))))) (pss_one (ps_ret pe_bl)) pss_nil)
      (pss_cons (ps_asg (pe_op op_modN (pe_callB (call_lenK (K := K) (by rfl)) (by rfl) B.len_ (by decide +kernel) (pa_cons (pe_lc (own := [("_law_deed_here", 7)]) rfl sc_l_square_right.nd (pi_tupK (K := K) (by rfl) (pv 2)) (blkOk_by (own := [("_law_deed_here", 7)]) (N := n_l_square_right) (sc := defScope s_l_square_right) (by decide +kernel)) (fun _ _ _ _ _ => (pg_name (i := 7) sc_l_square_right.nd rfl (by first | exact Or.inl rfl | exact Or.inr rfl))) (fun _ _ _ _ _ => (pts_one (pt_cmpR op_ne (pe_ix (ix_tupK (K := K) (by rfl)) (pv 7) pe_int (fun _ _ => rfl)) pe_str (nomark _)))) (fun _ _ _ _ _ => (pv 7))) pa_nil)) pe_int) (pg_name (i := 4) sc_l_square_right.nd rfl (by first | exact Or.inl rfl | exact Or.inr rfl)))
      (Evl.pss_cut (ps_if (PW.pt (pw_or (pt_cmpR op_ne (pe_has (h_corner_of) (hr.mono (by first | decide | omega)) (by rfl) (pa_cons (pe_has (h_done) (hr.mono (by first | decide | omega)) (by rfl) (pa_cons (pv 0) (pa_cons (pv 2) pa_nil))) pa_nil)) (pe_op op_mul (pv 3) (pe_ix (ix_listK (K := K) (by rfl)) (pe_lst (pa_cons pe_int (pa_cons (pe_un un_neg pe_int) pa_nil))) (pv 4) (fun _ _ => rfl))) (nomark _)) (pw_or1 (pt_cmpR (op_neK (K := K) (by rfl) hr.units) (pe_has (h_corners_of) (hr.mono (by first | decide | omega)) (by rfl) (pa_cons (pv 0) (pa_cons (pe_callB (call_lenK (K := K) (by rfl)) (by rfl) B.len_ (by decide +kernel) (pa_cons (pe_ix (ix_tupK (K := K) (by rfl)) (pv 0) pe_int (fun _ _ => rfl)) pa_nil)) pa_nil))) (pe_lst (pa_cons (pv 3) pa_nil)) (nomark _))))) (pss_one (ps_ret pe_bl)) pss_nil)
      (pss_cons (ps_asg (pe_lst pa_nil) (pg_name (i := 5) sc_l_square_right.nd rfl (by first | exact Or.inl rfl | exact Or.inr rfl)))
      (pss_cons (ps_for PassesOwn.never rfl (pi_tupK (K := K) (by rfl) (pe_ix (ix_tupK (K := K) (by rfl)) (pv 0) pe_int (fun _ _ => rfl))) (pg_name (i := 6) sc_l_square_right.nd rfl (by first | exact Or.inl rfl | exact Or.inr rfl)) (pss_one (ps_expr (pe_bm PySem.F.plainAttrs_list PySem.F.slot_list_extend PySem.F.type_list_extend (mt_extTK (K := K) (by rfl)) (pv 5) (pa_cons (pv 6) pa_nil)))))
      (pss_one (ps_ret (pe_cmpR (op_eqK (K := K) (by rfl) hr.units) (pe_has (h_corners_of) (hr.mono (by first | decide | omega)) (by rfl) (pa_cons (pv 0) (pa_cons pe_int pa_nil))) (pv 5) (nomark _)))))))))), ?_⟩
  refine ⟨_, rfl, v, n, as, rfl, hv, wa, by omega, la, fun H1 e1 => ?_⟩
  refine ⟨fun σ' H' => Same H H' ∧ σ' = [some v, some u, some x, some (.int (detM as (List.range n))), none, none, none, none], ?_, ?_⟩
  · refine ⟨_, rfl, _, rfl, v, u, n, as, n, bs, rfl, Dp.same e1 _ _ hv, Dp.same e1 _ _ hu, ta, tb, lb.symm, fun r hr => (wa r hr).2, fun r hr => (wb r hr).2, fun y2 H2 e2 hy2 => ?_⟩
    refine ⟨y2, n, _, rfl, hy2, okt_mul_wd oa ob (by omega), by omega, by rw [mulR_len, la], fun H3 e3 => ?_⟩
    rw [det_mulR n1 n4 la lb wla wlb]
    have e13 := (e1.trans e2).trans e3
    refine ⟨_, rfl, _, rfl, u, n, bs, rfl, Dp.same e13 _ _ hu, wb, by omega, lb, fun H4 e4 => ?_⟩
    refine ⟨_, _, rfl, rfl, wide_mul (bd as wa la) (bd bs wb lb) (by decide) (by decide) (by decide), rfl, _, rfl, ?_⟩
    refine iteNS rfl ?_
    have e14 := e13.trans e4
    refine ⟨_, rfl, v, n, as, rfl, Dp.same e14 _ _ hv, ta, fun y5 H5 e5 hy5 => ?_⟩
    rw [la] at hy5
    refine ⟨y5, n, _, rfl, hy5, okt_turn_wd oa, by omega, turn_len, fun H6 e6 => ?_⟩
    rw [det_turnR n1 n4 la]
    refine ⟨_, rfl, rfl, _, rfl, ?_⟩
    exact iteNS rfl ⟨(e14.trans e5).trans e6, rfl⟩
  rintro σ' H1 ⟨e1, rfl⟩
  obtain ⟨px, xs, rfl, hsx, hax⟩ := dp_tup hx
  have hlx : xs.length = ds.length := by rw [dpa_len _ _ hax, List.length_map]
  refine ⟨_, rfl, px, rfl, ⟨_, sqt_same e1 hsx⟩, fun D1 hD1 => ?_⟩
  refine lcGt (K := K) (a := px) (xs := xs) (fun i H2 => Same H1 H2 ∧ ∃ ys, H2 D1 = some (.lst ys) ∧ ys.length = cntD (ds.take i)) ?_ ?_ ?_ ?_
  · exact ⟨Same.new hD1, [], upd_same, rfl⟩
  · rintro i H2 _ ⟨e2, _⟩
    exact sqt_same (e1.trans e2) hsx
  · rintro i y H2 hy ⟨e2, ys, hD2, hyl⟩
    obtain ⟨dd, hd1, hd2⟩ := dpa_get _ _ i y hax hy
    rw [List.getElem?_map] at hd1
    cases hdi : ds[i]? with
    | none => rw [hdi] at hd1; cases hd1
    | some d =>
      rw [hdi] at hd1
      cases hd1
      obtain ⟨pd, us, t, rfl, hpd, hword⟩ := deed_word (Dp.same (e1.trans e2) _ _ hd2)
      refine ⟨rfl, ?_⟩
      refine ⟨_, rfl, pd, _, 0, .str t, rfl, rfl, hpd, (show atI (V.str t :: us) ((0 : Nat) : Int) = some (.str t) from atI_nat rfl), rfl, _, rfl, ?_⟩
      rw [hword, Bool.not_not]
      refine ite2 (fun h0 => ?_) (fun h0 => ?_)
      · refine ⟨_, rfl, _, hD2, ?_, Gd.Same.put e2 hD1, _, upd_same, ?_⟩
        · have := cnt_le ds i
          exact Nat.lt_of_le_of_lt (show _ ≤ 1000 by omega) (by decide)
        · rw [cnt_snoc hdi, if_pos h0, List.length_append, hyl]
          rfl
      · refine ⟨e2, ys, hD2, ?_⟩
        rw [cnt_snoc hdi, if_neg h0, hyl]
        rfl
  rintro H2 ⟨e2, ys, hD2, hyl⟩
  rw [hlx, List.take_length] at hyl
  refine ⟨D1, ys, rfl, .inl (SqL.of hD2), _, _, rfl, rfl, (by show (2 : Int) ≠ 0; decide), ?_⟩
  rw [hyl]
  have e12 := e1.trans e2
  refine ⟨fun σ' H' => Same H H' ∧ ∃ v4 v5 v6 v7 : Option V, σ' = [some v, some u, some (.ref px), some (.int (detM as (List.range n))), v4, v5, v6, v7], ?_, ?_⟩
  · refine ⟨_, rfl, _, rfl, v, .ref px, n, 99, 99, as, ds, rfl, Dp.same e12 _ _ hv, Dp.same e12 _ _ hx, wla, by omega, by omega, oa.bs, by decide, by rw [la]; exact hd, big4000 (Nat.lt_of_le_of_lt (pow100 hl) (by decide)), big4000 (by decide), fun y3 H3 e3 hy3 => ?_⟩
    refine ⟨y3, n, _, rfl, hy3, wd, by omega, ld, fun H4 e4 => ?_⟩
    rw [det_allD (b := 99) (List.range n) ds as la wla hd]
    refine ⟨_, rfl, _, rfl, by show 2 ≤ sizeLine; decide, fun q nq => ?_⟩
    have eq := Same.new (o := .lst [.int 1, .int (-1)]) nq
    have hsg : sg (cntD ds) = 1 ∨ sg (cntD ds) = -1 := by
      unfold sg
      split
      · exact .inl rfl
      · exact .inr rfl
    refine ⟨_, rfl, q, _, _, _, rfl, rfl, SqL.of upd_same, sg_at _, _, _, rfl, rfl, .inr ?_, ?_⟩
    · rcases hsg with h | h <;> rw [h] <;> exact ⟨by decide, by decide⟩
    rw [Int.mul_comm (sg (cntD ds))]
    refine ⟨rfl, _, rfl, ?_⟩
    refine iteNS rfl ?_
    have e14 := ((e12.trans e3).trans e4).trans eq
    obtain ⟨pt, ur, rfl, htab, hrows⟩ := dp_tab hv
    obtain ⟨pr, rs, rfl, hrs, hall, hlen⟩ := dp_rows hrows
    have hlen : rs.length = as.length := hlen
    refine ⟨_, rfl, _, rfl, pt, _, 1, .ref pr, rfl, rfl, sqt_same e14 htab, rfl, pr, rs, rfl, .inr (sqt_same e14 hrs), .ref pt, n, n, as, ?_, Dp.same e14 _ _ hv, wa, by omega, by omega, fun l5 H5 e5 n5 h5 => ?_⟩
    · rw [hlen, la]
      rfl
    rw [corners_all (by omega) la] at h5
    refine ⟨_, rfl, by show 1 ≤ sizeLine; decide, fun p6 np6 => ?_⟩
    have e6 := Same.new (o := .lst [.int (detM as (List.range n))]) np6
    refine ⟨.list ([detM as (List.range n)].map PyData.int), .list ([detM as (List.range n)].map PyData.int), .lst (SqL.of (e6 _ _ h5)) (dp_ints _), .lst (SqL.of upd_same) (.cons (.int _) .nil), ints_shaped _, ints_shaped _, ?_⟩
    rw [eqv_ints]
    exact ⟨_, rfl, iteF ⟨(e14.trans e5).trans e6, _, _, _, _, rfl⟩⟩
  rintro σ' H3 ⟨e3, v4, v5, v6, v7, rfl⟩
  obtain ⟨pt, ur, rfl, htab, hrows⟩ := dp_tab hv
  obtain ⟨pr, rs, rfl, hrs, hall, hlen⟩ := dp_rows hrows
  have hlen : rs.length = as.length := hlen
  refine ⟨Nat.zero_le _, fun l nl => ?_⟩
  have el := Same.new (o := .lst []) nl
  have nl0 := none_of e3 nl
  refine ⟨_, rfl, pt, _, 1, .ref pr, rfl, rfl, sqt_same (e3.trans el) htab, rfl, pr, rfl, ⟨_, sqt_same (e3.trans el) hrs⟩, ?_⟩
  refine for_tup (K := K) (xs := rs) (fun i σ H' => Same H H' ∧ ∃ v4 v6 v7 : Option V, σ = [some (.ref pt), some u, some (.ref px), some (.int (detM as (List.range n))), v4, some (.ref l), v6, v7] ∧ H' l = some (.lst (((as.take i).flatten).map V.int))) ?_ ?_ ?_ ?_
  · exact ⟨e3.trans el, _, _, _, rfl, upd_same⟩
  · rintro i σ H' _ ⟨e, _⟩
    exact sqt_same e hrs
  · rintro i y σ H' hy ⟨e, v4, v6, v7, rfl, hl'⟩
    obtain ⟨dd, hd1, hd2⟩ := dpa_get _ _ i y hall hy
    rw [List.getElem?_map] at hd1
    cases hri : as[i]? with
    | none => rw [hri] at hd1; cases hd1
    | some r =>
      rw [hri] at hd1
      cases hd1
      obtain ⟨py, rfl, hpy⟩ := dp_row hd2
      have hrl := wla r (List.mem_of_getElem? hri)
      have hi : i < as.length := (List.getElem?_eq_some_iff.mp hri).1
      have lf : ((as.take i).flatten).length ≤ 4 * 4 := by
        have key : ∀ l : List (List Int), (∀ r ∈ l, r.length = n) → l.flatten.length = l.length * n := by
          intro l h
          induction l with
          | nil => simp
          | cons a l ih =>
            rw [List.flatten_cons, List.length_append, ih fun r hr => h r (List.mem_cons_of_mem _ hr), h a (List.mem_cons_self ..), List.length_cons, Nat.add_mul]
            omega
        rw [key _ fun r hr => wla r (List.mem_of_mem_take hr), List.length_take]
        exact Nat.mul_le_mul (by omega) n4
      refine ⟨_, rfl, .inl ⟨rfl, _, SqL.of hl'⟩, ?_⟩
      refine ⟨_, rfl, l, py, _, _, rfl, rfl, hl', sqt_same e hpy, ?_, ?_⟩
      · rw [List.length_map, List.length_map]
        exact Nat.le_trans (show _ ≤ 20 by omega) (by decide)
      · refine ⟨Gd.Same.put e nl0, _, _, _, rfl, ?_⟩
        rw [upd_same, List.take_succ, hri, List.flatten_append, List.map_append]
        simp
  · rintro σ H' ⟨e, v4, v6, v7, rfl, hl'⟩
    rw [hlen, List.take_length] at hl'
    refine ⟨_, rfl, .ref pt, n, 1, as, rfl, Dp.same e _ _ hv, wa, by omega, by omega, fun l5 H5 e5 n5 h5 => ?_⟩
    rw [corners_one (n := n) (by omega) (by omega) n1 n1 la wla] at h5
    refine ⟨_, rfl, ?_⟩
    refine ⟨.list (as.flatten.map PyData.int), .list (as.flatten.map PyData.int), .lst (SqL.of h5) (dp_ints _), .lst (SqL.of (e5 _ _ hl')) (dp_ints _), ints_shaped _, ints_shaped _, ?_⟩
    rw [eqv_ints]
    exact kk _ (e.trans e5)

end K14

set_option Elab.async false
set_option linter.all false
set_option maxRecDepth 100000
set_option maxHeartbeats 1000000
namespace K14
open PySem PySem.Spec PyProof.Rows L2 Gd
variable {P : Program} {w : World} {K : PySem.W.Frag} {mg : Str → Option Value} {base : Heap}
/-! ### sums over the middle -/
theorem choice_no : ∀ n < 5, ∀ k < 9, n < k → choicesM n k = [] := by decide +kernel
def flatC (wd : Nat) (rs : List (List Int)) (k : Nat) : List Int := (choicesM rs.length k).flatMap fun c => (choicesM wd k).map (detM (pickR rs c))
theorem corners_flat {wd k : Nat} {rs : List (List Int)} (hr : rs.length ≤ 4) (hw : wd ≤ 4) (hk : k ≤ 8) : cornersM wd rs k = flatC wd rs k := by
  unfold cornersM flatC
  by_cases h1 : k > rs.length
  · rw [if_pos (.inl h1), choice_no _ (by omega) k (by omega) h1]
    rfl
  by_cases h2 : k > wd
  · rw [if_pos (.inr h2), choice_no wd (by omega) k (by omega) h2]
    simp
  rw [if_neg (by omega)]
theorem flat_len {α β : Type} {f : α → β → Int} {ms : List β} : ∀ ls : List α, (ls.flatMap fun c => ms.map (f c)).length = ls.length * ms.length
  | [] => by simp
  | l :: ls => by
    rw [List.flatMap_cons, List.length_append, flat_len ls, List.length_map, List.length_cons, Nat.add_mul]
    omega
theorem flat_at {α β : Type} {f : α → β → Int} {ms : List β} {da : α} {db : β} : ∀ (ls : List α) (a q : Nat), a < ls.length → q < ms.length → (ls.flatMap fun c => ms.map (f c)).getD (a * ms.length + q) 0 = f (ls.getD a da) (ms.getD q db)
  | [], a, q, h, _ => by simp at h
  | l :: ls, 0, q, _, hq => by
    rw [List.flatMap_cons, Nat.zero_mul, Nat.zero_add, List.getD_eq_getElem?_getD, List.getElem?_append_left (by rw [List.length_map]; exact hq), List.getElem?_map, List.getElem?_eq_getElem hq]
    have e : ms.getD q db = ms[q] := by
      rw [List.getD_eq_getElem?_getD, List.getElem?_eq_getElem hq]
      rfl
    rw [e]
    rfl
  | l :: ls, a + 1, q, h, hq => by
    have ih := flat_at (f := f) (ms := ms) (da := da) (db := db) ls a q (by simpa using h) hq
    rw [List.flatMap_cons, List.getD_eq_getElem?_getD, List.getElem?_append_right (by rw [List.length_map, Nat.add_mul]; omega), List.length_map, show (a + 1) * ms.length + q - ms.length = a * ms.length + q by rw [Nat.add_mul]; omega, ← List.getD_eq_getElem?_getD, ih]
    rfl
def gSum (left right : List Int) (mm cw a b : Nat) : Int := ((List.range mm).map fun q => left.getD (a * mm + q) 0 * right.getD (q * cw + b) 0).sum
def gAll (left right : List Int) (cm mm cw : Nat) : List Int := (List.range cm).flatMap fun a => (List.range cw).map (gSum left right mm cw a)
theorem fm_congr {α : Type} {l : List α} {f g : α → List Int} (h : ∀ a ∈ l, f a = g a) : l.flatMap f = l.flatMap g := by
  rw [List.flatMap_def, List.flatMap_def, List.map_congr_left h]
theorem flat_idx {wd k : Nat} {rs : List (List Int)} : flatC wd rs k = (List.range (choicesM rs.length k).length).flatMap fun a => (List.range (choicesM wd k).length).map fun b => detM (pickR rs ((choicesM rs.length k).getD a [])) ((choicesM wd k).getD b []) := by
  unfold flatC
  rw [List.flatMap_def, List.flatMap_def, ← Gd.range_getD (choicesM rs.length k) []]
  congr 1
  refine List.map_congr_left fun a _ => ?_
  exact (Gd.range_getD (choicesM wd k) [] _).symm
theorem sums_eq {m mid wd k : Nat} {as bs : List (List Int)} (oa : OkT m mid as) (ob : OkT mid wd bs) (hm : m ≤ 3) (hmid : mid ≤ 3) (hmid1 : 1 ≤ mid) (hwd : wd ≤ 3) (hk : k ≤ 3) (hk1 : 1 ≤ k) :
    gAll (cornersM mid as k) (cornersM wd bs k) (choicesM m k).length (choicesM mid k).length (choicesM wd k).length = cornersM wd (mulR as wd bs) k := by
  have la : as.length = m := oa.1
  have lb : bs.length = mid := ob.1
  rw [corners_flat (by omega) (by omega) (by omega), corners_flat (by omega) (by omega) (by omega), corners_flat (by rw [mulR_len]; omega) (by omega) (by omega)]
  rw [flat_idx (rs := mulR as wd bs), mulR_len, la]
  unfold gAll
  refine fm_congr fun a ha => List.map_congr_left fun b hb => ?_
  have ha := List.mem_range.mp ha
  have hb := List.mem_range.mp hb
  unfold flatC
  rw [la, lb]
  obtain ⟨c1, c2⟩ := choices_mem (Gd.getD_mem (d := []) ha)
  obtain ⟨e1, e2⟩ := choices_mem (Gd.getD_mem (d := []) hb)
  rw [pick_mul (by rw [la]; exact c2), cbG (mid := mid) (k := k) hmid hmid1 hk hk1 (by rw [pick_len, c1]) lb ?_ e1 e2]
  · unfold gSum
    rw [← Gd.range_getD (choicesM mid k) []]
    congr 1
    refine List.map_congr_left fun q hq => ?_
    have hq := List.mem_range.mp hq
    rw [flat_at (f := fun c => detM (pickR as c)) (da := []) (db := []) _ a q ha hq, flat_at (f := fun c => detM (pickR bs c)) (da := []) (db := []) _ q b hq hb]
  · intro r hr
    obtain ⟨i, hi, rfl⟩ := List.mem_map.mp hr
    exact (oa.2 _ (Gd.getD_mem (d := []) (by rw [la]; exact c2 i hi))).1
def spSums (K : PySem.W.Frag) : Sp := fun vs H Q _ => ∃ (v u : V) (m mid wd k : Nat) (as bs : List (List Int)), vs = [v, u, .int k] ∧ Dp K H v (tabD mid as) ∧ Dp K H u (tabD wd bs) ∧ OkT m mid as ∧ OkT mid wd bs ∧
  m ≤ 3 ∧ mid ≤ 3 ∧ 1 ≤ mid ∧ wd ≤ 3 ∧ k ≤ 3 ∧ 1 ≤ k ∧ ∀ (l : Addr) (H' : Hp), Same H H' → H' l = some (.lst ((cornersM wd (mulR as wd bs) k).map V.int)) → Q (.ref l) H'
theorem choice_cnt : ∀ n < 5, ∀ k < 9, (choicesM n k).length ≤ 6 := by decide +kernel
theorem ok_l_sums (D : Df K mg "_law_sums" s_l_sums) (B : Bn mg) (h_corners_of : Has P w K mg base "corners_of" 4 p_corners_of (spCornersOf K)) (h_l_many : Has P w K mg base "_law_many" 1 p_l_many spMany) :
    Has P w K mg base "_law_sums" 5 p_l_sums (spSums K) := by
  refine has_of (k := 4) D sc_l_sums bn_l_sums ?_ ?_
  · rintro vs H Q E ⟨v, u, m, mid, wd, k, as, bs, rfl, _⟩
    rfl
  rintro f cdv A outer s0 H vs Q E hr ⟨v, u, m, mid, wd, k, as, bs, rfl, hv, hu, oa, ob, hm, hmid, hmid1, hwd, hk, hk1, kk⟩
  have la : as.length = m := oa.1
  have lb : bs.length = mid := ob.1
  have wa := okt_wd oa
  have wb := okt_wd ob
  obtain ⟨pt, ur, rfl, htab, hrows⟩ := dp_tab hv
  obtain ⟨pr, rs, rfl, hrs, hall, hlen⟩ := dp_rows hrows
  have hlen : rs.length = as.length := hlen
  obtain ⟨pu, uu, rfl, htabu, hrowsu⟩ := dp_tab hu
  have cm := choice_cnt m (by omega) k (by omega)
  have cmid := choice_cnt mid (by omega) k (by omega)
  have cwd := choice_cnt wd (by omega) k (by omega)
  refine ⟨_, (pss_cons (ps_asg (pe_tup (pa_cons (pe_has (h_corners_of) (hr.mono (by first | decide | omega)) (by rfl) (pa_cons (pv 0) (pa_cons (pv 2) pa_nil))) (pa_cons (pe_has (h_corners_of) (hr.mono (by first | decide | omega)) (by rfl) (pa_cons (pv 1) (pa_cons (pv 2) pa_nil))) pa_nil))) (pg_tupK (K := K) (n := 2) (by rfl) (by rfl) (pgs_cons (pg_name (i := 3) sc_l_sums.nd rfl (by first | exact Or.inl rfl | exact Or.inr rfl)) (pgs_cons (pg_name (i := 4) sc_l_sums.nd rfl (by first | exact Or.inl rfl | exact Or.inr rfl)) pgs_nil))))
      (pss_cons (ps_asg (pe_tup (pa_cons (pe_has (h_l_many) (hr.mono (by first | decide | omega)) (by rfl) (pa_cons (pe_callB (call_lenK (K := K) (by rfl)) (by rfl) B.len_ (by decide +kernel) (pa_cons (pe_ix (ix_tupK (K := K) (by rfl)) (pv 0) pe_int (fun _ _ => rfl)) pa_nil)) (pa_cons (pv 2) pa_nil))) (pa_cons (pe_has (h_l_many) (hr.mono (by first | decide | omega)) (by rfl) (pa_cons (pe_ix (ix_tupK (K := K) (by rfl)) (pv 0) pe_int (fun _ _ => rfl)) (pa_cons (pv 2) pa_nil))) (pa_cons (pe_has (h_l_many) (hr.mono (by first | decide | omega)) (by rfl) (pa_cons (pe_ix (ix_tupK (K := K) (by rfl)) (pv 1) pe_int (fun _ _ => rfl)) (pa_cons (pv 2) pa_nil))) pa_nil)))) (pg_tupK (K := K) (n := 3) (by rfl) (by rfl) (pgs_cons (pg_name (i := 5) sc_l_sums.nd rfl (by first | exact Or.inl rfl | exact Or.inr rfl)) (pgs_cons (pg_name (i := 6) sc_l_sums.nd rfl (by first | exact Or.inl rfl | exact Or.inr rfl)) (pgs_cons (pg_name (i := 7) sc_l_sums.nd rfl (by first | exact Or.inl rfl | exact Or.inr rfl)) pgs_nil)))))
      (Evl.pss_cut (ps_if (PW.pt (pw_or (pt_cmpR op_ne (pe_callB (call_lenK (K := K) (by rfl)) (by rfl) B.len_ (by decide +kernel) (pa_cons (pv 3) pa_nil)) (pe_op op_mul (pv 5) (pv 6)) (nomark _)) (pw_or1 (pt_cmpR op_ne (pe_callB (call_lenK (K := K) (by rfl)) (by rfl) B.len_ (by decide +kernel) (pa_cons (pv 4) pa_nil)) (pe_op op_mul (pv 6) (pv 7)) (nomark _))))) (pss_one (ps_ret pe_non)) pss_nil)
      (pss_cons (ps_asg (pe_lst pa_nil) (pg_name (i := 8) sc_l_sums.nd rfl (by first | exact Or.inl rfl | exact Or.inr rfl)))
      (pss_cons (ps_for PassesOwn.never rfl (pi_range1 (by rfl) B.range_ (pa_cons (pv 5) pa_nil)) (pg_name (i := 9) sc_l_sums.nd rfl (by first | exact Or.inl rfl | exact Or.inr rfl)) (pss_one (ps_for PassesOwn.never rfl (pi_range1 (by rfl) B.range_ (pa_cons (pv 7) pa_nil)) (pg_name (i := 10) sc_l_sums.nd rfl (by first | exact Or.inl rfl | exact Or.inr rfl)) (pss_one (ps_expr (pe_bm PySem.F.plainAttrs_list PySem.F.slot_list_append PySem.F.type_list_append mt_append (pv 8) (pa_cons (pe_callB (call_sumK (K := K) (by rfl) (by rfl)) (by rfl) B.sum_ (by decide +kernel) (pa_cons (pe_lc (own := [("_law_m", 11)]) rfl sc_l_sums.nd (pi_range1 (by rfl) B.range_ (pa_cons (pv 6) pa_nil)) (blkOk_by (own := [("_law_m", 11)]) (N := n_l_sums) (sc := defScope s_l_sums) (by decide +kernel)) (fun _ _ _ _ _ => (pg_name (i := 11) sc_l_sums.nd rfl (by first | exact Or.inl rfl | exact Or.inr rfl))) (fun _ _ _ _ _ => pts_nil) (fun _ _ _ _ _ => (pe_op op_mulW (pe_ix (ix_listK (K := K) (by rfl)) (pv 3) (pe_op op_add (pe_op op_mul (pv 9) (pv 6)) (pv 11)) (fun _ _ => rfl)) (pe_ix (ix_listK (K := K) (by rfl)) (pv 4) (pe_op op_add (pe_op op_mul (pv 11) (pv 7)) (pv 10)) (fun _ _ => rfl))))) pa_nil)) pa_nil)))))))
      (pss_one (ps_ret (pv 8)))))))), ?_⟩
  refine ⟨_, rfl, _, rfl, .ref pt, mid, k, as, rfl, hv, wa, by omega, by omega, fun l1 H1 e1 n1 h1 => ?_⟩
  refine ⟨_, rfl, _, rfl, .ref pu, wd, k, bs, rfl, Dp.same e1 _ _ hu, wb, by omega, by omega, fun l2 H2 e2 n2 h2 => ?_⟩
  refine ⟨by show 2 ≤ sizeLine; decide, fun p3 np3 => ?_⟩
  have e3 := Same.new (o := .tup [.ref l1, .ref l2]) np3
  refine ⟨p3, _, rfl, SqT.of upd_same, rfl, _, _, rfl, _, _, rfl, rfl, ?_⟩
  have e03 := (e1.trans e2).trans e3
  have t3 := sqt_same e03 htab
  have m1 := many_eq m (by omega) k (by omega)
  have m2 := many_eq mid (by omega) k (by omega)
  have m3 := many_eq wd (by omega) k (by omega)
  refine ⟨_, rfl, pt, _, 1, .ref pr, rfl, rfl, t3, rfl, pr, rs, rfl, .inr (sqt_same e03 hrs), _, rfl, m, k, by rw [hlen, la]; rfl, by omega, by omega, ?_⟩
  refine ⟨_, rfl, pt, _, 0, .int mid, rfl, rfl, t3, rfl, _, rfl, mid, k, rfl, by omega, by omega, ?_⟩
  refine ⟨_, rfl, pu, _, 0, .int wd, rfl, rfl, sqt_same e03 htabu, rfl, _, rfl, wd, k, rfl, by omega, by omega, ?_⟩
  rw [m1, m2, m3]
  have hL : (cornersM mid as k).length = (choicesM m k).length * (choicesM mid k).length := by
    rw [corners_flat (by omega) (by omega) (by omega)]
    unfold flatC
    rw [flat_len, la]
  have hR : (cornersM wd bs k).length = (choicesM mid k).length * (choicesM wd k).length := by
    rw [corners_flat (by omega) (by omega) (by omega)]
    unfold flatC
    rw [flat_len, lb]
  have hS := sums_eq (k := k) oa ob hm hmid hmid1 hwd hk hk1
  rw [← hS] at kk
  clear hS
  have bdL : ∀ z ∈ cornersM mid as k, z.natAbs < 2 ^ 40000 := fun z hz => by
    obtain ⟨_, _, c, hc, e, he, rfl⟩ := corner_mem.mp hz
    obtain ⟨c1, c2⟩ := choices_mem hc
    refine det_wd7 (fun r hr => ?_) (by rw [pick_len]; omega) (by rw [(choices_mem he).1]; omega)
    obtain ⟨i, hi, rfl⟩ := List.mem_map.mp hr
    exact (wa _ (Gd.getD_mem (d := []) (c2 i hi))).2
  have bdR : ∀ z ∈ cornersM wd bs k, z.natAbs < 2 ^ 40000 := fun z hz => by
    obtain ⟨_, _, c, hc, e, he, rfl⟩ := corner_mem.mp hz
    obtain ⟨c1, c2⟩ := choices_mem hc
    refine det_wd7 (fun r hr => ?_) (by rw [pick_len]; omega) (by rw [(choices_mem he).1]; omega)
    obtain ⟨i, hi, rfl⟩ := List.mem_map.mp hr
    exact (wb _ (Gd.getD_mem (d := []) (c2 i hi))).2
  generalize cornersM mid as k = L at *
  generalize cornersM wd bs k = R at *
  generalize (choicesM m k).length = cM at *
  generalize (choicesM mid k).length = mM at *
  generalize (choicesM wd k).length = wM at *
  refine ⟨by show 3 ≤ sizeLine; decide, fun p4 np4 => ?_⟩
  have e4 := Same.new (o := .tup [.int (cM : Int), .int (mM : Int), .int (wM : Int)]) np4
  refine ⟨p4, _, rfl, SqT.of upd_same, rfl, _, _, rfl, _, _, rfl, _, _, rfl, rfl, ?_⟩
  have e24 := e3.trans e4
  have h14 := e24 _ _ (e2 _ _ h1)
  have h24 := e24 _ _ h2
  have e04 := e03.trans e4
  refine ⟨fun σ' H' => H' = upd (upd H2 p3 (.tup [.ref l1, .ref l2])) p4 (.tup [.int (cM : Int), .int (mM : Int), .int (wM : Int)]) ∧ σ' = [some (.ref pt), some (.ref pu), some (.int k), some (.ref l1), some (.ref l2), some (.int (cM : Int)), some (.int (mM : Int)), some (.int (wM : Int)), none, none, none, none], ?_, ?_⟩
  · refine ⟨_, rfl, l1, _, rfl, .inl (SqL.of h14), _, rfl, _, rfl, _, _, rfl, rfl, .inl ⟨by omega, by omega⟩, rfl, _, rfl, ?_⟩
    refine iteNS (by rw [List.length_map, hL]; push_cast; rfl) ?_
    refine ⟨_, rfl, l2, _, rfl, .inl (SqL.of h24), _, rfl, _, rfl, _, _, rfl, rfl, .inl ⟨by omega, by omega⟩, rfl, _, rfl, ?_⟩
    exact iteNS (by rw [List.length_map, hR]; push_cast; rfl) ⟨rfl, rfl⟩
  rintro σ' H4 ⟨eH4, rfl⟩
  rw [← eH4] at h14 h24 e04
  clear eH4 e4 e24 np4 e03 t3 np3 e3
  refine ⟨Nat.zero_le _, fun l nl => ?_⟩
  have el := Same.new (o := .lst []) nl
  have nl0 := none_of e04 nl
  have n1l : l1 ≠ l := fun z => by rw [← z, h14] at nl; cases nl
  have n2l : l2 ≠ l := fun z => by rw [← z, h24] at nl; cases nl
  refine ⟨_, rfl, (cM : Int), rfl, by omega, by omega, for_range (lo := 0) (n := cM) (fun a σ H' => ∃ v9 v10 v11 : Option V, σ = [some (.ref pt), some (.ref pu), some (.int k), some (.ref l1), some (.ref l2), some (.int (cM : Int)), some (.int (mM : Int)), some (.int (wM : Int)), some (.ref l), v9, v10, v11] ∧
    Same H H' ∧ H' l1 = some (.lst (L.map V.int)) ∧ H' l2 = some (.lst (R.map V.int)) ∧ H' l = some (.lst ((gAll L R a mM wM).map V.int))) ?_ ?_ ?_⟩
  · exact ⟨_, _, _, rfl, e04.trans el, el _ _ h14, el _ _ h24, upd_same⟩
  · rintro a σ H5 ha ⟨v9, v10, v11, rfl, e5, h15, h25, h5⟩
    refine ⟨_, rfl, (wM : Int), rfl, by omega, by omega, for_range (lo := 0) (n := wM) (fun b σ H' => ∃ v10 v11 : Option V, σ = [some (.ref pt), some (.ref pu), some (.int k), some (.ref l1), some (.ref l2), some (.int (cM : Int)), some (.int (mM : Int)), some (.int (wM : Int)), some (.ref l), some (.int (0 + (a : Int))), v10, v11] ∧
      Same H H' ∧ H' l1 = some (.lst (L.map V.int)) ∧ H' l2 = some (.lst (R.map V.int)) ∧ H' l = some (.lst ((gAll L R a mM wM ++ (List.range b).map (gSum L R mM wM a)).map V.int))) ?_ ?_ ?_⟩
    · exact ⟨_, _, rfl, e5, h15, h25, by simpa using h5⟩
    · rintro b σ H6 hb ⟨v10, v11, rfl, e6, h16, h26, h6⟩
      refine ⟨_, rfl, .inl ⟨rfl, _, SqL.of h6⟩, ?_⟩
      refine ⟨_, rfl, (mM : Int), rfl, by omega, by omega, fun D1 hD1 => ?_⟩
      refine lcGr (lo := 0) (n := mM) (fun q H7 => Same H6 H7 ∧ H7 D1 = some (.lst (((List.range q).map fun q => L.getD (a * mM + q) 0 * R.getD (q * wM + b) 0).map V.int))) ?_ ?_ ?_
      · exact ⟨Same.new hD1, upd_same⟩
      · rintro q H7 hq ⟨e7, hD7⟩
        refine ⟨rfl, ?_⟩
        try unfold tYes
        dsimp only
        rw [if_pos rfl]
        have i1 : a * mM + q < L.length := by
          rw [hL]
          have : (a + 1) * mM ≤ cM * mM := Nat.mul_le_mul_right _ ha
          rw [Nat.add_mul] at this
          omega
        have i2 : q * wM + b < R.length := by
          rw [hR]
          have : (q + 1) * wM ≤ mM * wM := Nat.mul_le_mul_right _ hq
          rw [Nat.add_mul] at this
          omega
        have at1 : atI (L.map V.int) ((0 + (a : Int)) * (mM : Int) + (0 + (q : Int))) = some (.int (L.getD (a * mM + q) 0)) := by
          rw [show (0 + (a : Int)) * (mM : Int) + (0 + (q : Int)) = ((a * mM + q : Nat) : Int) by rw [Int.zero_add, Int.zero_add]; push_cast; rfl]
          refine atI_nat ?_
          rw [List.getElem?_map, List.getD_eq_getElem?_getD, List.getElem?_eq_getElem i1]
          rfl
        have at2 : atI (R.map V.int) ((0 + (q : Int)) * (wM : Int) + (0 + (b : Int))) = some (.int (R.getD (q * wM + b) 0)) := by
          rw [show (0 + (q : Int)) * (wM : Int) + (0 + (b : Int)) = ((q * wM + b : Nat) : Int) by rw [Int.zero_add, Int.zero_add]; push_cast; rfl]
          refine atI_nat ?_
          rw [List.getElem?_map, List.getD_eq_getElem?_getD, List.getElem?_eq_getElem i2]
          rfl
        refine ⟨_, rfl, _, rfl, _, rfl, _, _, rfl, rfl, .inl ⟨by omega, by omega⟩, _, rfl, _, _, rfl, rfl, l1, _, _, _, rfl, rfl, SqL.of (e7 _ _ h16), at1, ?_⟩
        refine ⟨_, rfl, _, rfl, _, rfl, _, _, rfl, rfl, .inl ⟨by omega, by omega⟩, _, rfl, _, _, rfl, rfl, l2, _, _, _, rfl, rfl, SqL.of (e7 _ _ h26), at2, ?_⟩
        refine ⟨_, _, rfl, rfl, wide_mul (bdL _ (Gd.getD_mem (d := 0) i1)) (bdR _ (Gd.getD_mem (d := 0) i2)) (by decide) (by decide) (by decide), ?_⟩
        refine ⟨_, hD7, ?_, Gd.Same.put e7 hD1, ?_⟩
        · rw [List.length_map, List.length_map, List.length_range]
          exact Nat.lt_of_le_of_lt (show _ ≤ 10 by omega) (by decide)
        · rw [upd_same, List.range_succ, List.map_append, List.map_append]
          rfl
      · rintro H7 ⟨e7, hD7⟩
        refine ⟨D1, _, rfl, SqL.of hD7, ?_⟩
        have h67 := e7 _ _ h6
        refine ⟨l, _, _, rfl, rfl, h67, ?_, ?_⟩
        · rw [List.length_map, List.length_append, List.length_map, List.length_range]
          have l1 : (gAll L R a mM wM).length = a * wM := by
            unfold gAll
            rw [flat_len, List.length_range, List.length_range]
          have l2 : a * wM ≤ 6 * 6 := Nat.mul_le_mul (by omega) cwd
          exact Nat.lt_of_le_of_lt (show _ ≤ 50 by omega) (by decide)
        · refine ⟨_, _, rfl, Gd.Same.put (e6.trans e7) nl0, ?_, ?_, ?_⟩
          · rw [upd_ne n1l]
            exact e7 _ _ h16
          · rw [upd_ne n2l]
            exact e7 _ _ h26
          · rw [upd_same, List.range_succ]
            simp only [List.map_append, List.append_assoc]
            rfl
    · rintro σ H6 ⟨v10, v11, rfl, e6, h16, h26, h6⟩
      refine ⟨_, _, _, rfl, e6, h16, h26, ?_⟩
      rw [h6]
      unfold gAll
      rw [List.range_succ (n := a), List.flatMap_append]
      simp
  · rintro σ H5 ⟨v9, v10, v11, rfl, e5, h15, h25, h5⟩
    exact ⟨_, rfl, kk l H5 e5 h5⟩

end K14

set_option Elab.async false
set_option linter.all false
set_option maxRecDepth 100000
set_option maxHeartbeats 1000000
namespace K14
open PySem PySem.Spec PyProof.Rows L2 Gd
variable {P : Program} {w : World} {K : PySem.W.Frag} {mg : Str → Option Value} {base : Heap}
theorem Sh.str {x : Str} {n : Nat} (h : (reprText x).length ≤ n) : Sh 0 n (.str x) := by
  refine ⟨?_, ?_, ?_, ?_⟩
  · simp only [PyData.showable]
  · simp only [PyData.hasDict]
  · simp only [PyData.depth]
    omega
  · simp only [PyData.shown]
    exact h
theorem sh_deed {d : Deed} {m : Nat} (hm : m ≤ 1000) (h : OkD m 99 d) : Sh 1 10000 (deedD d) := by
  have nn : ∀ i : Nat, i < m → Sh 0 1901 (.int (i : Int)) := fun i hi => Sh.int (nat_1900 (by omega))
  cases d with
  | swap i j =>
    refine (Sh.tup (k := 0) (n := 1901) (m := 3) ?_ (by simp)).mono (by decide) (by decide)
    intro d hd
    simp only [List.mem_cons, List.not_mem_nil, or_false] at hd
    rcases hd with rfl | rfl | rfl
    · exact Sh.str (by decide +kernel)
    · exact nn _ h.1
    · exact nn _ h.2.1
  | turn i =>
    refine (Sh.tup (k := 0) (n := 1901) (m := 2) ?_ (by simp)).mono (by decide) (by decide)
    intro d hd
    simp only [List.mem_cons, List.not_mem_nil, or_false] at hd
    rcases hd with rfl | rfl
    · exact Sh.str (by decide +kernel)
    · exact nn _ h
  | add i j k =>
    refine (Sh.tup (k := 0) (n := 1901) (m := 4) ?_ (by simp)).mono (by decide) (by decide)
    intro d hd
    simp only [List.mem_cons, List.not_mem_nil, or_false] at hd
    rcases hd with rfl | rfl | rfl | rfl
    · exact Sh.str (by decide +kernel)
    · exact nn _ h.1
    · exact nn _ h.2.1
    · exact Sh.int (int_1900 (by have := h.2.2.2; omega))
theorem sh_deeds {ds : List Deed} {m : Nat} (hm : m ≤ 1000) (h : ∀ d ∈ ds, OkD m 99 d) (hl : ds.length ≤ 26) : Sh 3 270000 (deedsD ds) := by
  refine (Sh.tup (k := 1) (n := 10000) (m := 26) ?_ (by rw [List.length_map]; exact hl)).mono (by decide) (by decide)
  intro d hd
  obtain ⟨x, hx, rfl⟩ := List.mem_map.mp hd
  exact sh_deed hm (h x hx)
theorem repr_dp {H : Hp} {v : V} {d : PyData} {k n : Nat} {Q : VK} {S : Str} (hd : Dp K H v d) (ht : ∃ ds, d = .tuple ds) (hs : Sh k n d) (hk : k ≤ 60) (hn : n ≤ 16000000)
    (e : d.shown = S) (q : Q (.str S) H) : rRepr K [v] H Q := by
  obtain ⟨ds, rfl⟩ := ht
  obtain ⟨p, xs, rfl, _⟩ := dp_tup hd
  subst e
  exact repr_at hd hs hk hn q
theorem pow_100 {n : Nat} (h : n ≤ 12) : 99 * (99 + 1) ^ n ≤ 10 ^ 30 :=
  Nat.le_trans (Nat.mul_le_mul_left 99 (Nat.pow_le_pow_right (by decide) h)) (by decide)
theorem rk_all {m wd : Nat} {rs : List (List Int)} {ds : List Deed} (hm : m ≤ 8) (hwd : wd ≤ 8) (o : OkT m wd rs) (h : ∀ d ∈ ds, OkD m 99 d) (hl : ds.length ≤ 12) : Rk (allD rs ds) := by
  obtain ⟨f1, f2, f3⟩ := allD_facts (b := 99) (c := 99) o.1 (fun r hr => (o.2 r hr).1) o.bs (by decide) ds h
  refine ⟨by omega, fun r hr => ⟨by rw [f2 r hr]; exact hwd, fun x hx => int_1900 ?_⟩⟩
  have h1 := f3 r hr x hx
  have h2 := pow_100 hl
  omega

def spParts (K : PySem.W.Frag) : Sp := fun vs H Q _ => ∃ (v u x : V) (m mid wd : Nat) (as bs : List (List Int)) (ds : List Deed), vs = [v, u, x] ∧ Dp K H v (tabD mid as) ∧ Dp K H u (tabD wd bs) ∧ Dp K H x (deedsD ds) ∧
  OkT m mid as ∧ OkT mid wd bs ∧ (∀ d ∈ ds, OkD m 99 d) ∧ ds.length ≤ 6 ∧ 1 ≤ m ∧ m ≤ 3 ∧ 1 ≤ mid ∧ mid ≤ 3 ∧ wd ≤ 3 ∧ ∀ H', Same H H' → Q (.bl true) H'
theorem ok_l_parts_right (D : Df K mg "_law_parts_right" s_l_parts_right) (B : Bn mg) (h_times : Has P w K mg base "times" 2 p_times (spTimes K)) (h_corners_of : Has P w K mg base "corners_of" 4 p_corners_of (spCornersOf K))
    (h_l_sums : Has P w K mg base "_law_sums" 5 p_l_sums (spSums K)) (h_l_common : Has P w K mg base "_law_common" 1 p_l_common (spCommon K)) (h_done : Has P w K mg base "done" 6 p_done (spDone K)) :
    Has P w K mg base "_law_parts_right" 7 p_l_parts_right (spParts K) := by
  refine has_of (k := 6) D sc_l_parts_right bn_l_parts_right ?_ ?_
  · rintro vs H Q E ⟨v, u, x, m, mid, wd, as, bs, ds, rfl, _⟩
    rfl
  rintro f cdv A outer s0 H vs Q E hr ⟨v, u, x, m, mid, wd, as, bs, ds, rfl, hv, hu, hx, oa, ob, hd, hl, m1, m3, mid1, mid3, wd3, kk⟩
  have la : as.length = m := oa.1
  have lb : bs.length = mid := ob.1
  have wa := okt_wd oa
  have wb := okt_wd ob
  have wla : ∀ r ∈ as, r.length = mid := fun r hr => (wa r hr).1
  obtain ⟨ld, wdn⟩ := okt_done_wd oa hd hl
  refine ⟨_, (pss_cons (ps_asg (pe_has (h_times) (hr.mono (by first | decide | omega)) (by rfl) (pa_cons (pv 0) (pa_cons (pv 1) pa_nil))) (pg_name (i := 3) sc_l_parts_right.nd rfl (by first | exact Or.inl rfl | exact Or.inr rfl)))
      (pss_cons (ps_for PassesOwn.never rfl (pi_range2 (by rfl) B.range_ (pa_cons pe_int (pa_cons pe_int pa_nil))) (pg_name (i := 4) sc_l_parts_right.nd rfl (by first | exact Or.inl rfl | exact Or.inr rfl)) (pss_cons (ps_if (pt_cmpR (op_neK (K := K) (by rfl) hr.units) (pe_has (h_corners_of) (hr.mono (by first | decide | omega)) (by rfl) (pa_cons (pv 3) (pa_cons (pv 4) pa_nil))) (pe_has (h_l_sums) (hr.mono (by first | decide | omega)) (by rfl) (pa_cons (pv 0) (pa_cons (pv 1) (pa_cons (pv 4) pa_nil)))) (nomark _)) (pss_one (ps_ret pe_bl)) pss_nil)
      (pss_one (ps_if (pt_cmpR op_ne (pe_has (h_l_common) (hr.mono (by first | decide | omega)) (by rfl) (pa_cons (pe_has (h_corners_of) (hr.mono (by first | decide | omega)) (by rfl) (pa_cons (pe_has (h_done) (hr.mono (by first | decide | omega)) (by rfl) (pa_cons (pv 0) (pa_cons (pv 2) pa_nil))) (pa_cons (pv 4) pa_nil))) pa_nil)) (pe_has (h_l_common) (hr.mono (by first | decide | omega)) (by rfl) (pa_cons (pe_has (h_corners_of) (hr.mono (by first | decide | omega)) (by rfl) (pa_cons (pv 0) (pa_cons (pv 4) pa_nil))) pa_nil)) (nomark _)) (pss_one (ps_ret pe_bl)) pss_nil))))
      (pss_one (ps_ret pe_bl)))), ?_⟩
  refine ⟨_, rfl, _, rfl, v, u, mid, as, wd, bs, rfl, hv, hu, ⟨by omega, by omega, wla⟩, ⟨by omega, by omega, fun r hr => (wb r hr).1⟩, lb.symm, fun r hr => (wa r hr).2, fun r hr => (wb r hr).2, fun y H1 e1 hy => ?_⟩
  refine ⟨1, 4, rfl, ⟨by decide, by decide, by decide, by decide⟩, ?_⟩
  refine for_range (lo := 1) (n := 3) (fun i σ H' => Same H H' ∧ Dp K H' y (tabD wd (mulR as wd bs)) ∧ ∃ v4 : Option V, σ = [some v, some u, some x, some y, v4]) ?_ ?_ ?_
  · exact ⟨e1, hy, _, rfl⟩
  · rintro i σ H2 hi ⟨e2, hy2, v4, rfl⟩
    have ek : (1 + (i : Int)) = ((i + 1 : Nat) : Int) := by omega
    rw [ek]
    refine ⟨_, rfl, _, rfl, y, wd, i + 1, _, rfl, hy2, okt_mul_wd oa ob (by omega), by omega, by rw [mulR_len]; omega, fun l3 H3 e3 n3 h3 => ?_⟩
    have e23 := e2.trans e3
    refine ⟨_, rfl, _, rfl, _, rfl, v, u, m, mid, wd, i + 1, as, bs, rfl, Dp.same e23 _ _ hv, Dp.same e23 _ _ hu, oa, ob, m3, mid3, mid1, wd3, by omega, by omega, fun l4 H4 e4 h4 => ?_⟩
    refine ⟨.list ((cornersM wd (mulR as wd bs) (i + 1)).map PyData.int), .list ((cornersM wd (mulR as wd bs) (i + 1)).map PyData.int), .lst (SqL.of (e4 _ _ h3)) (dp_ints _), .lst (SqL.of h4) (dp_ints _), ints_shaped _, ints_shaped _, ?_⟩
    rw [eqv_ints]
    refine ⟨_, rfl, iteF ?_⟩
    have e24 := e23.trans e4
    refine ⟨_, rfl, _, rfl, v, x, mid, 99, 99, as, ds, rfl, Dp.same e24 _ _ hv, Dp.same e24 _ _ hx, wla, by omega, by omega, oa.bs, by decide, by rw [la]; exact hd, big4000 (Nat.lt_of_le_of_lt (pow100 hl) (by decide)), big4000 (by decide), fun y5 H5 e5 hy5 => ?_⟩
    refine ⟨_, rfl, y5, mid, i + 1, _, rfl, hy5, wdn, by omega, by omega, fun l6 H6 e6 n6 h6 => ?_⟩
    refine ⟨l6, _, rfl, SqL.of h6, ?_⟩
    have e26 := (e24.trans e5).trans e6
    refine ⟨_, rfl, _, rfl, v, mid, i + 1, as, rfl, Dp.same e26 _ _ hv, wa, by omega, by omega, fun l7 H7 e7 n7 h7 => ?_⟩
    refine ⟨l7, _, rfl, SqL.of h7, ?_⟩
    rw [corners_gcd (b := 99) la m3 m1 (by omega) (by omega) mid3 wla hd]
    refine ⟨rfl, _, rfl, ?_⟩
    refine iteNS rfl ⟨e26.trans e7, Dp.same (((e3.trans e4).trans e5).trans (e6.trans e7)) _ _ hy2, _, rfl⟩
  · rintro σ H2 ⟨e2, _, v4, rfl⟩
    exact kk _ e2
/-! ### more rows -/
def spMore (K : PySem.W.Frag) : Sp := fun vs H Q _ => ∃ (a s : Addr) (n : Nat), vs = [.ref a] ∧ Fd H a s n ∧ n + 1000 ≤ 1000000 ∧ ∀ H', Q (.bl true) H'
def ab (x y : Int) : PyData := .list [.int x, .int y]
theorem sg_small (n : Nat) : (sg n).natAbs < 2 ^ 1900 := by
  have : (sg n).natAbs = 1 := by
    unfold sg
    split <;> rfl
  rw [this]
  exact Nat.lt_of_lt_of_le (by decide : 1 < 2 ^ 1) (Nat.pow_le_pow_right (by decide) (by decide))
theorem sh_ab (p q : Nat) : Sh 1 10000 (ab (sg p) (sg q)) := by
  refine (Sh.lst (k := 0) (n := 1901) (m := 2) (fun d hd => ?_) (by simp)).mono (by decide) (by decide)
  simp only [List.mem_cons, List.not_mem_nil, or_false] at hd
  rcases hd with rfl | rfl
  · exact Sh.int (sg_small p)
  · exact Sh.int (sg_small q)
theorem tbl_facts {m : Nat} {ds : List Deed} (hm : m ≤ 7) (hd : ∀ d ∈ ds, OkD m 99 d) (hl : ds.length ≤ 6) : (allD (unitR m) ds).length = m ∧ (∀ r ∈ allD (unitR m) ds, r.length = m ∧ Wd r) ∧ Bs ((10 ^ 12 : Nat) : Int) (allD (unitR m) ds) := by
  obtain ⟨h1, h2, h3⟩ := allD_facts (b := 1) (c := 99) (unitR_len m) unitR_wide bs_unit (by decide) ds hd
  have hp : 1 * (99 + 1) ^ ds.length ≤ 10 ^ 12 := by
    rw [Nat.one_mul]
    exact Nat.le_trans (Nat.pow_le_pow_right (by decide) hl) (by decide)
  have h4 : Bs ((10 ^ 12 : Nat) : Int) (allD (unitR m) ds) := fun r hr x hx => by
    have := h3 r hr x hx
    omega
  exact ⟨h1, fun r hr => ⟨h2 r hr, bs_wdN h4 (by decide) r hr⟩, h4⟩
theorem ok_l_more_right (D : Df K mg "_law_more_right" s_l_more_right) (B : Bn mg)
    (h_l_draw : Has P w K mg base "_law_draw" 1 p_l_draw spDraw)
    (h_l_deeds : Has P w K mg base "_law_deeds" 4 p_l_deeds (spLDeeds K))
    (h_deeds_table : Has P w K mg base "deeds_table" 7 p_deeds_table (spDTable K))
    (h_corner_of : Has P w K mg base "corner_of" 4 p_corner_of (spCornerOf K))
    (h_turned_over : Has P w K mg base "turned_over" 1 p_turned_over (spTurn K))
    (h_l_signed : Has P w K mg base "_law_signed" 1 p_l_signed (spSigned K))
    (h_times : Has P w K mg base "times" 2 p_times (spTimes K)) :
    HasG P w K mg base "_law_more_right" 8 p_l_more_right (spMore K) := by
  refine hasG_of (k := 7) D sc_l_more_right bn_l_more_right ?_ ?_
  · rintro vs H Q E ⟨a, s, n, rfl, _⟩
    rfl
  rintro f cdv A outer s0 H vs Q E hG hr ⟨a, s, n, rfl, f0, hn, k⟩
  refine ⟨_, (pss_cons (ps_asg (pe_op op_add pe_int (pe_has (h_l_draw) (hr.mono (by first | decide | omega)) (by rfl) (pa_cons (pv 0) (pa_cons pe_int pa_nil)))) (pg_name (i := 1) sc_l_more_right.nd rfl (by first | exact Or.inl rfl | exact Or.inr rfl)))
      (pss_cons (ps_par (i := 2) (j := 3) (by rfl) sc_l_more_right.nd rfl rfl (by decide) rfl rfl (pa_cons (pe_has (h_l_deeds) (hr.mono (by first | decide | omega)) (by rfl) (pa_cons (pv 0) (pa_cons (pv 1) (pa_cons pe_int pa_nil)))) (pa_cons (pe_has (h_l_deeds) (hr.mono (by first | decide | omega)) (by rfl) (pa_cons (pv 0) (pa_cons (pv 1) (pa_cons pe_int pa_nil)))) pa_nil)) (by rfl))
      (pss_cons (ps_par (i := 4) (j := 5) (by rfl) sc_l_more_right.nd rfl rfl (by decide) rfl rfl (pa_cons (pe_has (h_deeds_table) (hr.mono (by first | decide | omega)) (by rfl) (pa_cons (pv 1) (pa_cons (pv 2) pa_nil))) (pa_cons (pe_has (h_deeds_table) (hr.mono (by first | decide | omega)) (by rfl) (pa_cons (pv 1) (pa_cons (pv 3) pa_nil))) pa_nil)) (by rfl))
      (pss_cons (ps_if (pt_cmpR op_ne (pe_callB (call_reprDK (K := K) (by rfl) hG hr.units) (by rfl) B.repr_ (by decide +kernel) (pa_cons (pe_lst (pa_cons (pe_has (h_corner_of) (hr.mono (by first | decide | omega)) (by rfl) (pa_cons (pv 4) pa_nil)) (pa_cons (pe_has (h_corner_of) (hr.mono (by first | decide | omega)) (by rfl) (pa_cons (pe_has (h_turned_over) (hr.mono (by first | decide | omega)) (by rfl) (pa_cons (pv 5) pa_nil)) pa_nil)) pa_nil))) pa_nil)) (pe_callB (call_reprDK (K := K) (by rfl) hG hr.units) (by rfl) B.repr_ (by decide +kernel) (pa_cons (pe_lst (pa_cons (pe_has (h_l_signed) (hr.mono (by first | decide | omega)) (by rfl) (pa_cons (pv 2) pa_nil)) (pa_cons (pe_has (h_l_signed) (hr.mono (by first | decide | omega)) (by rfl) (pa_cons (pv 3) pa_nil)) pa_nil))) pa_nil)) (nomark _)) (pss_one (ps_ret pe_bl)) pss_nil)
      (pss_one (ps_ret (pe_cmpR op_eq (pe_callB (call_reprDK (K := K) (by rfl) hG hr.units) (by rfl) B.repr_ (by decide +kernel) (pa_cons (pe_has (h_corner_of) (hr.mono (by first | decide | omega)) (by rfl) (pa_cons (pe_has (h_times) (hr.mono (by first | decide | omega)) (by rfl) (pa_cons (pv 4) (pa_cons (pv 5) pa_nil))) pa_nil)) pa_nil)) (pe_callB (call_reprDK (K := K) (by rfl) hG hr.units) (by rfl) B.repr_ (by decide +kernel) (pa_cons (pe_op op_mul (pe_has (h_l_signed) (hr.mono (by first | decide | omega)) (by rfl) (pa_cons (pv 2) pa_nil)) (pe_has (h_l_signed) (hr.mono (by first | decide | omega)) (by rfl) (pa_cons (pv 3) pa_nil))) pa_nil)) (nomark _)))))))), ?_⟩
  refine ⟨_, rfl, a, s, _, n, rfl, f0, by omega, by decide, by decide, fun rm H1 m0 m1 sb1 f1 => ⟨_, _, rfl, rfl, ?_⟩⟩
  obtain ⟨m, em, hm5, hm7⟩ : ∃ m : Nat, 5 + rm = (m : Int) ∧ 5 ≤ m ∧ m ≤ 7 := ⟨(5 + rm).toNat, by omega, by omega, by omega⟩
  dsimp only
  rw [em]
  refine ⟨_, rfl, _, rfl, a, s, m, 6, n + 1, rfl, f1, by omega, by omega, by omega, fun u1 H2 ds sb2 f2 ok1 l1 hu1 => ?_⟩
  refine ⟨_, rfl, _, rfl, a, s, m, 6, n + 201, rfl, f2, by omega, by omega, by omega, fun u2 H3 es sb3 f3 ok2 l2 hu2 => ?_⟩
  have hu1 := Dp.tk (f2.tk sb3) _ _ (deedsD_tup _) hu1
  refine ⟨_, _, rfl, ?_⟩
  obtain ⟨la, wa, ba⟩ := tbl_facts hm7 ok1 l1
  obtain ⟨lb, wb, bb⟩ := tbl_facts hm7 ok2 l2
  have pw : ∀ {q : Nat}, q ≤ 6 → 1 * (99 + 1) ^ q < 2 ^ 4000 := fun {q} hq => big4000 (Nat.lt_of_le_of_lt (by rw [Nat.one_mul]; exact Nat.pow_le_pow_right (by decide) hq) (by decide : (99 + 1) ^ 6 < 2 ^ 200))
  refine ⟨_, rfl, _, rfl, u1, m, 99, ds, rfl, hu1, by omega, by decide, ok1, pw l1, big4000 (by decide), fun y4 H4 e4 hy4 => ?_⟩
  refine ⟨_, rfl, _, rfl, u2, m, 99, es, rfl, Dp.same e4 _ _ hu2, by omega, by decide, ok2, pw l2, big4000 (by decide), fun y5 H5 e5 hy5 => ?_⟩
  refine ⟨_, _, rfl, ?_⟩
  have hu1 := Dp.same (e4.trans e5) _ _ hu1
  have hu2 := Dp.same (e4.trans e5) _ _ hu2
  have hy4 := Dp.same e5 _ _ hy4
  have d1 := det_allD (b := 99) (List.range m) ds (unitR m) (unitR_len m) unitR_wide ok1
  have d2 := det_allD (b := 99) (List.range m) (es.map trD).reverse (unitR m) (unitR_len m) unitR_wide (okd_trs ok2)
  have d3 := det_allD (b := 99) (List.range m) es (unitR m) (unitR_len m) unitR_wide ok2
  rw [det_unit m (by omega), Int.mul_one] at d1 d2 d3
  rw [← turn_allD (by omega) es ok2, cnt_trs] at d2
  have tb : Tb m (allD (unitR m) es) := ⟨by omega, by omega, fun r hr => (wb r hr).1⟩
  have ta : Tb m (allD (unitR m) ds) := ⟨by omega, by omega, fun r hr => (wa r hr).1⟩
  have d4 : detM (mulR (allD (unitR m) ds) m (allD (unitR m) es)) (List.range m) = sg (cntD ds) * sg (cntD es) := by
    rw [deeds_mul tb lb ok1, det_allD (b := 99) (List.range m) ds _ lb (fun r hr => (wb r hr).1) ok1, d3]
  have s1 := sh_ab (cntD ds) (cntD es)
  obtain ⟨S1, hS1⟩ : ∃ S1, (ab (sg (cntD ds)) (sg (cntD es))).shown = S1 := ⟨_, rfl⟩
  have tw : ∀ r ∈ turnR m (allD (unitR m) es), r.length = m ∧ Wd r := fun r hr => by
    refine ⟨?_, bs_wdN (b := 10 ^ 12) (bs_turn (by decide) bb) (by decide) r hr⟩
    rw [turnR_eq] at hr
    obtain ⟨q, _, rfl⟩ := List.mem_map.mp hr
    rw [List.length_map, lb]
  refine ⟨_, rfl, y4, m, _, rfl, hy4, wa, hm7, la, fun H6 e6 => ?_⟩
  rw [d1]
  refine ⟨_, rfl, y5, m, _, rfl, Dp.same e6 _ _ hy5, tb, fun y7 H7 e7 hy7 => ?_⟩
  rw [lb] at hy7
  refine ⟨y7, m, _, rfl, hy7, tw, hm7, turn_len, fun H8 e8 => ?_⟩
  rw [d2]
  refine ⟨by show 2 ≤ sizeLine; decide, fun p9 np9 => ?_⟩
  obtain ⟨H9, xH9, e9, h9, h9'⟩ := lst_new (K := K) np9 (.cons (.int (sg (cntD ds))) (.cons (.int (sg (cntD es))) .nil))
  rw [xH9]
  have h9 : Dp K H9 (.ref p9) (ab (sg (cntD ds)) (sg (cntD es))) := .lst (SqL.of h9) h9'
  try dsimp only [tC, tNil]
  refine reprD h9 s1 (by decide) (by decide) hS1 ?_
  have e59 := ((e6.trans e7).trans e8).trans e9
  refine ⟨_, rfl, u1, ds, rfl, Dp.same e59 _ _ hu1, by omega, fun H10 e10 => ?_⟩
  refine ⟨_, rfl, u2, es, rfl, Dp.same (e59.trans e10) _ _ hu2, by omega, fun H11 e11 => ?_⟩
  refine ⟨by show 2 ≤ sizeLine; decide, fun p12 np12 => ?_⟩
  obtain ⟨H12, xH12, e12, h12, h12'⟩ := lst_new (K := K) np12 (.cons (.int (sg (cntD ds))) (.cons (.int (sg (cntD es))) .nil))
  rw [xH12]
  have h12 : Dp K H12 (.ref p12) (ab (sg (cntD ds)) (sg (cntD es))) := .lst (SqL.of h12) h12'
  try dsimp only [tC, tNil]
  refine reprD h12 s1 (by decide) (by decide) hS1 ?_
  refine ⟨rfl, _, rfl, ?_⟩
  refine iteNS rfl ?_
  have e512 := ((e59.trans e10).trans e11).trans e12
  have sgs : (sg (cntD ds) * sg (cntD es)).natAbs < 2 ^ 1900 := by
    have h : ∀ n, (sg n).natAbs = 1 := fun n => by
      unfold sg
      split <;> rfl
    rw [Int.natAbs_mul, h, h]
    exact Nat.lt_of_lt_of_le (by decide : 1 * 1 < 2 ^ 1) (Nat.pow_le_pow_right (by decide) (by decide))
  obtain ⟨S2, hS2⟩ : ∃ S2, (PyData.int (sg (cntD ds) * sg (cntD es))).shown = S2 := ⟨_, rfl⟩
  have mw : ∀ r ∈ mulR (allD (unitR m) ds) m (allD (unitR m) es), r.length = m ∧ Wd r := fun r hr => by
    refine ⟨mul_wide r hr, ?_⟩
    have h := bs_mul (v := m) (w := m) (m := 7) (by decide) (by decide) ba (fun r hr => by rw [(wa r hr).1]; exact hm7) bb
    exact bs_wdN (b := 10 ^ 12 * 10 ^ 12 * 7) h (by decide) r hr
  refine ⟨_, rfl, _, rfl, y4, y5, m, _, m, _, rfl, Dp.same e512 _ _ hy4, Dp.same e512 _ _ hy5, ta, tb, lb.symm, fun r hr => (wa r hr).2, fun r hr => (wb r hr).2, fun y13 H13 e13 hy13 => ?_⟩
  refine ⟨y13, m, _, rfl, hy13, mw, hm7, by rw [mulR_len, la], fun H14 e14 => ?_⟩
  rw [d4]
  try dsimp only [tC, tNil]
  refine reprD (.int _) (Sh.int sgs) (by decide) (by decide) hS2 ?_
  have e514 := (e512.trans e13).trans e14
  refine ⟨_, rfl, u1, ds, rfl, Dp.same e514 _ _ hu1, by omega, fun H15 e15 => ?_⟩
  refine ⟨_, rfl, u2, es, rfl, Dp.same (e514.trans e15) _ _ hu2, by omega, fun H16 e16 => ?_⟩
  refine ⟨_, _, rfl, rfl, .inl ?_, ?_⟩
  · have : sg (cntD ds) = 1 ∨ sg (cntD ds) = -1 := by
      unfold sg
      split
      · exact .inl rfl
      · exact .inr rfl
    rcases this with h | h <;> rw [h] <;> exact ⟨by decide, by decide⟩
  try dsimp only [tC, tNil]
  refine reprD (.int _) (Sh.int sgs) (by decide) (by decide) hS2 ?_
  refine ⟨rfl, ?_⟩
  rw [decide_eq_true (rfl : V.str _ = V.str _)]
  exact k _
end K14

set_option Elab.async false
set_option linter.all false
set_option maxRecDepth 100000
set_option maxHeartbeats 1000000
namespace K14
open PySem PySem.Spec PyProof.Rows L2 Gd
variable {P : Program} {w : World} {K : PySem.W.Frag} {mg : Str → Option Value} {base : Heap}
theorem sql_sb {K : PySem.W.Frag} {H0 H1 H' : Hp} {a sc : Addr} {xs : List V} (h0 : SqL K H0 sc xs) (na : H0 a = none) (e1 : Same H0 H1) (sb : Sb a H1 H') : SqL K H' sc xs := by
  rcases h0 with (h | ⟨o, h⟩) | h
  · exact Or.inl (Or.inl (sb _ _ (ne_of_none h na) (e1 _ _ h)))
  · exact Or.inl (Or.inr ⟨o, sb _ _ (ne_of_none h na) (e1 _ _ h)⟩)
  · exact Or.inr h
def kept6 (n : Nat) (as bs : List (List Int)) (ds : List Deed) (mid wd : Nat) (cs es : List (List Int)) (fs : List Deed) : PyData := .tuple [tabD n as, tabD n bs, deedsD ds, tabD mid cs, tabD wd es, deedsD fs]
theorem sh_kept6 {n m mid wd : Nat} {as bs cs es : List (List Int)} {ds fs : List Deed} (hn : n ≤ 8) (hm : m ≤ 8) (hmid : mid ≤ 8) (hwd : wd ≤ 8) (oa : OkT n n as) (ob : OkT n n bs) (oc : OkT m mid cs) (oe : OkT mid wd es)
    (h1 : ∀ d ∈ ds, OkD n 99 d) (h2 : ∀ d ∈ fs, OkD m 99 d) (l1 : ds.length ≤ 26) (l2 : fs.length ≤ 26) : Sh 4 1900000 (kept6 n as bs ds mid wd cs es fs) := by
  refine (Sh.tup (k := 3) (n := 270000) (m := 6) ?_ (by simp)).mono (by decide) (by decide)
  intro d hd
  simp only [List.mem_cons, List.not_mem_nil, or_false] at hd
  rcases hd with rfl | rfl | rfl | rfl | rfl | rfl
  · exact sh_tab (nat_1900 (by omega)) (rk_ok oa hn hn)
  · exact sh_tab (nat_1900 (by omega)) (rk_ok ob hn hn)
  · exact sh_deeds (by omega) h1 l1
  · exact sh_tab (nat_1900 (by omega)) (rk_ok oc hm hmid)
  · exact sh_tab (nat_1900 (by omega)) (rk_ok oe hmid hwd)
  · exact sh_deeds (by omega) h2 l2
def spLaw (K : PySem.W.Frag) : Sp := fun vs H Q _ => ∃ (a : Addr) (ns : List Int), vs = [.ref a] ∧ SqL K H a (ns.map V.int) ∧ ns.length ≤ 63 ∧ ∀ H', Q (.bl true) H'
abbrev FnP (K : PySem.W.Frag) (x : Str) (st : Stmt) (f : Addr) (fd : FuncData) : Prop := FunD K x x (defArgs st) (defBody st) (defScope st) [] [] f fd
theorem plus1 {r : Int} {k : Nat} (h0 : 0 ≤ r) (h1 : r < k) : ∃ m : Nat, 1 + r = (m : Int) ∧ 1 ≤ m ∧ m ≤ k := ⟨(1 + r).toNat, by omega, by omega, by omega⟩
theorem ok_law {f : Addr} {fd : FuncData} (F : FnP K "law" s_law f fd) (B : Bn mg)
    (h_l_feed : Has P w K mg base "_law_feed" 1 p_l_feed (spFeed K))
    (h_l_draw : Has P w K mg base "_law_draw" 1 p_l_draw spDraw)
    (h_l_table : Has P w K mg base "_law_table" 4 p_l_table (spTable K))
    (h_l_deeds : Has P w K mg base "_law_deeds" 4 p_l_deeds (spLDeeds K))
    (h_l_square_right : Has P w K mg base "_law_square_right" 7 p_l_square_right (spSquare K))
    (h_l_parts_right : Has P w K mg base "_law_parts_right" 7 p_l_parts_right (spParts K))
    (h_l_more_right : HasG P w K mg base "_law_more_right" 8 p_l_more_right (spMore K)) :
    FnG P w K mg base 9 f fd ["_law_script"] (spLaw K) := by
  refine okG (k := 8) F sc_law ?_ ?_
  · rintro vs H Q E ⟨a, ns, rfl, _⟩
    rfl
  rintro cdv A outer s0 H vs Q E hG hr ⟨sc, ns, rfl, hS, hl, k⟩
  refine ⟨_, PSs.nox (pss_cons (ps_asg (pe_has (h_l_feed) (hr.mono (by first | decide | omega)) (by rfl) (pa_cons (pv 0) pa_nil)) (pg_name (i := 1) sc_law.nd rfl (by first | exact Or.inl rfl | exact Or.inr rfl)))
      (pss_cons (ps_for PassesOwn.never rfl (pi_range1 (by rfl) B.range_ (pa_cons pe_int pa_nil)) (pg_name (i := 2) sc_law.nd rfl (by first | exact Or.inl rfl | exact Or.inr rfl)) (pss_cons (ps_asg (pe_op op_add pe_int (pe_has (h_l_draw) (hr.mono (by first | decide | omega)) (by rfl) (pa_cons (pv 1) (pa_cons pe_int pa_nil)))) (pg_name (i := 3) sc_law.nd rfl (by first | exact Or.inl rfl | exact Or.inr rfl)))
      (pss_cons (ps_par (i := 4) (j := 5) (by rfl) sc_law.nd rfl rfl (by decide) rfl rfl (pa_cons (pe_has (h_l_table) (hr.mono (by first | decide | omega)) (by rfl) (pa_cons (pv 1) (pa_cons (pv 3) (pa_cons (pv 3) pa_nil)))) (pa_cons (pe_has (h_l_table) (hr.mono (by first | decide | omega)) (by rfl) (pa_cons (pv 1) (pa_cons (pv 3) (pa_cons (pv 3) pa_nil)))) pa_nil)) (by rfl))
      (pss_cons (ps_asg (pe_has (h_l_deeds) (hr.mono (by first | decide | omega)) (by rfl) (pa_cons (pv 1) (pa_cons (pv 3) (pa_cons pe_int pa_nil)))) (pg_name (i := 6) sc_law.nd rfl (by first | exact Or.inl rfl | exact Or.inr rfl)))
      (pss_cons (ps_par3 (i := 7) (j := 8) (l := 9) (by rfl) sc_law.nd rfl rfl rfl (by decide) (by decide) (by decide) rfl rfl rfl (pa_cons (pe_op op_add pe_int (pe_has (h_l_draw) (hr.mono (by first | decide | omega)) (by rfl) (pa_cons (pv 1) (pa_cons pe_int pa_nil)))) (pa_cons (pe_op op_add pe_int (pe_has (h_l_draw) (hr.mono (by first | decide | omega)) (by rfl) (pa_cons (pv 1) (pa_cons pe_int pa_nil)))) (pa_cons (pe_op op_add pe_int (pe_has (h_l_draw) (hr.mono (by first | decide | omega)) (by rfl) (pa_cons (pv 1) (pa_cons pe_int pa_nil)))) pa_nil))) (by rfl))
      (pss_cons (ps_par (i := 10) (j := 11) (by rfl) sc_law.nd rfl rfl (by decide) rfl rfl (pa_cons (pe_has (h_l_table) (hr.mono (by first | decide | omega)) (by rfl) (pa_cons (pv 1) (pa_cons (pv 7) (pa_cons (pv 8) pa_nil)))) (pa_cons (pe_has (h_l_table) (hr.mono (by first | decide | omega)) (by rfl) (pa_cons (pv 1) (pa_cons (pv 8) (pa_cons (pv 9) pa_nil)))) pa_nil)) (by rfl))
      (pss_cons (ps_asg (pe_has (h_l_deeds) (hr.mono (by first | decide | omega)) (by rfl) (pa_cons (pv 1) (pa_cons (pv 7) (pa_cons pe_int pa_nil)))) (pg_name (i := 12) sc_law.nd rfl (by first | exact Or.inl rfl | exact Or.inr rfl)))
      (pss_cons (ps_asg (pe_callB (call_reprDK (K := K) (by rfl) hG hr.units) (by rfl) B.repr_ (by decide +kernel) (pa_cons (pe_tup (pa_cons (pv 4) (pa_cons (pv 5) (pa_cons (pv 6) (pa_cons (pv 10) (pa_cons (pv 11) (pa_cons (pv 12) pa_nil))))))) pa_nil)) (pg_name (i := 13) sc_law.nd rfl (by first | exact Or.inl rfl | exact Or.inr rfl)))
      (Evl.pss_cut (ps_if (PW.pt (pw_or (pt_not (pt_val (pe_has (h_l_square_right) (hr.mono (by first | decide | omega)) (by rfl) (pa_cons (pv 4) (pa_cons (pv 5) (pa_cons (pv 6) pa_nil)))))) (pw_or1 (pt_not (pt_val (pe_has (h_l_parts_right) (hr.mono (by first | decide | omega)) (by rfl) (pa_cons (pv 10) (pa_cons (pv 11) (pa_cons (pv 12) pa_nil))))))))) (pss_one (ps_ret pe_bl)) pss_nil)
      (pss_one (ps_if (pt_cmpR op_ne (pe_callB (call_reprDK (K := K) (by rfl) hG hr.units) (by rfl) B.repr_ (by decide +kernel) (pa_cons (pe_tup (pa_cons (pv 4) (pa_cons (pv 5) (pa_cons (pv 6) (pa_cons (pv 10) (pa_cons (pv 11) (pa_cons (pv 12) pa_nil))))))) pa_nil)) (pv 13) (nomark _)) (pss_one (ps_ret pe_bl)) pss_nil)))))))))))
      (pss_cons (ps_asg (pe_has (h_l_feed) (hr.mono (by first | decide | omega)) (by rfl) (pa_cons (pe_revLK (K := K) (by rfl) (pe_slice (sl_listK (K := K) (by rfl)) (pv 0) po_none (po_some pe_int))) pa_nil)) (pg_name (i := 14) sc_law.nd rfl (by first | exact Or.inl rfl | exact Or.inr rfl)))
      (pss_cons (ps_asg pe_int (pg_sub (pv 14) pe_int set_list))
      (pss_one (ps_ret (pe_hasG (h_l_more_right) hG (hr.mono (by first | decide | omega)) (by rfl) (pa_cons (pv 14) pa_nil)))))))), ?_⟩
  refine ⟨_, rfl, sc, ns, rfl, hS, hl, fun a s H1 na ns1 e1 f1 => ?_⟩
  refine ⟨2, rfl, by decide, by decide, for_range (lo := 0) (n := 2) (fun i σ H' => (∃ v2 v3 v4 v5 v6 v7 v8 v9 v10 v11 v12 v13 v14 : Option V,
    σ = [some (.ref sc), some (.ref a), v2, v3, v4, v5, v6, v7, v8, v9, v10, v11, v12, v13, v14]) ∧ Fd H' a s (2000 * i) ∧ Sb a H1 H') ?_ ?_ ?_⟩
  · exact ⟨⟨_, _, _, _, _, _, _, _, _, _, _, _, _, rfl⟩, f1, Sb.refl a H1⟩
  · rintro i σ H0 hi ⟨⟨v2, v3, v4, v5, v6, v7, v8, v9, v10, v11, v12, v13, v14, rfl⟩, f0, sb0⟩
    refine ⟨_, rfl, a, s, _, 2000 * i, rfl, f0, by omega, by decide, by decide, fun rn H2 n0 n1 sb2 f2 => ⟨_, _, rfl, rfl, ?_⟩⟩
    obtain ⟨n, en, hn1, hn4⟩ := plus1 (k := 4) n0 n1
    dsimp only
    rw [en]
    refine ⟨_, rfl, _, rfl, _, rfl, a, s, n, n, 2000 * i + 1, rfl, f2, by omega, by omega, by omega, fun t1 H3 as sb3 f3 oa ht1 => ?_⟩
    refine ⟨_, rfl, _, rfl, _, rfl, a, s, n, n, 2000 * i + 201, rfl, f3, by omega, by omega, by omega, fun t2 H4 bs sb4 f4 ob ht2 => ?_⟩
    have ht1 := Dp.tk (f3.tk sb4) _ _ (tabD_tup _ _) ht1
    refine ⟨_, _, rfl, ?_⟩
    refine ⟨_, rfl, _, rfl, a, s, n, 6, 2000 * i + 401, rfl, f4, by omega, by omega, by omega, fun u1 H5 ds sb5 f5 ok1 l1 hu1 => ?_⟩
    have ht1 := Dp.tk (f4.tk sb5) _ _ (tabD_tup _ _) ht1
    have ht2 := Dp.tk (f4.tk sb5) _ _ (tabD_tup _ _) ht2
    refine ⟨_, rfl, a, s, _, 2000 * i + 601, rfl, f5, by omega, by decide, by decide, fun r1 H6 r10 r11 sb6 f6 => ⟨_, _, rfl, rfl, ?_⟩⟩
    refine ⟨_, rfl, a, s, _, 2000 * i + 602, rfl, f6, by omega, by decide, by decide, fun r2 H7 r20 r21 sb7 f7 => ⟨_, _, rfl, rfl, ?_⟩⟩
    refine ⟨_, rfl, a, s, _, 2000 * i + 603, rfl, f7, by omega, by decide, by decide, fun r3 H8 r30 r31 sb8 f8 => ⟨_, _, rfl, rfl, ?_⟩⟩
    obtain ⟨m, em, hm1, hm3⟩ := plus1 (k := 3) r10 r11
    obtain ⟨mid, emid, hmid1, hmid3⟩ := plus1 (k := 3) r20 r21
    obtain ⟨wd, ewd, hwd1, hwd3⟩ := plus1 (k := 3) r30 r31
    dsimp only
    rw [em, emid, ewd]
    have sb58 := (sb6.trans sb7).trans sb8
    have ht1 := Dp.tk (f5.tk sb58) _ _ (tabD_tup _ _) ht1
    have ht2 := Dp.tk (f5.tk sb58) _ _ (tabD_tup _ _) ht2
    have hu1 := Dp.tk (f5.tk sb58) _ _ (deedsD_tup _) hu1
    refine ⟨_, _, _, rfl, ?_⟩
    refine ⟨_, rfl, _, rfl, _, rfl, a, s, m, mid, 2000 * i + 604, rfl, f8, by omega, by omega, by omega, fun t3 H9 cs sb9 f9 oc ht3 => ?_⟩
    refine ⟨_, rfl, _, rfl, _, rfl, a, s, mid, wd, 2000 * i + 804, rfl, f9, by omega, by omega, by omega, fun t4 H10 es sb10 f10 oe ht4 => ?_⟩
    have ht3 := Dp.tk (f9.tk sb10) _ _ (tabD_tup _ _) ht3
    refine ⟨_, _, rfl, ?_⟩
    refine ⟨_, rfl, _, rfl, a, s, m, 6, 2000 * i + 1004, rfl, f10, by omega, by omega, by omega, fun u2 H11 fs sb11 f11 ok2 l2 hu2 => ?_⟩
    have ht3 := Dp.tk (f10.tk sb11) _ _ (tabD_tup _ _) ht3
    have ht4 := Dp.tk (f10.tk sb11) _ _ (tabD_tup _ _) ht4
    have sb811 := (sb9.trans sb10).trans sb11
    have ht1 := Dp.tk (f8.tk sb811) _ _ (tabD_tup _ _) ht1
    have ht2 := Dp.tk (f8.tk sb811) _ _ (tabD_tup _ _) ht2
    have hu1 := Dp.tk (f8.tk sb811) _ _ (deedsD_tup _) hu1
    have sb011 := ((((sb0.trans sb2).trans sb3).trans sb4).trans sb5).trans (sb58.trans sb811)
    have sk := sh_kept6 (by omega) (by omega) (by omega) (by omega) oa ob oc oe ok1 ok2 (by omega) (by omega)
    obtain ⟨S1, hS1⟩ : ∃ S1, (kept6 n as bs ds mid wd cs es fs).shown = S1 := ⟨_, rfl⟩
    refine ⟨_, rfl, _, rfl, _, rfl, _, rfl, _, rfl, _, rfl, by show 6 ≤ sizeLine; decide, fun p12 np12 => ?_⟩
    obtain ⟨H12, xH12, e12, h12⟩ := tup_new (K := K) np12 (.cons ht1 (.cons ht2 (.cons hu1 (.cons ht3 (.cons ht4 (.cons hu2 .nil))))))
    rw [xH12]
    have h12 : Dp K H12 (.ref p12) (kept6 n as bs ds mid wd cs es fs) := h12
    try dsimp only [tC, tNil]
    refine reprD h12 sk (by decide) (by decide) hS1 ?_
    have f12 := f11.same e12
    refine ⟨fun σ' H' => σ' = [some (.ref sc), some (.ref a), some (.int (0 + (i : Int))), some (.int n), some t1, some t2, some u1, some (.int m), some (.int mid), some (.int wd), some t3, some t4, some u2, some (.str S1), v14] ∧ Same H11 H', ?_, ?_⟩
    · refine ⟨_, rfl, _, rfl, _, rfl, t1, t2, u1, n, as, bs, ds, rfl, Dp.same e12 _ _ ht1, Dp.same e12 _ _ ht2, Dp.same e12 _ _ hu1, oa, ob, ok1, l1, hn1, hn4, fun H13 e13 => ?_⟩
      refine ⟨_, rfl, iteF ?_⟩
      have e1213 := e12.trans e13
      refine ⟨_, rfl, _, rfl, _, rfl, t3, t4, u2, m, mid, wd, cs, es, fs, rfl, Dp.same e1213 _ _ ht3, Dp.same e1213 _ _ ht4, Dp.same e1213 _ _ hu2, oc, oe, ok2, l2, hm1, hm3, hmid1, hmid3, hwd3, fun H14 e14 => ?_⟩
      exact ⟨_, rfl, iteF ⟨rfl, e1213.trans e14⟩⟩
    · rintro σ' H13 ⟨rfl, e13⟩
      refine ⟨_, rfl, _, rfl, _, rfl, _, rfl, _, rfl, _, rfl, by show 6 ≤ sizeLine; decide, fun p14 np14 => ?_⟩
      obtain ⟨H14, xH14, e14, h14⟩ := tup_new (K := K) np14 (.cons (Dp.same e13 _ _ ht1) (.cons (Dp.same e13 _ _ ht2) (.cons (Dp.same e13 _ _ hu1) (.cons (Dp.same e13 _ _ ht3) (.cons (Dp.same e13 _ _ ht4) (.cons (Dp.same e13 _ _ hu2) .nil))))))
      rw [xH14]
      have h14 : Dp K H14 (.ref p14) (kept6 n as bs ds mid wd cs es fs) := h14
      try dsimp only [tC, tNil]
      refine reprD h14 sk (by decide) (by decide) hS1 ?_
      refine ⟨_, rfl, rfl, _, rfl, ?_⟩
      refine iteNS rfl ⟨⟨_, _, _, _, _, _, _, _, _, _, _, _, _, rfl⟩, ?_, ?_⟩
      · exact (f11.same (e13.trans e14)).mono (by omega)
      · exact sb011.trans (Sb.of (e13.trans e14))
  · rintro σ H' ⟨⟨v2, v3, v4, v5, v6, v7, v8, v9, v10, v11, v12, v13, v14, rfl⟩, f0, sb0⟩
    have hS' := sql_sb hS na e1 sb0
    refine ⟨_, rfl, _, rfl, sc, _, rfl, hS', fun p1 np1 => ?_⟩
    obtain ⟨ms, ems, hms⟩ := cut_ints ns none (some 63)
    rw [ems]
    refine ⟨p1, _, rfl, SqL.of upd_same, fun p2 np2 => ?_⟩
    rw [← List.map_reverse]
    refine ⟨p2, ms.reverse, rfl, SqL.of upd_same, by rw [List.length_reverse]; omega, fun a2 s2 H2 na2 ns2 e2 f2 => ?_⟩
    obtain ⟨qs, p, l, c, ha, hs, hl2, hp, hc, hcn⟩ := f2
    have nsa : s2 ≠ a2 := ne_of hs ha ref_ints
    refine ⟨_, rfl, a2, _, 3, 3, rfl, rfl, ha, rfl, ?_⟩
    have f3 : Fd (upd H2 a2 (.lst [.ref s2, .int p, .int l, .int 500])) a2 s2 500 := ⟨qs, p, l, 500, upd_same, by rw [upd_ne nsa]; exact hs, hl2, hp, by decide, by decide⟩
    exact ⟨_, rfl, a2, s2, 500, rfl, f3, by decide, fun H' => k H'⟩
def d_is_number : He.DefD := ⟨("is_number", none), "is_number", "is_number", defArgs s_is_number, defBody s_is_number, defScope s_is_number, [], []⟩
def d_unit : He.DefD := ⟨("unit", none), "unit", "unit", defArgs s_unit, defBody s_unit, defScope s_unit, [], []⟩
def d_unit_row : He.DefD := ⟨("unit_row", none), "unit_row", "unit_row", defArgs s_unit_row, defBody s_unit_row, defScope s_unit_row, [], []⟩
def d_row_sum : He.DefD := ⟨("row_sum", none), "row_sum", "row_sum", defArgs s_row_sum, defBody s_row_sum, defScope s_row_sum, [], []⟩
def d_row_scaled : He.DefD := ⟨("row_scaled", none), "row_scaled", "row_scaled", defArgs s_row_scaled, defBody s_row_scaled, defScope s_row_scaled, [], []⟩
def d_row_times : He.DefD := ⟨("row_times", none), "row_times", "row_times", defArgs s_row_times, defBody s_row_times, defScope s_row_times, [], []⟩
def d_times : He.DefD := ⟨("times", none), "times", "times", defArgs s_times, defBody s_times, defScope s_times, [], []⟩
def d_turned_over : He.DefD := ⟨("turned_over", none), "turned_over", "turned_over", defArgs s_turned_over, defBody s_turned_over, defScope s_turned_over, [], []⟩
def d_choices : He.DefD := ⟨("choices", none), "choices", "choices", defArgs s_choices, defBody s_choices, defScope s_choices, [], []⟩
def d_without : He.DefD := ⟨("without", none), "without", "without", defArgs s_without, defBody s_without, defScope s_without, [], []⟩
def d_corner_by_first_row : He.DefD := ⟨("corner_by_first_row", none), "corner_by_first_row", "corner_by_first_row", defArgs s_corner_by_first_row, defBody s_corner_by_first_row, defScope s_corner_by_first_row, [], []⟩
def d_corners_by_columns : He.DefD := ⟨("corners_by_columns", none), "corners_by_columns", "corners_by_columns", defArgs s_corners_by_columns, defBody s_corners_by_columns, defScope s_corners_by_columns, [], []⟩
def d_corner_of : He.DefD := ⟨("corner_of", none), "corner_of", "corner_of", defArgs s_corner_of, defBody s_corner_of, defScope s_corner_of, [], []⟩
def d_corners_of : He.DefD := ⟨("corners_of", none), "corners_of", "corners_of", defArgs s_corners_of, defBody s_corners_of, defScope s_corners_of, [], []⟩
def d_is_row_number : He.DefD := ⟨("is_row_number", none), "is_row_number", "is_row_number", defArgs s_is_row_number, defBody s_is_row_number, defScope s_is_row_number, [], []⟩
def d_are_two_rows : He.DefD := ⟨("are_two_rows", none), "are_two_rows", "are_two_rows", defArgs s_are_two_rows, defBody s_are_two_rows, defScope s_are_two_rows, [], []⟩
def d_is_deed : He.DefD := ⟨("is_deed", none), "is_deed", "is_deed", defArgs s_is_deed, defBody s_is_deed, defScope s_is_deed, [], []⟩
def d_refuse_other_than_deeds : He.DefD := ⟨("refuse_other_than_deeds", none), "refuse_other_than_deeds", "refuse_other_than_deeds", defArgs s_refuse_other_than_deeds, defBody s_refuse_other_than_deeds, defScope s_refuse_other_than_deeds, [], []⟩
def d_do_deed : He.DefD := ⟨("do_deed", none), "do_deed", "do_deed", defArgs s_do_deed, defBody s_do_deed, defScope s_do_deed, [], []⟩
def d_done : He.DefD := ⟨("done", none), "done", "done", defArgs s_done, defBody s_done, defScope s_done, [], []⟩
def d_deeds_table : He.DefD := ⟨("deeds_table", none), "deeds_table", "deeds_table", defArgs s_deeds_table, defBody s_deeds_table, defScope s_deeds_table, [], []⟩
def d_l_feed : He.DefD := ⟨("_law_feed", none), "_law_feed", "_law_feed", defArgs s_l_feed, defBody s_l_feed, defScope s_l_feed, [], []⟩
def d_l_draw : He.DefD := ⟨("_law_draw", none), "_law_draw", "_law_draw", defArgs s_l_draw, defBody s_l_draw, defScope s_l_draw, [], []⟩
def d_l_number : He.DefD := ⟨("_law_number", none), "_law_number", "_law_number", defArgs s_l_number, defBody s_l_number, defScope s_l_number, [], []⟩
def d_l_rows : He.DefD := ⟨("_law_rows", none), "_law_rows", "_law_rows", defArgs s_l_rows, defBody s_l_rows, defScope s_l_rows, [], []⟩
def d_l_table : He.DefD := ⟨("_law_table", none), "_law_table", "_law_table", defArgs s_l_table, defBody s_l_table, defScope s_l_table, [], []⟩
def d_l_deed : He.DefD := ⟨("_law_deed", none), "_law_deed", "_law_deed", defArgs s_l_deed, defBody s_l_deed, defScope s_l_deed, [], []⟩
def d_l_deeds : He.DefD := ⟨("_law_deeds", none), "_law_deeds", "_law_deeds", defArgs s_l_deeds, defBody s_l_deeds, defScope s_l_deeds, [], []⟩
def d_l_common : He.DefD := ⟨("_law_common", none), "_law_common", "_law_common", defArgs s_l_common, defBody s_l_common, defScope s_l_common, [], []⟩
def d_l_many : He.DefD := ⟨("_law_many", none), "_law_many", "_law_many", defArgs s_l_many, defBody s_l_many, defScope s_l_many, [], []⟩
def d_l_square_right : He.DefD := ⟨("_law_square_right", none), "_law_square_right", "_law_square_right", defArgs s_l_square_right, defBody s_l_square_right, defScope s_l_square_right, [], []⟩
def d_l_sums : He.DefD := ⟨("_law_sums", none), "_law_sums", "_law_sums", defArgs s_l_sums, defBody s_l_sums, defScope s_l_sums, [], []⟩
def d_l_parts_right : He.DefD := ⟨("_law_parts_right", none), "_law_parts_right", "_law_parts_right", defArgs s_l_parts_right, defBody s_l_parts_right, defScope s_l_parts_right, [], []⟩
def d_l_signed : He.DefD := ⟨("_law_signed", none), "_law_signed", "_law_signed", defArgs s_l_signed, defBody s_l_signed, defScope s_l_signed, [], []⟩
def d_l_more_right : He.DefD := ⟨("_law_more_right", none), "_law_more_right", "_law_more_right", defArgs s_l_more_right, defBody s_l_more_right, defScope s_l_more_right, [], []⟩
def d_law : He.DefD := ⟨("law", none), "law", "law", defArgs s_law, defBody s_law, defScope s_law, [], []⟩
def fnL : List He.DefD := [d_is_number, d_unit, d_unit_row, d_row_sum, d_row_scaled, d_row_times, d_times, d_turned_over, d_choices, d_without, d_corner_by_first_row, d_corners_by_columns, d_corner_of, d_corners_of, d_is_row_number, d_are_two_rows, d_is_deed, d_refuse_other_than_deeds, d_do_deed, d_done, d_deeds_table, d_l_feed, d_l_draw, d_l_number, d_l_rows, d_l_table, d_l_deed, d_l_deeds, d_l_common, d_l_many, d_l_square_right, d_l_sums, d_l_parts_right, d_l_signed, d_l_more_right, d_law]
def faL : List He.Fa := [.glo "is_number", .glo "unit", .glo "unit_row", .glo "row_sum", .glo "row_scaled", .glo "row_times", .glo "times", .glo "turned_over", .glo "choices", .glo "without", .glo "corner_by_first_row", .glo "corners_by_columns", .glo "corner_of", .glo "corners_of", .glo "is_row_number", .glo "are_two_rows", .glo "is_deed", .glo "refuse_other_than_deeds", .glo "do_deed", .glo "done", .glo "deeds_table", .glo "_law_feed", .glo "_law_draw", .glo "_law_number", .glo "_law_rows", .glo "_law_table", .glo "_law_deed", .glo "_law_deeds", .glo "_law_common", .glo "_law_many", .glo "_law_square_right", .glo "_law_sums", .glo "_law_parts_right", .glo "_law_signed", .glo "_law_more_right", .glo "law", .free "isinstance", .free "int", .free "bool", .free "tuple", .free "range", .free "zip", .free "sum", .free "len", .free "enumerate", .free "list", .free "abs", .free "repr"]
abbrev Rw : PySem.W.OpenRow := PySem.W.OpenLaw.row PySem.Challenge.rw_stepforms_k14_whole_corners
abbrev hk : PySem.W.Hook := He.hookD 4 faL fnL
def ob (s : PySem.W.SharedT) : He.AlD := He.obsDG 4 faL fnL (HandSHeadRun.getT s)
theorem ob_eq (s : PySem.W.SharedT) : ob s = hk.obs s.abs := He.obsDG_eq (HandSHeadRun.getT_eq s)
abbrev loose : List Str := (["FormError", "NoDeed", "is_number", "unit", "unit_row", "row_sum", "row_scaled", "row_times", "times", "turned_over", "choices", "without", "corner_by_first_row", "corners_by_columns", "corner_of", "corners_of", "is_row_number", "are_two_rows", "is_deed", "refuse_other_than_deeds", "do_deed", "done", "deeds_table", "_law_feed", "_law_draw", "_law_number", "_law_rows", "_law_table", "_law_deed", "_law_deeds"] : List Str) ++ (["_law_common", "_law_many", "_law_square_right", "_law_sums", "_law_parts_right", "_law_signed", "_law_more_right"] : List Str)
theorem run (w : World) : HandSHeadRun.RunEq Rw (PySem.W.view Rw.prog [43]) hk ob 2000 loose w := by
  intro os
  kernel_rfl
theorem facts {P : Program} {w : World} {K : PySem.W.Frag} {h : Heap} {mg : Str → Option Value} {f : Addr}
    (X : K.In h) (G : h.Ns mainGlobals mg) (hfa : mg ("law" : Str) = some (.ref f)) (c : He.SaysD faL fnL K) :
    ∃ fd : FuncData, (∀ (s : Shared) (v : Value), BindsTo s fd ⟨[v], []⟩ [("_law_script", v)]) ∧
      ∀ base : Heap, K.In base → base.Ns mainGlobals mg →
        FnG P w K mg base 9 f fd ["_law_script"] (spLaw K) := by
  obtain ⟨fd0, F0⟩ := c.def_ 0 (d := d_is_number) rfl
  have D0 : Df K mg "is_number" s_is_number := ⟨_, _, F0, He.glo_ok X G (c.fact 0 (f := .glo "is_number") rfl)⟩
  obtain ⟨fd1, F1⟩ := c.def_ 1 (d := d_unit) rfl
  have D1 : Df K mg "unit" s_unit := ⟨_, _, F1, He.glo_ok X G (c.fact 1 (f := .glo "unit") rfl)⟩
  obtain ⟨fd2, F2⟩ := c.def_ 2 (d := d_unit_row) rfl
  have D2 : Df K mg "unit_row" s_unit_row := ⟨_, _, F2, He.glo_ok X G (c.fact 2 (f := .glo "unit_row") rfl)⟩
  obtain ⟨fd3, F3⟩ := c.def_ 3 (d := d_row_sum) rfl
  have D3 : Df K mg "row_sum" s_row_sum := ⟨_, _, F3, He.glo_ok X G (c.fact 3 (f := .glo "row_sum") rfl)⟩
  obtain ⟨fd4, F4⟩ := c.def_ 4 (d := d_row_scaled) rfl
  have D4 : Df K mg "row_scaled" s_row_scaled := ⟨_, _, F4, He.glo_ok X G (c.fact 4 (f := .glo "row_scaled") rfl)⟩
  obtain ⟨fd5, F5⟩ := c.def_ 5 (d := d_row_times) rfl
  have D5 : Df K mg "row_times" s_row_times := ⟨_, _, F5, He.glo_ok X G (c.fact 5 (f := .glo "row_times") rfl)⟩
  obtain ⟨fd6, F6⟩ := c.def_ 6 (d := d_times) rfl
  have D6 : Df K mg "times" s_times := ⟨_, _, F6, He.glo_ok X G (c.fact 6 (f := .glo "times") rfl)⟩
  obtain ⟨fd7, F7⟩ := c.def_ 7 (d := d_turned_over) rfl
  have D7 : Df K mg "turned_over" s_turned_over := ⟨_, _, F7, He.glo_ok X G (c.fact 7 (f := .glo "turned_over") rfl)⟩
  obtain ⟨fd8, F8⟩ := c.def_ 8 (d := d_choices) rfl
  have D8 : Df K mg "choices" s_choices := ⟨_, _, F8, He.glo_ok X G (c.fact 8 (f := .glo "choices") rfl)⟩
  obtain ⟨fd9, F9⟩ := c.def_ 9 (d := d_without) rfl
  have D9 : Df K mg "without" s_without := ⟨_, _, F9, He.glo_ok X G (c.fact 9 (f := .glo "without") rfl)⟩
  obtain ⟨fd10, F10⟩ := c.def_ 10 (d := d_corner_by_first_row) rfl
  have D10 : Df K mg "corner_by_first_row" s_corner_by_first_row := ⟨_, _, F10, He.glo_ok X G (c.fact 10 (f := .glo "corner_by_first_row") rfl)⟩
  obtain ⟨fd11, F11⟩ := c.def_ 11 (d := d_corners_by_columns) rfl
  have D11 : Df K mg "corners_by_columns" s_corners_by_columns := ⟨_, _, F11, He.glo_ok X G (c.fact 11 (f := .glo "corners_by_columns") rfl)⟩
  obtain ⟨fd12, F12⟩ := c.def_ 12 (d := d_corner_of) rfl
  have D12 : Df K mg "corner_of" s_corner_of := ⟨_, _, F12, He.glo_ok X G (c.fact 12 (f := .glo "corner_of") rfl)⟩
  obtain ⟨fd13, F13⟩ := c.def_ 13 (d := d_corners_of) rfl
  have D13 : Df K mg "corners_of" s_corners_of := ⟨_, _, F13, He.glo_ok X G (c.fact 13 (f := .glo "corners_of") rfl)⟩
  obtain ⟨fd14, F14⟩ := c.def_ 14 (d := d_is_row_number) rfl
  have D14 : Df K mg "is_row_number" s_is_row_number := ⟨_, _, F14, He.glo_ok X G (c.fact 14 (f := .glo "is_row_number") rfl)⟩
  obtain ⟨fd15, F15⟩ := c.def_ 15 (d := d_are_two_rows) rfl
  have D15 : Df K mg "are_two_rows" s_are_two_rows := ⟨_, _, F15, He.glo_ok X G (c.fact 15 (f := .glo "are_two_rows") rfl)⟩
  obtain ⟨fd16, F16⟩ := c.def_ 16 (d := d_is_deed) rfl
  have D16 : Df K mg "is_deed" s_is_deed := ⟨_, _, F16, He.glo_ok X G (c.fact 16 (f := .glo "is_deed") rfl)⟩
  obtain ⟨fd17, F17⟩ := c.def_ 17 (d := d_refuse_other_than_deeds) rfl
  have D17 : Df K mg "refuse_other_than_deeds" s_refuse_other_than_deeds := ⟨_, _, F17, He.glo_ok X G (c.fact 17 (f := .glo "refuse_other_than_deeds") rfl)⟩
  obtain ⟨fd18, F18⟩ := c.def_ 18 (d := d_do_deed) rfl
  have D18 : Df K mg "do_deed" s_do_deed := ⟨_, _, F18, He.glo_ok X G (c.fact 18 (f := .glo "do_deed") rfl)⟩
  obtain ⟨fd19, F19⟩ := c.def_ 19 (d := d_done) rfl
  have D19 : Df K mg "done" s_done := ⟨_, _, F19, He.glo_ok X G (c.fact 19 (f := .glo "done") rfl)⟩
  obtain ⟨fd20, F20⟩ := c.def_ 20 (d := d_deeds_table) rfl
  have D20 : Df K mg "deeds_table" s_deeds_table := ⟨_, _, F20, He.glo_ok X G (c.fact 20 (f := .glo "deeds_table") rfl)⟩
  obtain ⟨fd21, F21⟩ := c.def_ 21 (d := d_l_feed) rfl
  have D21 : Df K mg "_law_feed" s_l_feed := ⟨_, _, F21, He.glo_ok X G (c.fact 21 (f := .glo "_law_feed") rfl)⟩
  obtain ⟨fd22, F22⟩ := c.def_ 22 (d := d_l_draw) rfl
  have D22 : Df K mg "_law_draw" s_l_draw := ⟨_, _, F22, He.glo_ok X G (c.fact 22 (f := .glo "_law_draw") rfl)⟩
  obtain ⟨fd23, F23⟩ := c.def_ 23 (d := d_l_number) rfl
  have D23 : Df K mg "_law_number" s_l_number := ⟨_, _, F23, He.glo_ok X G (c.fact 23 (f := .glo "_law_number") rfl)⟩
  obtain ⟨fd24, F24⟩ := c.def_ 24 (d := d_l_rows) rfl
  have D24 : Df K mg "_law_rows" s_l_rows := ⟨_, _, F24, He.glo_ok X G (c.fact 24 (f := .glo "_law_rows") rfl)⟩
  obtain ⟨fd25, F25⟩ := c.def_ 25 (d := d_l_table) rfl
  have D25 : Df K mg "_law_table" s_l_table := ⟨_, _, F25, He.glo_ok X G (c.fact 25 (f := .glo "_law_table") rfl)⟩
  obtain ⟨fd26, F26⟩ := c.def_ 26 (d := d_l_deed) rfl
  have D26 : Df K mg "_law_deed" s_l_deed := ⟨_, _, F26, He.glo_ok X G (c.fact 26 (f := .glo "_law_deed") rfl)⟩
  obtain ⟨fd27, F27⟩ := c.def_ 27 (d := d_l_deeds) rfl
  have D27 : Df K mg "_law_deeds" s_l_deeds := ⟨_, _, F27, He.glo_ok X G (c.fact 27 (f := .glo "_law_deeds") rfl)⟩
  obtain ⟨fd28, F28⟩ := c.def_ 28 (d := d_l_common) rfl
  have D28 : Df K mg "_law_common" s_l_common := ⟨_, _, F28, He.glo_ok X G (c.fact 28 (f := .glo "_law_common") rfl)⟩
  obtain ⟨fd29, F29⟩ := c.def_ 29 (d := d_l_many) rfl
  have D29 : Df K mg "_law_many" s_l_many := ⟨_, _, F29, He.glo_ok X G (c.fact 29 (f := .glo "_law_many") rfl)⟩
  obtain ⟨fd30, F30⟩ := c.def_ 30 (d := d_l_square_right) rfl
  have D30 : Df K mg "_law_square_right" s_l_square_right := ⟨_, _, F30, He.glo_ok X G (c.fact 30 (f := .glo "_law_square_right") rfl)⟩
  obtain ⟨fd31, F31⟩ := c.def_ 31 (d := d_l_sums) rfl
  have D31 : Df K mg "_law_sums" s_l_sums := ⟨_, _, F31, He.glo_ok X G (c.fact 31 (f := .glo "_law_sums") rfl)⟩
  obtain ⟨fd32, F32⟩ := c.def_ 32 (d := d_l_parts_right) rfl
  have D32 : Df K mg "_law_parts_right" s_l_parts_right := ⟨_, _, F32, He.glo_ok X G (c.fact 32 (f := .glo "_law_parts_right") rfl)⟩
  obtain ⟨fd33, F33⟩ := c.def_ 33 (d := d_l_signed) rfl
  have D33 : Df K mg "_law_signed" s_l_signed := ⟨_, _, F33, He.glo_ok X G (c.fact 33 (f := .glo "_law_signed") rfl)⟩
  obtain ⟨fd34, F34⟩ := c.def_ 34 (d := d_l_more_right) rfl
  have D34 : Df K mg "_law_more_right" s_l_more_right := ⟨_, _, F34, He.glo_ok X G (c.fact 34 (f := .glo "_law_more_right") rfl)⟩
  obtain ⟨fd35, F35⟩ := c.def_ 35 (d := d_law) rfl
  have D35 : Df K mg "law" s_law := ⟨_, _, F35, He.glo_ok X G (c.fact 35 (f := .glo "law") rfl)⟩
  have B : Bn mg := ⟨He.free_ok X G (c.fact 36 (f := .free "isinstance") rfl), He.free_ok X G (c.fact 37 (f := .free "int") rfl), He.free_ok X G (c.fact 38 (f := .free "bool") rfl), He.free_ok X G (c.fact 39 (f := .free "tuple") rfl), He.free_ok X G (c.fact 40 (f := .free "range") rfl), He.free_ok X G (c.fact 41 (f := .free "zip") rfl), He.free_ok X G (c.fact 42 (f := .free "sum") rfl), He.free_ok X G (c.fact 43 (f := .free "len") rfl), He.free_ok X G (c.fact 44 (f := .free "enumerate") rfl), He.free_ok X G (c.fact 45 (f := .free "list") rfl), He.free_ok X G (c.fact 46 (f := .free "abs") rfl), He.free_ok X G (c.fact 47 (f := .free "repr") rfl)⟩
  have e := hfa.symm.trans (He.glo_ok X G (c.fact 35 (f := .glo "law") rfl))
  cases e
  have b := FunD.bindsA (ps := ["_law_script"]) F35 fun _ _ _ _ _ _ us hl => match us, hl with | [_], _ => rfl
  refine ⟨fd35, fun s v => b s [v] rfl, fun base _ _ => ?_⟩
  have H0 := ok_is_number (P := P) (w := w) (base := base) D0 B
  have H2 := ok_unit_row (P := P) (w := w) (base := base) D2 B
  have H3 := ok_row_sum (P := P) (w := w) (base := base) D3 B
  have H4 := ok_row_scaled (P := P) (w := w) (base := base) D4 B
  have H5 := ok_row_times (P := P) (w := w) (base := base) D5 B
  have H7 := ok_turned_over (P := P) (w := w) (base := base) D7 B
  have H8 := ok_choices (P := P) (w := w) (base := base) D8 B
  have H9 := ok_without (P := P) (w := w) (base := base) D9 B
  have H21 := ok_l_feed (P := P) (w := w) (base := base) D21 B
  have H22 := ok_l_draw (P := P) (w := w) (base := base) D22 B
  have H28 := ok_l_common (P := P) (w := w) (base := base) D28 B
  have H29 := ok_l_many (P := P) (w := w) (base := base) D29 B
  have H33 := ok_l_signed (P := P) (w := w) (base := base) D33 B
  have H1 := ok_unit (P := P) (w := w) (base := base) D1 B (h_unit_row := H2)
  have H6 := ok_times (P := P) (w := w) (base := base) D6 B (h_row_times := H5)
  have H10 := ok_corner_by_first_row (P := P) (w := w) (base := base) D10 B (h_without := H9)
  have H14 := ok_is_row_number (P := P) (w := w) (base := base) D14 B (h_is_number := H0)
  have H18 := ok_do_deed (P := P) (w := w) (base := base) D18 B (h_row_scaled := H4) (h_row_sum := H3)
  have H23 := ok_l_number (P := P) (w := w) (base := base) D23 B (h_l_draw := H22)
  have H11 := ok_corners_by_columns (P := P) (w := w) (base := base) D11 B (h_corner_by_first_row := H10) (h_choices := H8)
  have H15 := ok_are_two_rows (P := P) (w := w) (base := base) D15 B (h_is_row_number := H14)
  have H24 := ok_l_rows (P := P) (w := w) (base := base) D24 B (h_l_draw := H22) (h_l_number := H23)
  have H26 := ok_l_deed (P := P) (w := w) (base := base) D26 B (h_l_draw := H22) (h_l_number := H23)
  have H12 := ok_corner_of (P := P) (w := w) (base := base) D12 B (h_corners_by_columns := H11)
  have H13 := ok_corners_of (P := P) (w := w) (base := base) D13 B (h_choices := H8) (h_corners_by_columns := H11)
  have H16 := ok_is_deed (P := P) (w := w) (base := base) D16 B (h_are_two_rows := H15) (h_is_row_number := H14) (h_is_number := H0)
  have H25 := ok_l_table (P := P) (w := w) (base := base) D25 B (h_l_rows := H24)
  have H27 := ok_l_deeds (P := P) (w := w) (base := base) D27 B (h_l_deed := H26) (h_l_draw := H22)
  have H17 := ok_refuse_other_than_deeds (P := P) (w := w) (base := base) D17 B (h_is_deed := H16)
  have H31 := ok_l_sums (P := P) (w := w) (base := base) D31 B (h_corners_of := H13) (h_l_many := H29)
  have H19 := ok_done (P := P) (w := w) (base := base) D19 B (h_refuse_other_than_deeds := H17) (h_do_deed := H18)
  have H20 := ok_deeds_table (P := P) (w := w) (base := base) D20 B (h_done := H19) (h_unit := H1)
  have H30 := ok_l_square_right (P := P) (w := w) (base := base) D30 B (h_corner_of := H12) (h_corners_of := H13) (h_times := H6) (h_turned_over := H7) (h_done := H19)
  have H32 := ok_l_parts_right (P := P) (w := w) (base := base) D32 B (h_times := H6) (h_corners_of := H13) (h_l_sums := H31) (h_l_common := H28) (h_done := H19)
  have H34 := ok_l_more_right (P := P) (w := w) (base := base) D34 B (h_l_draw := H22) (h_l_deeds := H27) (h_deeds_table := H20) (h_corner_of := H12) (h_l_signed := H33) (h_times := H6) (h_turned_over := H7)
  exact ok_law F35 B (h_l_feed := H21) (h_l_more_right := H34) (h_l_deeds := H27) (h_l_draw := H22) (h_l_table := H25) (h_l_square_right := H30) (h_l_parts_right := H32)
end K14
open PySem PySem.W PySem.Calls PyProof.Rows
set_option maxRecDepth 100000 in
set_option maxHeartbeats 0 in
theorem PySem.Challenge.cw_stepforms_k14_whole_corners_holds : PySem.Challenge.rw_stepforms_k14_whole_corners.Holds := by
  w_on; o_law
  refine HandSHeadRun.head_any (r := OpenLaw.row PySem.Challenge.rw_stepforms_k14_whole_corners)
    (q := view (OpenLaw.row PySem.Challenge.rw_stepforms_k14_whole_corners).prog [43]) (H := K14.hk) (ob := K14.ob)
    (M := 2000) (loose := K14.loose) (d := HandSHeadRun.topDef (OpenLaw.row PySem.Challenge.rw_stepforms_k14_whole_corners).prog 43)
    (kwd := []) K14.ob_eq (by kernel_rfl) (fun s => by kernel_rfl) K14.run (by kernel_rfl) (by kernel_rfl)
    (by kernel_rfl) (by rfl) (by first | assumption | decide +kernel) (by decide +kernel)
    ⟨rfl, rfl, rfl, rfl, rfl, by decide +kernel⟩ ?hw ?hc
  case hw => w_witness2
  case hc =>
    refine Gd.walkG (l := PySem.Challenge.rw_stepforms_k14_whole_corners) (n := 63) (k := 9) (x := "_law_script") rfl
      (by decide) (by kernel_rfl) ⟨rfl, by decide, by decide⟩ ?F
    intro w mg fa h Y G hmg0
    obtain ⟨K, KX, c⟩ := Y
    have hmg : mg ("law" : PySem.Str) = some (.ref fa) := by
      have e : (HandSHeadRun.topDef (OpenLaw.row PySem.Challenge.rw_stepforms_k14_whole_corners).prog 43).name = ("law" : PySem.Str) := by
        kernel_rfl
      rw [← e]
      exact hmg0
    obtain ⟨fd, hb, hF⟩ := K14.facts (P := (PySem.Challenge.rw_stepforms_k14_whole_corners).prog) (w := w) KX G hmg c
    exact ⟨K, fd, K14.spLaw K, KX, hb,
      fun H a ns hl _ hS => ⟨a, ns, rfl, hS, hl, fun _ => rfl⟩, hF⟩
