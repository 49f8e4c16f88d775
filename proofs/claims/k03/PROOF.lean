import PyProof.Rows.All
import Wide.All
import OpenK.AllK
import Wide.FinOn
import PyProof.EqAt
import PyProof.EqKinds
import PyProof.TupleCall
import HandS.ForMost
import HandS.ForExc
import HandS.IsInst
import HandS.Walk
import HandS.Strs
import PyProof.StrBlock2
import HandS.StrMore
import HandS.Star
import PyProof.CollectStr
import PySem.Challenge.RW_seenrules_k03_first_other_words
set_option Elab.async false
set_option maxRecDepth 100000
namespace Bxs
open PySem L2
def top (i : Nat) : Stmt := PySem.Challenge.pw_seenrules_k03_first_other_words.main.body.getD i (.Pass ⟨0, 0, 0, 0⟩)
abbrev sIsWord : Stmt := top 9
abbrev sIsL : Stmt := top 10
abbrev sAre : Stmt := top 11
abbrev sFirst : Stmt := top 12
abbrev sCell : Stmt := top 14
abbrev sBox : Stmt := top 15
abbrev sTake : Stmt := top 16
abbrev sWords : Stmt := top 17
abbrev sRanked : Stmt := top 18
abbrev sMixed : Stmt := top 19
abbrev sList : Stmt := top 20
abbrev sCaught : Stmt := top 21
abbrev sRefused : Stmt := top 22
abbrev sLaw : Stmt := top 23
abbrev sInit : Stmt := inClass (top 4) 0
end Bxs
/-! ### repr of data, where no repr is under way; the promise of a def there -/
namespace Rp
open PySem PySem.Spec PyProof.Rows L2
theorem reprR {X : Cx} (hg : X.A.guards = some []) (hu : X.A.units + 64 < cLine) : CallR X (.builtin "repr") (fun xs H Q => ∃ (a : Addr) (d : PyData),
    xs = [.ref a] ∧ Dp X.K H (.ref a) d ∧ d.showable = true ∧ d.hasDict = false ∧ d.depth ≤ 60 ∧ d.shown.length ≤ sizeLine ∧ Q (.str d.shown) H) := by
  intro pins s σ H xs us Q I r h
  obtain ⟨a, d, rfl, hd, hs, hn, hdp, hz, q⟩ := h
  obtain ⟨u, rfl, ru⟩ := vals1 r
  obtain rfl : u = Value.ref a := ru
  obtain ⟨as, rd⟩ := Dp.reads I d _ _ hd rfl
  exact repr_of_reads' rd hs (fun z => by rw [hn] at z; cases z) hg (by omega) (fun _ _ e => e) (fun h' u tk hk => ⟨.str d.shown, H, I.kept hk, ⟨_, rfl⟩, q⟩) hz

/-- as FnOk, asked only where no repr is under way -/
structure FnG (P : Program) (w : World) (K : PySem.W.Frag) (mg : Str → Option Value) (base : Heap) (k : Nat) (f : Addr) (fd : FuncData) (ps : List Str) (sp : Sp) : Prop where
  many : ∀ vs H Q E, sp vs H Q E → vs.length = ps.length
  go : ∀ (A : Around) (outer : List Env) (s : Shared) (H : Hp) (args : Args) (us : List Value) (vs : List V) (Q : VK) (E : XK),
    A.guards = some [] → Room k A → Env0 P w K mg base A outer s H → BindsTo s fd args (ps.zip us) → Vals vs us → sp vs H Q E →
      codeAny (model P w) A (.call (.ref f) args) (CR CX0 outer P w H s Q E) s

theorem fnG {P : Program} {w : World} {K : PySem.W.Frag} {mg : Str → Option Value} {base : Heap} {x qual : Str} {st : Stmt} {f : Addr} {fd : FuncData} {N ps : List Str} {k : Nat} {sp : Sp}
    (F : Fun K x qual st f fd) (S : FnScope N ps (defScope st)) (many : ∀ vs H Q E, sp vs H Q E → vs.length = ps.length)
    (body : ∀ (cdv : Value) (A : Around) (outer : List Env) (s : Shared) (H : Hp) (vs : List V) (Q : VK) (E : XK), A.guards = some [] →
      Room k (A.deeper (envOfC qual (defScope st) s.heap.objs.size f cdv)) → sp vs H Q E →
      ∃ t, PSs (cxOf CX0 P w K mg base N qual (defScope st) f cdv A outer s H E).nox (defBody st) t ∧ t { nx := fun _ H' => Q .non H', rt := Q } (start N vs) H) :
    FnG P w K mg base (k + 1) f fd ps sp := by
  obtain ⟨oc, od, kV, doc, pm, an, cdv, ct, osl, rfl, lk, hcd⟩ := F.ex
  constructor
  · exact many
  intro A outer s H args us vs Q E hg hr e0 hb r hsp
  have keepB : ∀ b o, base.get? b = some o → s.heap.get? b = some o := fun b o e => (e0.bs b o e).1
  have KX := e0.mod.kin.keeps keepB
  have lim := e0.mod.nolimit.keeps keepB
  have kinds : ∀ y ∈ ps.zip us, (defScope st).names.lookup y.1 = some .local ∨
      ((defScope st).names.lookup y.1 = some .cell ∧ ((cellsFrom (s.heap.objs.size + 1) (defScope st).names []).lookup y.1).isSome = true) := by
    rintro ⟨n, v⟩ hy
    cases S.par n (List.of_mem_zip hy).1 with
    | inl q => exact Or.inl q
    | inr q => exact Or.inr ⟨q, PySem.W.cellsFrom_some _ _ _ (Or.inl q)⟩
  apply codeAny_call_function hr.depth (KX _ _ lk) rfl S.co S.gen rfl (PySem.W.codeRec_of KX hcd)
  apply hb
  refine wpAny_newFunctionEnv_cells S.kind kinds ?_
  intro env he s1 x
  subst he
  refine ⟨lim.keeps x.toInCall.keep, codeAny_func ?_⟩
  obtain ⟨t, ht, hq⟩ := body cdv A outer s H vs Q E hg (hr.deeper _) hsp
  have I := inv_start (CX := CX0) (E := E) (w := w) (P := P) (cd := cdv) S hr.hd e0 (many _ _ _ _ hsp) r x
  refine wpAny_mono (ht.nox.run [] s1 (start N vs) H _ I hq) ?_ (fun e s' hs => hs)
  intro fl s' hs
  cases fl
  case ret u =>
    obtain ⟨v, _, H', J, rv, q⟩ := hs
    exact ⟨v, H', J.os, J.bare, J.base, J.hok, rv, q⟩
  case next =>
    obtain ⟨_, H', J, q⟩ := hs
    exact ⟨.non, H', J.os, J.bare, J.base, J.hok, rfl, q⟩
  all_goals
    obtain ⟨_, _, _, q⟩ := hs
    exact q.elim
end Rp
/-! ### the end of a law whose def asks repr -/
namespace Rp
open PySem PySem.Spec PyProof.Rows L2
section
variable {P : Program} {w : World} {K : PySem.W.Frag} {mg mb : Str → Option Value} {k : Nat} {fa a : Addr} {fd : FuncData} {x : Str} {sp : Sp} {s₁ : Shared} {vs : List Value} {ns : List Int}
/-- what the heap says of a dict's object lies outside of H, where only the script may be -/
theorem not_script {H : Hp} {b : Addr} {o : Obj} {es : Array DictEntry} {ep : Nat} (ha : s₁.heap.get? a = some { cls := .type "list", data := .seq vs.toArray })
    (only : ∀ c, H c ≠ none → c = a) (e : s₁.heap.get? b = some o) (hd : o.data = .dict es ep) : H b = none := by
  rcases hq : H b with _ | u
  · rfl
  · have hba := only b (by simp [hq])
    rw [hba, ha] at e
    injection e with e
    rw [← e] at hd
    exact absurd hd (by simp)

theorem lawCore (H : Hp) (KX : K.In s₁.heap) (hns : s₁.heap.Ns mainGlobals mg) (hb : s₁.heap.Ns builtinsNs mb)
    (hbb : ∀ x : Str, x ≠ "__name__" → mb x = bootBuiltins x) (hlim : s₁.heap.NoLimit) (hg : s₁.gens = #[])
    (ha : s₁.heap.get? a = some { cls := .type "list", data := .seq vs.toArray }) (hr : Room k callerA)
    (F : ∀ base : Heap, K.In base → base.Ns mainGlobals mg → FnG P w K mg base k fa fd [x] sp)
    (hbind : ∀ (s : Shared) (u : Value), BindsTo s fd ⟨[u], []⟩ [(x, u)])
    (hsp : sp [.ref a] H (fun v _ => v = .bl true) fun _ _ _ => False)
    (hO : Only H) (hok : HOk P w H s₁.heap) (only : ∀ c, H c ≠ none → c = a) (hK : H a ≠ none → K.lookup a = none) :
    codeAny (model P w) callerA (.call (.ref fa) ⟨[.ref a], []⟩)
      (fun r s' => r = .ok (.ret (.bool true)) ∧ OldK s₁.heap s'.heap ∧ s'.os = s₁.os ∧ AllBare s'.gens) s₁ := by
  have stays : ∀ {b : Addr} {o : Obj}, s₁.heap.get? b = some o → H b = none → (hidT s₁.heap H).get? b = some o := fun e n => hidT_get e n
  have names : ∀ {b : Addr} {m : Str → Option Value}, s₁.heap.Ns b m → (hidT s₁.heap H).Ns b m := by
    rintro b m ⟨o, es, ep, e, d, r⟩
    exact ⟨o, es, ep, stays e (not_script ha only e d), d, r⟩
  have KB : K.In (hidT s₁.heap H) := by
    intro b o e
    refine stays (KX b o e) ?_
    rcases hq : H b with _ | u
    · rfl
    · have hba := only b (by simp [hq])
      subst hba
      rw [hK (by simp [hq])] at e
      exact absurd e (by simp)
  obtain ⟨mc, l1, l2⟩ := hlim
  have M : Mod K mg (hidT s₁.heap H) := ⟨KB, names hns, ⟨mb, names hb, hbb⟩, ⟨mc, names l1, l2⟩⟩
  have env : Env0 P w K mg (hidT s₁.heap H) callerA [] s₁ H :=
    ⟨rfl, M, fun b o e => of_hidT e, Nat.le_of_eq (hidT_size _ _), trivial, fun b hb => (by cases hb), hok, AllBare.of_eq hg⟩
  have run := (F _ KB (names hns)).go callerA [] s₁ H ⟨[.ref a], []⟩ [.ref a] [.ref a] _ _ rfl hr env (hbind s₁ (.ref a)) (.cons rfl .nil) hsp
  refine codeAny_mono run ?_
  rintro (e | fl) s' h
  · exact h.elim
  · cases fl
    case ret u =>
      obtain ⟨v, H', os, bare, un, hok', rv, q⟩ := h
      obtain rfl : v = .bl true := q
      obtain rfl : u = Value.bool true := rv
      refine ⟨rfl, OldK.of_keep ?_, os, bare⟩
      intro b o e
      rcases hq : H b with _ | u
      · exact un.keep b o e hq (fun z => by cases z) (by simp)
      · rcases hO b with z | ⟨ob, xs, z⟩
        · rw [hq] at z
          cases z
        · have z2 := un.frzs b ob _ z
          obtain ⟨e1, _⟩ := hok b _ z
          obtain ⟨e2, _⟩ := hok' b _ z2
          rw [e] at e1
          injection e1 with e1
          rw [e1]
          exact e2
    all_goals exact False.elim h

theorem lawG (KX : K.In s₁.heap) (hns : s₁.heap.Ns mainGlobals mg) (hb : s₁.heap.Ns builtinsNs mb)
    (hbb : ∀ x : Str, x ≠ "__name__" → mb x = bootBuiltins x) (hlim : s₁.heap.NoLimit) (hg : s₁.gens = #[])
    (ha : s₁.heap.get? a = some { cls := .type "list", data := .seq vs.toArray }) (hi : IntsAre vs ns) (hl : ns.length ≤ sizeLine) (hr : Room k callerA)
    (F : ∀ base : Heap, K.In base → base.Ns mainGlobals mg → FnG P w K mg base k fa fd [x] sp)
    (hbind : ∀ (s : Shared) (u : Value), BindsTo s fd ⟨[u], []⟩ [(x, u)])
    (hsp : ∀ H : Hp, Only H → SqL K H a (ns.map V.int) → sp [.ref a] H (fun v _ => v = .bl true) fun _ _ _ => False) :
    codeAny (model P w) callerA (.call (.ref fa) ⟨[.ref a], []⟩)
      (fun r s' => r = .ok (.ret (.bool true)) ∧ OldK s₁.heap s'.heap ∧ s'.os = s₁.os ∧ AllBare s'.gens) s₁ := by
  have rv := vals_ints hi
  have lenV := hi.length
  rcases hk : K.lookup a with _ | o
  · let S : HO := .frz { cls := .type "list", data := .seq vs.toArray } (.lst (ns.map V.int))
    let H : Hp := fun b => if b = a then some S else none
    have Ha : H a = some S := if_pos rfl
    have Hn : ∀ b, b ≠ a → H b = none := fun b n => if_neg n
    have onlyH : Only H := by
      intro b
      by_cases n : b = a
      · subst n
        exact .inr ⟨_, _, Ha⟩
      · exact .inl (Hn b n)
    have okH : HOk P w H s₁.heap := by
      intro b u z
      by_cases n : b = a
      · subst n
        rw [Ha] at z
        injection z with z
        subst z
        exact ⟨ha, by rw [List.length_map]; exact hl, vs, _, rv, ha⟩
      · rw [Hn b n] at z
        cases z
    refine lawCore H KX hns hb hbb hlim hg ha hr F hbind (hsp H onlyH (.inl (.inr ⟨_, Ha⟩))) onlyH okH (fun c n => ?_) fun _ => hk
    by_cases m : c = a
    · exact m
    · exact absurd (Hn c m) n
  · have e := KX a o hk
    rw [ha] at e
    injection e with e
    subst e
    have sq : SqL K (fun _ => none) a (ns.map V.int) := .inr ⟨_, vs.toArray, _, hk, rfl, rfl, rfl, by rw [List.size_toArray, lenV]; exact hl, by simpa using rv⟩
    exact lawCore (fun _ => none) KX hns hb hbb hlim hg ha hr F hbind (hsp _ (fun _ => .inl rfl) sq) (fun _ => .inl rfl) (fun b u z => by cases z) (fun c n => absurd rfl n) fun n => absurd rfl n

theorem walkG {l : PySem.W.OpenLaw} {n : Nat} {q : Program} {loose : List Str} {XP : (Str → Option Value) → Heap → Prop} {YP : World → Heap → Prop} {d : DefRec} {K : Params → PySem.W.Frag} {sp : PySem.W.Frag → Sp}
    (hn : l.most = some n) (hn2 : n ≤ sizeLine) (hdf : d.params.defaults = []) (hr : Room k callerA) (hY : ∀ (w : World) (h : Heap), YP w h → (K w.params).In h)
    (F : ∀ (w : World) (mg : Str → Option Value) (fa : Addr) (h : Heap), (K w.params).In h → h.Ns mainGlobals mg → mg d.name = some (.ref fa) →
      ∃ fd : FuncData, (∀ (s : Shared) (u : Value), BindsTo s fd ⟨[u], []⟩ [(x, u)]) ∧
        ∀ base : Heap, (K w.params).In base → base.Ns mainGlobals mg → FnG l.prog w (K w.params) mg base k fa fd [x] (sp (K w.params)))
    (hsp : ∀ (K : PySem.W.Frag) (H : Hp) (a : Addr) (ns : List Int), ns.length ≤ n → Only H → SqL K H a (ns.map V.int) → sp K [.ref a] H (fun v _ => v = .bl true) fun _ _ _ => False) :
    PySem.W.WalkO q loose XP YP l.row.toRowW d [] (fun f vs => PySem.call f vs) := by
  apply Att.attach_call hn hdf
  intro w s₀ s₁ mg mb fa o pm cd doc a vs ns G Y ho hd hcd hmg hobj hints hlen hg
  obtain ⟨fd, hb, hF⟩ := F w mg fa _ (hY w _ Y) G.T.g hmg
  exact lawG (hY w _ Y) G.T.g G.T.b G.T.builtins G.T.nolimit hg hobj hints (Nat.le_trans hlen hn2) hr hF hb fun H hO hS => hsp _ H a ns hlen hO hS
end
end Rp
namespace PySem
namespace ValX
open PySem.W PySem.Calls PyProof.Rows PySem.HandSPX
/-! ### the text of __init__ -/
def iA (p1 p2 : Pos) : Arguments := { posonlyargs := [], args := [{ arg := "self", annotation := none, pos := p1 }, { arg := "value", annotation := none, pos := p2 }], vararg := none, kwonlyargs := [], kw_defaults := [], kwarg := none, defaults := [] }
def iB (q1 q2 q3 q4 : Pos) : List Stmt := [.Assign [.Attribute (.Name "self" q1) "value" q2] (.Name "value" q3) q4]
def iS : Scope := { kind := .function, names := [(PySem.Str.ofString "self", .local), (PySem.Str.ofString "value", .local)], isGenerator := false, isCoroutine := false, more := [] }
/-- what the written part says of Low, at C, and of its __init__, at fI -/
structure ValTxt (x q : Str) (K : Frag) (mg : Str → Option Value) (C fI : Addr) : Prop where
  gC : mg x = some (.ref C)
  cls : ∃ nm qn N bs bm sn sub ab col dd k0 k1 k2 k3 k5, K.lookup C = some (excClassObj nm qn C N bs bm true sn sub ab col dd k0 k1 k2 k3 k5 "ValueError.__new__") ∧ refsVE bm = true
  sa : findIn K (.ref C) "__setattr__" = some (some (.builtin "object.__setattr__"))
  ga : findIn K (.ref C) "__getattribute__" = some (some (.builtin "BaseException.__getattribute__"))
  gg : findIn K (.ref C) "__getattr__" = some none
  noN : findIn K (.ref C) "value" = some none
  iC : findIn K (.ref C) "__init__" = some (some (.ref fI))
  tC : typeIn K (.ref fI) = some (.type "function")
  kC : keepIn K (.ref C) = true
  exC : subIn K (.ref C) (.type "BaseException") = some true
  tyC : typeIn K (.ref C) = some (.type "type")
  hdC : hasDictIn K C = true
  te : exmOne K (.ref C) (.ref C) = some true
  fn : ∃ (oc : Value) (od : Option Addr) (doc pm : Value) (an : Option Addr) (cdv ct : Value) (osl : Array (Option Value)) (p1 p2 q1 q2 q3 q4 : Pos),
    K.lookup fI = some ⟨oc, od, .func (fnOf "__init__" q (iA p1 p2) (iB q1 q2 q3 q4) iS .none .none doc pm an cdv ct), osl⟩ ∧ codeIn K cdv q = true
theorem one_size (v : Value) : [v].length ≤ sizeLine := by
  rw [sizeLine_eq]
  exact (by decide : 1 ≤ 16777216)
theorem kept_but {K : Frag} {h h' : Heap} {x : Addr} (X : K.In h) (hx : K.lookup x = none) (k : ∀ b o, b ≠ x → h.get? b = some o → h'.get? b = some o) : K.In h' := fun a o e =>
  k a o (fun z => by rw [z, hx] at e; cases e) (X a o e)
theorem ldC {M : Model} {s : Shared} {name : Str} {scope : Scope} {L a : Addr} {cd : Value} {m : Str → Option Value} {x : Str} {pos : Pos} {v : Value} {Q : Value → Shared → Prop} {A : Around} {E : Value → Shared → Prop} (hn : s.heap.Ns L m) (hv : m x = some v) (h : Q v s)
    (hk : scope.kind = .function := by rfl) (hl : (envOfC name scope L a cd).kindOf x = some .local := by rfl) (hd : (x == ("__debug__" : Str)) = false := by decide) :
    wpAny M A (eval (.Name x pos) (envOfC name scope L a cd)) Q E s := wpAny_Name (wpAny_loadName_local hk hl hn hv h) hd
/-- what __init__ leaves of a fresh exception at x -/
structure InitEnd (h h' : Heap) (x C dx t1 : Addr) (v : Value) : Prop where
  keep : ∀ b o, b ≠ x → h.get? b = some o → h'.get? b = some o
  obj : h'.get? x = some { cls := .ref C, dict := some dx, data := .fields #[.ref t1, .none, .none, .none, .bool false, .none] }
  dbig : h.objs.size ≤ dx
  dne : dx ≠ x
  ns : h'.Ns1 dx (fun y => if y = "value" then some v else none)
/-- a made Low -/
structure OwnMade (h h' : Heap) (e C d : Addr) (v : Value) : Prop where
  keep : ∀ b o, h.get? b = some o → h'.get? b = some o
  new : h.objs.size ≤ e
  obj : ∃ oe vs, h'.get? e = some oe ∧ oe.cls = .ref C ∧ oe.dict = some d ∧ oe.data = .fields vs ∧ vs[1]? = some .none
  dbig : h.objs.size ≤ d
  dne : d ≠ e
  ns : h'.Ns1 d (fun y => if y = "value" then some v else none)
section
variable {prog : Program} {w : World} {A : Around} {E : Value → Shared → Prop} {R : Result → Shared → Prop} {s : Shared} {K : Frag} {mg : Str → Option Value} {C fI : Addr}
theorem low_init {xn qi : Str} (T : ValTxt xn qi K mg C fI) {x t0 : Addr} {v : Value} (X : K.In s.heap) (hlim : s.heap.NoLimit) (hx : s.heap.get? x = some (excO C t0)) (hnx : K.lookup x = none) (hroom : A.depth < recursionLimit)
    (hq : ∀ h' tk dx, InitEnd s.heap h' x C dx t0 v → R (.ok (.ret .none)) { s with heap := h', toks := tk }) :
    codeAny (model prog w) A (.call (.ref fI) ⟨[.ref x, v], []⟩) R s := by
  obtain ⟨oc, od, doc, pm, an, cdv, ct, osl, p1, p2, q1, q2, q3, q4, ho, hcd⟩ := T.fn
  obtain ⟨nm, qn, N, bs, bm, sn, sub, ab, col, dd, k0, k1, k2, k3, k5, hC, hbm⟩ := T.cls
  have hcl : clsIn K C = some { name := nm, bases := bs, mro := .ref C :: bm, ns := N, qualname := qn, hasDict := true, slotNames := sn, subclasses := sub, abstract := ab, collection := col, hasDel := false } := by unfold clsIn; rw [hC] <;> rfl
  refine Att.call_fn (binds := [("self", .ref x), ("value", v)]) X hlim ho hcd hroom (BindsTo.of_eq (by first | rfl | with_unfolding_all rfl)) (by first | rfl | decide | with_unfolding_all rfl) (fun s₁ IC => ?_) rfl rfl rfl
  obtain ⟨h₁, tk₁, rfl⟩ := IC.toInCall.same
  have k : ∀ b o, s.heap.get? b = some o → h₁.get? b = some o := IC.toInCall.keep
  have hn := IC.toInCall.ns
  have hxL : s.heap.objs.size ≠ x := Nat.ne_of_gt (Heap.lt_size hx)
  have X₁ : K.In h₁ := X.keeps k
  have hx₁ := k _ _ hx
  -- self.by = by
  show wpAny _ _ (execs _ _) _ _ _
  refine wpAny_execs_cons (plainObj_wpAny_Assign_Attribute ?_)
  refine ldC (v := v) hn (by first | rfl | with_unfolding_all rfl | kernel_rfl) (ldC (v := .ref x) hn (by first | rfl | with_unfolding_all rfl | kernel_rfl) ?_)
  refine set_plain X₁ (ox := excO C t0) (od := none) ⟨hx₁, rfl, rfl, trivial⟩ T.sa ?_
  refine exc_osa X₁ hx₁ hcl (show refsVE (.ref C :: bm) = true from hbm) rfl T.noN (fun h₃ tk₃ dx k₃ dn dne hx₃ hn₃ => ?_)
  show wpAny _ _ (execs _ _) _ _ _
  have z : s.heap.objs.size < h₁.objs.size := hn.lt
  exact wpAny_execs_nil (hq h₃ tk₃ dx ⟨fun b o hb e => k₃ b o hb (k b o e), hx₃, Nat.le_of_lt (Nat.lt_of_lt_of_le z dn), dne, hn₃⟩)
theorem low_made {xn qi : Str} (T : ValTxt xn qi K mg C fI) {v : Value} (X : K.In s.heap) (hlim : s.heap.NoLimit) (hroom : A.depth + 1 < recursionLimit)
    (hq : ∀ h' tk e d, OwnMade s.heap h' e C d v → R (.ok (.ret (.ref e))) { s with heap := h', toks := tk }) :
    codeAny (model prog w) A (.call (.ref C) ⟨[v], []⟩) R s := by
  obtain ⟨nm, qn, N, bs, bm, sn, sub, ab, col, dd, k0, k1, k2, k3, k5, hC, hbm⟩ := T.cls
  obtain ⟨hp, g, dr, tk, os⟩ := s
  have k : ∀ b o, hp.get? b = some o → ((hp.push (kdv_tup [v])).push (excO C hp.objs.size)).get? b = some o := fun b o e => Heap.get?_push_of_some _ (Heap.get?_push_of_some _ e)
  have hget : ((hp.push (kdv_tup [v])).push (excO C hp.objs.size)).get? (hp.objs.size + 1) = some (excO C hp.objs.size) := by heap_get
  have hnx : K.lookup (hp.objs.size + 1) = none := by
    cases e : K.lookup (hp.objs.size + 1) with
    | none => rfl
    | some o =>
      have z : hp.get? (hp.objs.size + 1) = some o := X _ _ e
      exact absurd (Nat.lt_of_succ_lt (Heap.lt_size z)) (Nat.lt_irrefl _)
  refine call_own F.excBase_ValueError (fun X => refsVE_contains X bm hbm) (X _ _ hC) (looks_findIn X T.iC) (fun self => bind_fn X self T.tC) (one_size v) ?_
  refine low_init (s := ⟨(hp.push (kdv_tup [v])).push (excO C hp.objs.size), g, dr, tk, os⟩) T (X.keeps k) (hlim.keeps k) hget hnx ?_ fun h' tk' dx ⟨k', hx, dn, dne, hns⟩ => ?_
  · show A.depth + 1 < recursionLimit
    exact hroom
  · have old : ∀ b o, hp.get? b = some o → h'.get? b = some o := fun b o e => k' b o (Nat.ne_of_lt (Nat.lt_succ_of_lt (Heap.lt_size e))) (k b o e)
    have z : hp.objs.size + 1 + 1 ≤ dx := by
      first
        | (simpa only [Heap.size_push] using dn)
        | exact dn
        | (have q := dn; rw [Heap.size_push, Heap.size_push] at q; exact q)
    exact ⟨rfl, hq h' tk' (hp.objs.size + 1) dx ⟨old, Nat.le_succ _, ⟨_, _, hx, rfl, rfl, rfl, rfl⟩, Nat.le_trans (Nat.le_trans (Nat.le_succ _) (Nat.le_succ _)) z, dne, hns⟩⟩
end
end ValX
end PySem
namespace L2
open PySem PySem.Spec PyProof.Rows
theorem relO_low {v : V} {v' : Value} (r : RelV v v') (f : Str) : RelO (List.lookup f [(("value" : Str), v)]) (if f = "value" then some v' else none) := by
  by_cases hw : f = "value"
  · subst hw
    rw [if_pos rfl]
    have q : List.lookup ("value" : Str) [(("value" : Str), v)] = some v := by simp [List.lookup]
    rw [q]
    exact r
  · rw [if_neg hw]
    have qw : (f == ("value" : Str)) = false := by simpa using hw
    have q2 : List.lookup f [(("value" : Str), v)] = none := by simp [List.lookup, qw]
    rw [q2]
    trivial
section
variable {X : Cx} {C fI : Addr}
/-- Low(e) -/
def tMkLow (C : Addr) (ta : TA) : St → Hp → XK → Prop := fun σ H Q => ta σ H fun vs H1 => ∃ v, vs = [v] ∧ ∀ d, H1 d = none → Q (.ref C) (some d) (upd H1 d (.xd [(("value" : Str), v)]))
theorem pmk_low {xn qi : Str} {a : Expr} {ta : TA} {p pos : Pos} {k : Nat} (T : PySem.ValX.ValTxt xn qi X.K X.mg C fI) (hr : Room k X.A) (ha : PA X [a] ta) (hg : Gl X xn := by rfl) (hdb : (xn == ("__debug__" : Str)) = false := by decide)
    (he : starEach (a :: []) X.env = (false, eval a X.env) :: starEach [] X.env := by rfl) (hpl : (backTo pos (starEach [] X.env)).any (·.1) = false := by rfl) :
    PMk X (.Call (.Name xn p) [a] [] pos) (tMkLow C ta) := by
  intro pins s σ H Q I h
  refine wpAny_Call_Name_kw (ld_glob I hg T.gC ?_ hdb)
  refine PySem.W.callWith_K (h₀ := X.base) I.ok.mod.kin T.kC (thn (ha.run pos pins s σ H _ I h) fun us s1 hh => ?_) he hpl
  obtain ⟨vs, H1, I1, r1, v, ev, q1⟩ := hh
  subst ev
  refine ⟨I1.kIn, ?_⟩
  cases r1 with
  | cons rv rn =>
    rename_i v' us'
    cases rn
    show wpAny _ _ (call (.ref C) [v']) _ _ _
    have hlim := I1.nolimit
    obtain ⟨hp, g, dr, tk, os⟩ := s1
    refine wpAny_call (PySem.ValX.low_made T I1.kIn hlim (by have := hr.dp; omega) fun h' tk' e d M => ?_)
    show MkP X pins σ Q (.ref e) ⟨h', g, dr, tk', os⟩
    obtain ⟨oe, fv, hoe, hc, hd, hdat, h1⟩ := M.obj
    have hns := M.ns
    obtain ⟨G', g1, g2⟩ := restrict h' fun b => decide (b ≠ e)
    have gk : ∀ b, b ≠ e → G'.get? b = h'.get? b := fun b hb => g1 b (decide_eq_true hb)
    have ge : G'.get? e = none := g2 e (by simp)
    have old : ∀ b o, hp.get? b = some o → G'.get? b = some o := fun b o q => (gk b (Nat.ne_of_lt (Nat.lt_of_lt_of_le (Heap.lt_size q) M.new))).trans (M.keep b o q)
    have ob : ObjOk X.prog X.w (upd H1 d (.xd [(("value" : Str), v)])) G' d (.xd [(("value" : Str), v)]) :=
      ⟨_, hns.at (fun o q => (gk d M.dne).trans q), fun f => relO_low rv f⟩
    have J : Inv X pins σ (upd H1 d (.xd [(("value" : Str), v)])) ⟨G', g, dr, tk', os⟩ := I1.laid (t' := tk') old M.dbig ob
    refine ⟨e, oe, fv, ⟨G', g, dr, tk', os⟩, _, .ref C, some d, rfl, J, fun b o q => ?_, ge, hoe, ⟨hc, hd⟩, hdat, h1, ?_, rfl, I1.bare, raises_own T.exC T.tyC, q1 d (I1.hok.fresh M.dbig)⟩
    · by_cases hb : b = e
      · have q' : G'.get? b = some o := q
        rw [hb, ge] at q'; cases q'
      · exact (gk b hb).symm.trans q
    · rw [upd_ne (Ne.symm M.dne)]
      exact I1.hok.fresh M.new
/-- raise Low(e) -/
def tRaiseLow (C : Addr) (W : WX) (ta : TA) : TS := fun _ σ H => tMkLow C ta σ H fun cls d H' => W cls d σ H'
theorem ps_raiseLow {xn qi : Str} {a : Expr} {ta : TA} {W : WX} {p pos pos2 : Pos} {k : Nat} (hc : X.calm = true) (T : PySem.ValX.ValTxt xn qi X.K X.mg C fI) (hr : Room k X.A) (tk : Takes X W) (ha : PA X [a] ta) (hg : Gl X xn := by rfl) (hdb : (xn == ("__debug__" : Str)) = false := by decide)
    (he : starEach (a :: []) X.env = (false, eval a X.env) :: starEach [] X.env := by rfl) (hpl : (backTo pos (starEach [] X.env)).any (·.1) = false := by rfl) :
    PS X (.Raise (some (.Call (.Name xn p) [a] [] pos)) none pos2) (tRaiseLow C W ta) := ps_raise hc tk (pmk_low T hr ha hg hdb he hpl)
/-- low.by, low the exception that the suite holds (at a; its class cls, its dict d) -/
def tByLow (C : Addr) (a : Addr) (cls : Value) (d : Option Addr) (te : TE) : TE := fun σ H Q => te σ H fun x H1 => x = .ref a ∧ cls = .ref C ∧ ∃ (dd : Addr) (v : V), d = some dd ∧ H1 dd = some (.xd [(("value" : Str), v)]) ∧ Q v H1
theorem pe_byLow {xn qi : Str} {a : Addr} {oe : Obj} {cls : Value} {d : Option Addr} {pn : List (Addr × Obj)} {e : Expr} {te : TE} {pos : Pos} (T : PySem.ValX.ValTxt xn qi X.K X.mg C fI) (hz : Zc cls d oe) (hf : ∃ vs, oe.data = .fields vs) (he : PE (X.suite a ((a, oe) :: pn)) e te)
    (hb : attributeBase e "value" X.env (eval e X.env) = eval e X.env := by rfl) :
    PE (X.suite a ((a, oe) :: pn)) (.Attribute e "value" pos) (tByLow C a cls d te) := by
  refine ⟨fun pins s σ H Q I h => ?_⟩
  refine attr_of hb (thn (he.run pins s σ H _ I h) fun u s1 hh => ?_)
  obtain ⟨x, H1, I1, rx, ex, ec, dd, v, ed, ea, q⟩ := hh
  subst ex
  obtain rfl : u = Value.ref a := rx
  subst ec
  subst ed
  obtain ⟨ha, _⟩ := I1.pin (a, oe) (List.mem_append_left _ List.mem_cons_self)
  obtain ⟨vs, hd⟩ := hf
  have hx : ObjOk X.prog X.w H1 s1.heap dd (.xd [(("value" : Str), v)]) := I1.hok dd _ ea
  obtain ⟨mA, hns, hr⟩ := hx
  obtain ⟨od, ho, hl⟩ := lookIn_ns hns
  have l : List.lookup ("value" : Str) [(("value" : Str), v)] = some v := by simp [List.lookup]
  obtain ⟨u, hu, ru⟩ := RelO.some_of (v := v) (o := mA "value") (by rw [← l]; exact hr "value")
  have J : PySem.W.InstAt s1.heap a oe C (some od) := ⟨ha, hz.1, by unfold PySem.W.notCls; rw [hd] <;> rfl, by rw [hz.2]; exact ho⟩
  exact HandSPX.exc_get I1.kIn J T.ga T.gg T.exC (PySem.W.findObj_own T.hdC T.noN rfl (by rw [hl, hu])) (handed_of ru) ⟨v, H1, I1.tok _, ru, q⟩
end
end L2

/-! ### try .. except X as n: .. and further clauses, where every error of the body is X's -/
namespace Tf
open PySem PySem.Spec PyProof.Rows L2
/-- the first clause's wish: the error is its own -/
def wFirst (K : PySem.W.Frag) (c : Value) (i : Nat) (ts : Addr → Value → Option Addr → TS) (D : Ends) : WX := fun cls d σ H =>
  PySem.W.exmOne K cls c = some true ∧ ∀ a, H a = none →
    ts a cls d ⟨fun σ' H' => D.nx (σ'.set i none) H', D.rt, fun σ' H' => D.bk (σ'.set i none) H', fun σ' H' => D.ct (σ'.set i none) H'⟩ (σ.set i (some (.ref a))) H
theorem ps_first {X : Cx} {x n : Str} {c : Value} {i : Nat} {body suite : List Stmt} {b₀ : Stmt} {np pos pos' : Pos} {more : List ExceptHandler} {tb : WX → TS} {ts : Addr → Value → Option Addr → TS}
    (hs : X.stack = X.env :: X.outer) (hf : X.env.frame = some X.env.locals) (nodup : X.N.Nodup) (slot : X.N[i]? = some n) (loc : X.env.kindOf n = some .local) (hc : Names X x c)
    (hb : ∀ (W : WX) (pn : List (Addr × Obj)) (xe : Value → Shared → Prop), Takes (X.tr pn xe) W → PassesOwn (model X.prog X.w) X.A X.env xe → PSs (X.tr pn xe) body (tb W))
    (hsu : ∀ (a : Addr) (oe : Obj) (cls : Value) (d : Option Addr) (pn : List (Addr × Obj)), Zc cls d oe → (∃ vs, oe.data = .fields vs) →
      PSs (X.suite a ((a, oe) :: pn)) (b₀ :: suite) (ts a cls d)) :
    PS X (.Try body (.ExceptHandler (some (.Name x np)) (some n) (b₀ :: suite) pos' :: more) [] [] pos) (fun D σ H => tb (wFirst X.K c i ts D) D σ H) := by
  constructor
  intro pins s σ H D I h
  have ok := I.ok
  have frames : X.A.frames = some (X.env :: X.outer) := hs ▸ ok.frames
  apply wpAny_Try_except
  let hds : List ExceptHandler := .ExceptHandler (some (.Name x np)) (some n) (b₀ :: suite) pos' :: more
  let catch_ : Value → Shared → Prop := fun e s₁ =>
    wpAny (model X.prog X.w) X.A (noteFrame e X.env) (fun _ s₂ =>
      wpAny (model X.prog X.w) X.A (setFlight e none) (fun _ s₃ => wpAny (model X.prog X.w) X.A (handleBy e X.env hds) (SP X pins D) X.xe s₃) X.xe s₂) X.xe s₁
  have takes : Takes (X.tr (X.pn ++ pins) catch_) (wFirst X.K c i ts D) := by
    rintro u s' ⟨a, B, sI, pins', σ', H', cls, d, rfl, J', nb, up, sky, na, os, ag, caught, wish⟩
    have J : Inv X pins σ' H' sI := J'.ofTry ok
    have sky' : Sky B (X.env :: X.outer) a (Zc cls d) X.env.locals s'.heap := hs ▸ sky
    refine Sky.land Zc.steady frames hf sky' ?_
    intro h3 fl3 up3
    have J3 : Inv X pins σ' H' { s' with heap := h3 } := J.landed nb fl3.1 (up.trans up3) os ag
    obtain ⟨oe3, vs3, he3, hz3, hd3⟩ := fl3.there
    have notFrame : a ∉ frs (X.env :: X.outer) := by
      intro hm
      obtain ⟨_, o', e', hnf⟩ := (fl3.2.2.1).mem hm
      rw [he3] at e'
      injection e' with e'
      subst e'
      exact hnf _ hd3
    have nL : a ≠ X.env.locals := fun z => notFrame (List.mem_filterMap.mpr ⟨_, List.mem_cons_self, by rw [hf, z]⟩)
    have nF : a ∉ X.fs := by
      intro hm
      obtain ⟨e, he, q⟩ := List.mem_filterMap.mp hm
      exact notFrame (List.mem_filterMap.mpr ⟨e, List.mem_cons_of_mem _ he, q⟩)
    have S3 := J3.suite he3 hd3 na nL nF
    refine wpAny_handleBy_cons (codeAny_handlers_test ?_) (fun q => by cases q)
    have kind : PySem.W.Looks (model X.prog X.w) h3 (typeOf (.ref a)) cls := by
      intro A Q E s k q
      exact wpAny_typeOf_ref (k _ _ he3) (by rw [hz3.1]; exact q)
    have asked : ∀ {Q E : Value → Shared → Prop}, Q c { s' with heap := h3 } →
        wpAny (model X.prog X.w) (X.A.mark (some (.ref a))) (eval (.Name x np) X.env) Q E { s' with heap := h3 } := by
      intro Q E q
      obtain ⟨hg, hdbg, hm | ⟨hm, hv, hnn⟩⟩ := hc
      · exact ld_glob (X := X.suite a ((a, oe3) :: (X.pn ++ pins))) S3 hg hm q hdbg
      · exact ld_blt (X := X.suite a ((a, oe3) :: (X.pn ++ pins))) S3 hg hm hv q hnn hdbg
    refine asked ((PySem.W.exm_one (M := model X.prog X.w) J3.kIn kind caught).here ?_)
    refine codeAny_handlers_suite_as (HandSPX.lands_againZ fl3 ?_)
    intro h4 fl4 up4
    have J4 : Inv X pins σ' H' { s' with heap := h4 } := J.landed nb fl4.1 ((up.trans up3).trans up4) os ag
    obtain ⟨oe4, vs4, he4, hz4, hd4⟩ := fl4.there
    have S4 := J4.suite he4 hd4 na nL nF
    refine store_ok (X := X.suite a ((a, oe4) :: (X.pn ++ pins))) (v := .ref a) S4 nodup slot (.inl loc) rfl ?_ (.inr loc)
    intro s5 S5
    refine wpAny_mono ((hsu a oe4 cls d (X.pn ++ pins) hz4 ⟨_, hd4⟩).run [] s5 _ H' _ S5 (wish a na)) ?_ (fun _ _ z => z.elim)
    intro f s6 hsp
    have close : ∀ {σ6 : L2.St} {H6 : Hp} {Q : Shared → Prop}, Inv (X.suite a ((a, oe4) :: (X.pn ++ pins))) [] σ6 H6 s6 → (∀ s7, Inv X pins (σ6.set i none) H6 s7 → Q s7) →
        wpAny (model X.prog X.w) X.A (do bindName X.env n .none; unbindBehindTheSuite X.env n pos') (fun _ s7 => Q s7) X.xe s6 := by
      intro σ6 H6 Q S6 hq
      exact gone_ok (S6.unsuite ok) nodup slot loc hq
    cases f with
    | ret u =>
      obtain ⟨v6, σ6, H6, S6, r6, q6⟩ := hsp
      exact close S6 fun s7 J7 => ⟨v6, _, _, J7, r6, q6⟩
    | next =>
      obtain ⟨σ6, H6, S6, q6⟩ := hsp
      exact close S6 fun s7 J7 => ⟨_, H6, J7, q6⟩
    | brk =>
      obtain ⟨σ6, H6, S6, q6⟩ := hsp
      exact close S6 fun s7 J7 => ⟨_, H6, J7, q6⟩
    | cont =>
      obtain ⟨σ6, H6, S6, q6⟩ := hsp
      exact close S6 fun s7 J7 => ⟨_, H6, J7, q6⟩
  refine wpAny_mono ((hb (wFirst X.K c i ts D) (X.pn ++ pins) catch_ takes PassesOwn.looking).run [] s σ H D (I.toTry _) h) ?_ (fun e s1 he => he)
  intro f s1 hsp
  cases f with
  | ret u =>
    obtain ⟨v, σ1, H1, J1, r1, q1⟩ := hsp
    exact ⟨v, _, H1, J1.ofTry ok, r1, q1⟩
  | next =>
    obtain ⟨σ1, H1, J1, q1⟩ := hsp
    exact wpAny_execs_nil ⟨_, H1, J1.ofTry ok, q1⟩
  | brk =>
    obtain ⟨σ1, H1, J1, q1⟩ := hsp
    exact ⟨_, H1, J1.ofTry ok, q1⟩
  | cont =>
    obtain ⟨σ1, H1, J1, q1⟩ := hsp
    exact ⟨_, H1, J1.ofTry ok, q1⟩
end Tf
/-! ### repr of a list of a text and a small dict -/
namespace Rp
open PySem PySem.Spec PyProof.Rows L2
/-- a list shows its items, if no dict among them is sys.modules -/
theorem showsList {prog : Program} {w : World} {h₀ : Heap} {a : Addr} {o : Obj} {vs : Array Value} {n : Nat} {xs : List PyData} {as : List Addr} (h1 : h₀.get? a = some o) (h2 : o.cls = .type "list") (h3 : o.data = .seq vs n)
    (h4 : ReadsAll h₀ vs.toList xs as) (hs : PyData.showableAll xs = true) (hsm : PyData.hasDictAll xs = true → sysModules ∉ as) (hsz : (PyData.list xs).shown.length ≤ sizeLine) :
    ShowsBy prog w h₀ a (.list xs) "list" "list.__repr__" := by
  have hz : (listText (PyData.shownAll xs)).length ≤ sizeLine := by
    have := hsz
    simp only [PyData.shown] at this
    exact this
  have each : ∀ t ∈ PyData.shownAll xs, t.length ≤ sizeLine := fun t ht => Nat.le_trans (listText_mem_le ht) hz
  obtain ⟨bs, deep, items⟩ := ReprAllK.of_readsAll (prog := prog) (w := w) h4 hs hsm each
  have out : a ∉ bs := not_mem_of_deeper (.list h1 h2 h3 h4) (by rw [PyData.depth]; omega) deep
  constructor
  · exact F.slot_list_repr.toG
  · exact F.slot_list_str
  · exact F.slot_list_format
  · exact fun s hk => ⟨o, hk _ _ h1, h2⟩
  · intro A E s Q hg hu hk hQ
    rw [PyData.depth] at hu
    rw [PyData.shown] at hQ
    obtain ⟨l⟩ := vs
    rcases l with _ | ⟨x, l⟩
    · have h4' : ReadsAll h₀ [] xs as := h4
      cases h4'
      rw [PyData.shownAll, listText_nil] at hQ
      exact call_list_repr_empty ⟨o, hk _ _ h1, h2⟩ (hk _ _ h1) h3 (hQ s.heap _ _ (fun _ _ e => e))
    · refine call_list_reprK h1 h2 h3 out ?_ ?_ hg (fun b _ => Clear.nil b) hu hk hQ hz
      · simpa using items.length_eq
      · intro i y e
        exact items.item i y (by simpa using e)
/-- a dict of no entry, or of a text to an int -/
inductive Di : List (Key × V) → List (PyData × PyData) → Prop where
  | none : Di [] []
  | one (x : Str) (n : Int) : Di [(Sum.inr x, .int n)] [(.str x, .int n)]
theorem di_reads {X : Cx} {pins : List (Addr × Obj)} {σ : L2.St} {H : Hp} {s : Shared} {a : Addr} {kvs : List (Key × V)} {ds : List (PyData × PyData)} (I : Inv X pins σ H s) (e : H a = some (.dK kvs)) (d : Di kvs ds) :
    (a == sysModules) = false ∧ ∃ as, Reads s.heap (.ref a) (.dict ds) (a :: as) ∧ as = [] := by
  obtain ⟨_, hsys, vs, kv, o, es, ep, ho, hx, hd, _, hp, _⟩ := dk_of I.hok e
  refine ⟨hsys, [], ?_, rfl⟩
  cases d with
  | none =>
    cases kv
    have : es.toList = [] := by
      generalize es.toList = l at hp
      cases hp
      rfl
    exact Reads.dict (as := []) (bs := []) ho hx.1 hd (by rw [this]; exact .nil) (by rw [this]; exact .nil)
  | one x n =>
    cases kv with
    | @cons _ q _ _ r1 r2 =>
      cases r2
      obtain ⟨k, u⟩ := q
      obtain ⟨rk, ru⟩ := r1
      have rk' : Sum.inr x = k := rk
      subst rk'
      obtain ⟨t, ru'⟩ := ru
      have ru2 : u = .int n t := ru'
      subst ru2
      generalize hl : es.toList = l at hp
      cases hp with
      | cons h1 h2 h3 =>
        cases h3
        rename_i en
        have h1' : keyIs (Sum.inr x) en.key = true := h1
        rcases keyIs_shape h1' with ⟨i, t2, q, _⟩ | ⟨y, t2, q, ek⟩
        · cases q
        · injection q with q
          subst q
          refine Reads.dict (as := []) (bs := []) ho hx.1 hd ?_ ?_
          · rw [hl]
            show ReadsAll s.heap [en.key] [.str x] []
            rw [ek]
            exact .cons (as := []) (bs := []) (Reads.str x t2) .nil
          · rw [hl]
            show ReadsAll s.heap [en.val] [.int n] []
            rw [h2]
            exact .cons (as := []) (bs := []) (Reads.int n t) .nil
theorem reprTag {X : Cx} (hg : X.A.guards = some []) (hu : X.A.units + 64 < cLine) : CallR X (.builtin "repr") (fun xs H Q => ∃ (l a : Addr) (tag : Str) (kvs : List (Key × V)) (ds : List (PyData × PyData)),
    xs = [.ref l] ∧ H l = some (.lst [.str tag, .ref a]) ∧ H a = some (.dK kvs) ∧ Di kvs ds ∧ PyData.showableKv ds = true ∧ (PyData.list [.str tag, .dict ds]).depth ≤ 60 ∧ (PyData.list [.str tag, .dict ds]).shown.length ≤ sizeLine ∧
      Q (.str (PyData.list [.str tag, .dict ds]).shown) H) := by
  intro pins s σ H xs us Q I r h
  obtain ⟨l, a, tag, kvs, ds, rfl, hl, ha, hd, hs, hdp, hz, q⟩ := h
  obtain ⟨u, rfl, ru⟩ := vals1 r
  obtain rfl : u = Value.ref l := ru
  obtain ⟨its, rv, ⟨o, n, ho, hc, _, hdat⟩, _⟩ := I.list (SqL.of hl)
  obtain ⟨hsys, as, rd, rfl⟩ := di_reads I ha hd
  have rall : ReadsAll s.heap its.toArray.toList [.str tag, .dict ds] [a] := by
    cases rv with
    | cons r1 rv =>
      obtain ⟨t, rfl⟩ := r1
      cases rv with
      | cons r2 rv =>
        cases rv
        obtain rfl := (show _ = Value.ref a from r2)
        exact .cons (as := []) (bs := [a]) (Reads.str tag t) (.cons (as := [a]) (bs := []) rd .nil)
  have S := showsList (prog := X.prog) (w := X.w) ho hc hdat rall (by simp [PyData.showableAll, PyData.showable, hs]) (fun _ hm => by
    rw [List.mem_singleton] at hm
    rw [← hm] at hsys
    simp at hsys) hz
  refine call_repr_slot (by omega) (S.typeIs s fun _ _ e => e) S.slotRepr (S.call X.A.in1 _ s _ hg (by show X.A.units + 1 + _ < cLine; omega) (fun _ _ e => e) fun h' u tk hk => ⟨_, _, rfl, ?_⟩)
  exact ⟨.str _, H, I.kept hk, ⟨_, rfl⟩, q⟩
end Rp
namespace Bxs
open PySem L2
/-- the draws' box at p: three ints -/
def Bx (H : Hp) (p : Addr) : Prop := ∃ a b c : Int, H p = some (.lst [.int a, .int b, .int c])
/-- the box drawn from, all else as it was -/
def Tk (p : Addr) (H H' : Hp) : Prop := Bx H' p ∧ ∀ q, q ≠ p → H' q = H q
/-- the box drawn from, and new objects made -/
def Al (p : Addr) (H H' : Hp) : Prop := Bx H' p ∧ ∀ q o, q ≠ p → H q = some o → H' q = some o
theorem Tk.al {p : Addr} {H H' : Hp} (h : Tk p H H') : Al p H H' := ⟨h.1, fun q o n e => (h.2 q n).trans e⟩
theorem Al.refl {p : Addr} {H : Hp} (h : Bx H p) : Al p H H := ⟨h, fun _ _ _ e => e⟩
theorem Al.trans {p : Addr} {H H1 H2 : Hp} (a : Al p H H1) (b : Al p H1 H2) : Al p H H2 := ⟨b.1, fun q o n e => b.2 q o n (a.2 q o n e)⟩
theorem Bx.up {p q : Addr} {H : Hp} {o : HO} (h : Bx H p) (n : H q = none) : Bx (upd H q o) p := by
  obtain ⟨a, b, c, e⟩ := h
  exact ⟨a, b, c, by rw [upd_ne (ne_of_none e n)]; exact e⟩
theorem Al.up {p q : Addr} {H : Hp} {o : HO} (h : Bx H p) (n : H q = none) : Al p H (upd H q o) :=
  ⟨h.up n, fun r u _ e => by rw [upd_ne (ne_of_none e n)]; exact e⟩
theorem Al.get {p q : Addr} {H H' : Hp} {o : HO} (a : Al p H H') (e : H q = some o) (n : q ≠ p) : H' q = some o := a.2 q o n e
theorem Al.free {p q : Addr} {H H' : Hp} (a : Al p H H') (h : Bx H p) (e : H' q = none) : H q = none := by
  cases e1 : H q with
  | none => rfl
  | some o =>
    by_cases n : q = p
    · subst n
      obtain ⟨_, _, _, z⟩ := a.1
      rw [z] at e
      cases e
    · rw [a.2 q o n e1] at e
      cases e
theorem Bx.ne {p q : Addr} {H : Hp} (h : Bx H p) (n : H q = none) : p ≠ q := by
  obtain ⟨_, _, _, e⟩ := h
  exact ne_of_none e n

def spTake : Sp := fun vs H Q _ => ∃ (p : Addr) (z : Int), vs = [.ref p, .int z] ∧ Bx H p ∧ 0 < z ∧ z < 1073741824 ∧
  ∀ (d : Int) (H' : Hp), 0 ≤ d → d < z → Tk p H H' → Q (.int d) H'
def spBox : Sp := fun vs H Q _ => ∃ c : Int, vs = [.int c] ∧ ∀ (p : Addr) (H' : Hp), H p = none → Same H H' → Bx H' p → (∀ q, q ≠ p → H' q = H q) → Q (.ref p) H'
def spCell (K : PySem.W.Frag) : Sp := fun vs H Q _ => ∃ (a : Addr) (ns : List Int) (k : Int), vs = [.ref a, .int k] ∧ SqL K H a (ns.map V.int) ∧ 0 ≤ k ∧ ∀ n : Int, Q (.int n) H

section
variable {P : Program} {w : World} {K : PySem.W.Frag} {mg : Str → Option Value} {base : Heap}
theorem scCell : FnScope ["_law_script", "_law_k"] ["_law_script", "_law_k"] (defScope sCell) := ⟨rfl, rfl, rfl, by decide +kernel, rfl, by decide +kernel, by decide +kernel⟩
theorem ok_cell {f : Addr} {fd : FuncData} (F : Fun K "_law_cell" "_law_cell" sCell f fd) (zlen : mg "len" = none) : FnOk P w K mg base CX0 1 f fd ["_law_script", "_law_k"] (spCell K) := by
  refine F.ok scCell (fun vs H Q E h => ?_) (fun cdv A outer s H vs Q E hr h => ?_)
  · obtain ⟨_, _, _, rfl, _⟩ := h
    rfl
  · obtain ⟨a, ns, k, rfl, hS, hk, hQ⟩ := h
    refine ⟨_, pss_cons (ps_if (pt_cmpR op_lt (pv 1) (pe_callB call_len_seq (by rfl) zlen PySem.boot_len (pa_cons (pv 0) pa_nil)) (nomark _))
        (pss_one (ps_ret (pe_ix ix_list (pv 0) (pv 1) (fun _ _ => rfl)))) pss_nil)
      (pss_one (ps_ret (pe_op op_add (pe_op op_mul pe_int (pv 1)) pe_int))), ?_⟩
    refine ⟨_, rfl, _, rfl, a, _, rfl, .inl hS, _, _, rfl, rfl, _, rfl, ?_⟩
    refine ite2 (fun hlt => ?_) (fun _ => ?_)
    · have hl : k < (ns.length : Int) := by simpa using hlt
      obtain ⟨j, rfl⟩ := Int.eq_ofNat_of_zero_le hk
      have hj : j < ns.length := by omega
      refine ⟨_, rfl, _, rfl, a, _, _, _, rfl, rfl, hS, atI_nat (v := V.int ns[j]) (by simp [hj]), hQ _⟩
    · refine ⟨_, rfl, _, _, rfl, rfl, .inl ⟨by decide, by decide⟩, _, _, rfl, rfl, hQ _⟩

theorem scBox : FnScope ["_law_cell_here"] ["_law_cell_here"] (defScope sBox) := ⟨rfl, rfl, rfl, by decide +kernel, rfl, by decide +kernel, by decide +kernel⟩
theorem ok_box {f : Addr} {fd : FuncData} (F : Fun K "_law_box" "_law_box" sBox f fd) (zmax : mg "max" = none) (zint : mg "int" = none) : FnOk P w K mg base CX0 1 f fd ["_law_cell_here"] spBox := by
  refine F.ok scBox (fun vs H Q E h => ?_) (fun cdv A outer s H vs Q E hr h => ?_)
  · obtain ⟨_, rfl, _⟩ := h
    rfl
  · obtain ⟨c, rfl, hQ⟩ := h
    refine ⟨_, pss_one (ps_ret (pe_lst
      (pa_cons (pe_callB (call_max2 rfl) (by rfl) zmax (by decide +kernel) (pa_cons pe_int (pa_cons (pe_op op_sub (pv 0) (pe_op op_pow pe_int pe_int)) pa_nil)))
      (pa_cons (pe_op op_mod (pe_callTy call_int1 (by rfl) zint (by decide +kernel) (pa_cons (pv 0) pa_nil)) pe_int)
      (pa_cons pe_int pa_nil))))), ?_⟩
    refine ⟨_, rfl, _, _, rfl, rfl, ⟨by decide, by decide, by decide⟩, _, _, rfl, rfl, _, _, rfl, _, rfl, .inl ⟨_, rfl, _, _, rfl, rfl, (by show (0 : Int) < _; decide), by show 3 ≤ sizeLine; decide, fun p hp => ?_⟩⟩
    exact hQ p _ hp (fun q o e => by rw [upd_ne (ne_of_none e hp)]; exact e) ⟨_, _, _, upd_same⟩ (fun q n => upd_ne n)

theorem small (x : Int) : (x % 2147483647).natAbs < 2 ^ 64 := by
  have h1 := Int.emod_nonneg x (show (2147483647 : Int) ≠ 0 by decide)
  have h2 := Int.emod_lt_of_pos x (show (0 : Int) < 2147483647 by decide)
  omega
theorem scTake : FnScope ["_law_box_here", "_law_size", "_law_digit", "_law_mixed_here"] ["_law_box_here", "_law_size"] (defScope sTake) := ⟨rfl, rfl, rfl, by decide +kernel, rfl, by decide +kernel, by decide +kernel⟩
theorem ok_take {f : Addr} {fd : FuncData} (F : Fun K "_law_take" "_law_take" sTake f fd) (zint : mg "int" = none) : FnOk P w K mg base CX0 1 f fd ["_law_box_here", "_law_size"] spTake := by
  refine F.ok scTake (fun vs H Q E h => ?_) (fun cdv A outer s H vs Q E hr h => ?_)
  · obtain ⟨_, _, rfl, _⟩ := h
    rfl
  · obtain ⟨p, z, rfl, ⟨a, b, c, hB⟩, hz, hz2, hQ⟩ := h
    have nd := scTake.nd
    refine ⟨_, pss_cons (ps_if (pt_cmpR op_gt (pe_ix ix_list (pv 0) pe_int (fun _ _ => rfl)) pe_int (nomark _))
        (pss_cons (ps_set (i := 2) nd rfl (Or.inl rfl) (pe_op op_mod (pe_callTy call_int1 (by rfl) zint (by decide +kernel) (pa_cons (pe_ix ix_list (pv 0) pe_int (fun _ _ => rfl)) pa_nil)) (pv 1)))
        (pss_cons (ps_asg (pe_op op_fdiv (pe_ix ix_list (pv 0) pe_int (fun _ _ => rfl)) (pv 1)) (pg_sub (pv 0) pe_int set_list))
        (pss_one (ps_ret (pv 2))))) pss_nil)
      (pss_cons (ps_asg (pe_op op_add (pe_ix ix_list (pv 0) pe_int (fun _ _ => rfl)) pe_int) (pg_sub (pv 0) pe_int set_list))
      (pss_cons (ps_set (i := 3) nd rfl (Or.inl rfl) (pe_op op_mod (pe_callTy call_int1 (by rfl) zint (by decide +kernel) (pa_cons
        (pe_op op_add (pe_op op_add (pe_op op_mul (pe_ix ix_list (pv 0) pe_int (fun _ _ => rfl)) pe_int) (pe_op op_mul pe_int (pe_ix ix_list (pv 0) pe_int (fun _ _ => rfl)))) pe_int) pa_nil)) pe_int))
      (pss_cons (ps_asg (pe_op op_mod (pe_callTy call_int1 (by rfl) zint (by decide +kernel) (pa_cons
        (pe_op op_add (pe_op op_pow (pv 3) pe_int) (pe_op op_mul pe_int (pe_ix ix_list (pv 0) pe_int (fun _ _ => rfl)))) pa_nil)) pe_int) (pg_sub (pv 0) pe_int set_list))
      (pss_one (ps_ret (pe_op op_mod (pe_callTy call_int1 (by rfl) zint (by decide +kernel) (pa_cons (pe_op op_fdiv (pe_ix ix_list (pv 0) pe_int (fun _ _ => rfl)) pe_int) pa_nil)) (pv 1))))))), ?_⟩
    refine ⟨_, rfl, _, _, _, _, rfl, rfl, SqL.of hB, rfl, _, _, rfl, rfl, _, rfl, ?_⟩
    refine ite2 (fun _ => ?_) (fun _ => ?_)
    · refine ⟨_, rfl, _, _, _, _, rfl, rfl, SqL.of hB, rfl, .inl ⟨_, rfl, _, rfl, _, _, rfl, rfl, hz, ?_⟩⟩
      refine ⟨_, rfl, _, _, _, _, rfl, rfl, SqL.of hB, rfl, _, rfl, _, _, rfl, rfl, ⟨hz, hz2⟩, _, rfl, _, _, _, _, rfl, rfl, hB, rfl, _, rfl, ?_⟩
      exact hQ _ _ (Int.emod_nonneg _ (by omega)) (Int.emod_lt_of_pos _ hz) ⟨⟨_, _, _, upd_same⟩, fun q n => upd_ne n⟩
    · refine ⟨_, rfl, _, _, _, _, rfl, rfl, SqL.of hB, rfl, _, _, rfl, rfl, _, rfl, _, _, _, _, rfl, rfl, hB, rfl, ?_⟩
      refine ⟨_, rfl, _, _, _, _, rfl, rfl, SqL.of upd_same, rfl, _, _, rfl, rfl, .inr ⟨by decide, by decide⟩, _, rfl, _, _, _, _, rfl, rfl, SqL.of upd_same, rfl, _, _, rfl, rfl, .inl ⟨by decide, by decide⟩, _, _, rfl, rfl, _, _, rfl, rfl, .inl ⟨_, rfl, _, _, rfl, rfl, (by show (0 : Int) < _; decide), ?_⟩⟩
      refine ⟨_, rfl, _, _, rfl, rfl, ⟨by decide, by decide, small _⟩, _, rfl, _, _, _, _, rfl, rfl, SqL.of upd_same, rfl, _, _, rfl, rfl, .inl ⟨by decide, by decide⟩, _, _, rfl, rfl, .inl ⟨_, rfl, _, _, rfl, rfl, (by show (0 : Int) < _; decide), ?_⟩⟩
      refine ⟨_, rfl, _, _, _, _, rfl, rfl, upd_same, rfl, ?_⟩
      refine ⟨_, rfl, _, _, _, _, rfl, rfl, SqL.of upd_same, rfl, _, _, rfl, rfl, ⟨by decide, by decide⟩, .inl ⟨_, rfl, _, rfl, _, _, rfl, rfl, hz, ?_⟩⟩
      exact hQ _ _ (Int.emod_nonneg _ (by omega)) (Int.emod_lt_of_pos _ hz) ⟨⟨_, _, _, upd_same⟩, fun q n => by rw [upd_ne n, upd_ne n]⟩
end
end Bxs
namespace Bxs
open PySem L2
def Gd (z : Str) : Prop := z.length ≤ 1000 ∧ ∀ c ∈ z.cps.toList, c < 128
/-- a value of some kind, no part of it the box at p -/
inductive Ov (p : Addr) (H : Hp) : V → Prop where
  | non : Ov p H .non
  | bl (b : Bool) : Ov p H (.bl b)
  | int (i : Int) : Ov p H (.int i)
  | str (z : Str) (hz : Gd z) : Ov p H (.str z)
  | lst {a : Addr} {xs : List V} (n : a ≠ p) (e : H a = some (.lst xs)) : Ov p H (.ref a)
  | tup {a : Addr} {xs : List V} (n : a ≠ p) (e : H a = some (.tup xs)) : Ov p H (.ref a)
  | dct {a : Addr} {kvs : List (Key × V)} (n : a ≠ p) (e : H a = some (.dK kvs)) : Ov p H (.ref a)
theorem Ov.al {p : Addr} {H H' : Hp} {v : V} (h : Ov p H v) (k : Al p H H') : Ov p H' v := by
  cases h with
  | non => exact .non
  | bl b => exact .bl b
  | int i => exact .int i
  | str z hz => exact .str z hz
  | lst n e => exact .lst n (k.2 _ _ n e)
  | tup n e => exact .tup n (k.2 _ _ n e)
  | dct n e => exact .dct n (k.2 _ _ n e)
theorem Ov.same {p : Addr} {H H' : Hp} {v : V} (h : Ov p H v) (k : Same H H') : Ov p H' v := by
  cases h with
  | non => exact .non
  | bl b => exact .bl b
  | int i => exact .int i
  | str z hz => exact .str z hz
  | lst n e => exact .lst n (k _ _ e)
  | tup n e => exact .tup n (k _ _ e)
  | dct n e => exact .dct n (k _ _ e)
def isI : V → Bool | .int _ => true | .bl _ => true | _ => false
def isB : V → Bool | .bl _ => true | _ => false
def isS : V → Bool | .str _ => true | _ => false
theorem kit {K : PySem.W.Frag} {p : Addr} {H : Hp} {v : V} (h : Ov p H v) : ∃ t : Value, TyX K H v t ∧
    PySem.W.kitOne K t (.type "int") = some (isI v) ∧ PySem.W.kitOne K t (.type "bool") = some (isB v) ∧ PySem.W.kitOne K t (.type "str") = some (isS v) := by
  cases h with
  | non => exact ⟨_, .base .non, kit_ty (by decide +kernel), kit_ty (by decide +kernel), kit_ty (by decide +kernel)⟩
  | bl b => exact ⟨_, .base (.bl b), kit_ty (by show kitB "bool" "int" = some true; decide +kernel), kit_ty (by show kitB "bool" "bool" = some true; decide +kernel), kit_ty (by show kitB "bool" "str" = some false; decide +kernel)⟩
  | int i => exact ⟨_, .base (.int i), kit_ty (by show kitB "int" "int" = some true; decide +kernel), kit_ty (by show kitB "int" "bool" = some false; decide +kernel), kit_ty (by show kitB "int" "str" = some false; decide +kernel)⟩
  | str z hz => exact ⟨_, .base (.str z), kit_ty (by show kitB "str" "int" = some false; decide +kernel), kit_ty (by show kitB "str" "bool" = some false; decide +kernel), kit_ty (by show kitB "str" "str" = some true; decide +kernel)⟩
  | lst n e => exact ⟨_, .base (.lst e), kit_ty (by show kitB "list" "int" = some false; decide +kernel), kit_ty (by show kitB "list" "bool" = some false; decide +kernel), kit_ty (by show kitB "list" "str" = some false; decide +kernel)⟩
  | tup n e => exact ⟨_, .base (.tup e), kit_ty (by show kitB "tuple" "int" = some false; decide +kernel), kit_ty (by show kitB "tuple" "bool" = some false; decide +kernel), kit_ty (by show kitB "tuple" "str" = some false; decide +kernel)⟩
  | dct n e => exact ⟨_, .base (.dK e), kit_ty (by show kitB "dict" "int" = some false; decide +kernel), kit_ty (by show kitB "dict" "bool" = some false; decide +kernel), kit_ty (by show kitB "dict" "str" = some false; decide +kernel)⟩
theorem len_list (z : Str) : z.length = z.cps.toList.length := rfl

theorem yes_of {σ : St} {H : Hp} {A B : Hp → Prop} (h : A H) : tYes σ H (fun b H3 => if b = true then A H3 else B H3) := by
  show (if true = true then A H else B H)
  rw [if_pos rfl]
  exact h
theorem joinL_nil : ∀ xs : List (List Nat), TL.joinL [] xs = xs.flatten
  | [] => rfl
  | [p] => by simp [TL.joinL]
  | p :: q :: r => by
    show p ++ ([] ++ TL.joinL [] (q :: r)) = _
    rw [joinL_nil (q :: r)]
    simp
theorem join_len (ys : List Str) (h : ∀ y ∈ ys, y.length = 1) : (Txt.join ("" : Str) ys).length = ys.length := by
  rw [len_list, TL.join_eq]
  show (TL.tl (Str.join ("" : Str) ys)).length = _
  rw [TL.tl_join]
  show (TL.joinL [] (ys.map TL.tl)).length = _
  rw [joinL_nil]
  induction ys with
  | nil => rfl
  | cons y ys ih =>
    have h1 := h y (List.mem_cons_self ..)
    have h2 := ih fun z hz => h z (List.mem_cons_of_mem _ hz)
    have h3 : (TL.tl y).length = 1 := h1
    simp only [List.map_cons, List.flatten_cons, List.length_append, List.length_cons, h2, h3]
    omega
theorem sum_len (ys : List Str) (h : ∀ y ∈ ys, y.length = 1) : (ys.map (·.length)).sum = ys.length := by
  induction ys with
  | nil => rfl
  | cons y ys ih =>
    have h1 := h y (List.mem_cons_self ..)
    have h2 := ih fun z hz => h z (List.mem_cons_of_mem _ hz)
    simp only [List.map_cons, List.sum_cons, List.length_cons, h1, h2]
    omega
theorem at_mem {α : Type} {xs : List α} {d : Int} (h0 : 0 ≤ d) (h1 : d < (xs.length : Int)) : ∃ v, atI xs d = some v ∧ v ∈ xs := by
  obtain ⟨j, rfl⟩ := Int.eq_ofNat_of_zero_le h0
  have hj : j < xs.length := by omega
  exact ⟨xs[j], atI_nat (by simp [hj]), List.getElem_mem hj⟩
theorem at_int {ns : List Int} {d : Int} (h0 : 0 ≤ d) (h1 : d < (ns.length : Int)) : ∃ n, atI (ns.map V.int) d = some (V.int n) := by
  obtain ⟨j, rfl⟩ := Int.eq_ofNat_of_zero_le h0
  have hj : j < ns.length := by omega
  exact ⟨ns[j], atI_nat (by simp [hj])⟩
theorem dp_signs {K : PySem.W.Frag} {H : Hp} : ∀ cs : List Nat, DpAll K H (cs.map (fun c => V.str ⟨#[c]⟩)) (cs.map (fun c => PyData.str ⟨#[c]⟩))
  | [] => .nil
  | _ :: cs => .cons (.str _) (dp_signs cs)
theorem can_signs : ∀ cs : List Nat, (∀ c ∈ cs, c < 128) → PyData.canLayAll0 (cs.map (fun c => PyData.str ⟨#[c]⟩)) = true
  | [], _ => rfl
  | c :: cs, h => by
    have h1 := h c (List.mem_cons_self ..)
    have h2 : PyData.canLay0 (.str ⟨#[c]⟩) = true := by
      rw [PyData.canLay0]
      have : c < 0x110000 := by omega
      simp [PyData.strOk, this]
    rw [List.map_cons, PyData.canLayAll0, can_signs cs fun x hx => h x (List.mem_cons_of_mem _ hx), h2]
    rfl
theorem deep_signs : ∀ cs : List Nat, PyData.depthAll (cs.map (fun c => PyData.str ⟨#[c]⟩)) ≤ 1
  | [] => by simp [PyData.depthAll]
  | _ :: cs => by
    have := deep_signs cs
    rw [List.map_cons, PyData.depthAll, PyData.depth]
    omega
theorem shaped_signs (cs : List Nat) (hc : ∀ c ∈ cs, c < 128) : SeqAt.shaped (.list (cs.map (fun c => PyData.str ⟨#[c]⟩))) = true := by
  have h := deep_signs cs
  unfold SeqAt.shaped
  rw [PyData.canLay0, can_signs cs hc]
  have h2 : PyData.depth (.list (cs.map (fun c => PyData.str ⟨#[c]⟩))) ≤ 64 := by
    rw [PyData.depth]
    omega
  simp [h2]
theorem Gd.cut {z : Str} (h : Gd z) (lo hi : Option Int) : ∀ c ∈ (cutS z lo hi).cps.toList, c < 128 := by
  intro c hc
  unfold cutS at hc
  have : c ∈ z.cps.toList := List.mem_of_mem_drop (List.mem_of_mem_take (by simpa using hc))
  exact h.2 c this
theorem toList_app (x y : Str) : (x ++ y).cps.toList = x.cps.toList ++ y.cps.toList := by
  show (x.cps ++ y.cps).toList = _
  simp
theorem len_app (x y : Str) : (x ++ y).length = x.length + y.length := by
  rw [len_list, len_list, len_list, toList_app, List.length_append]
theorem pe_as {X : Cx} {e : Expr} {t t' : TE} (h : PE X e t) (k : ∀ σ H Q, t' σ H Q → t σ H Q) : PE X e t' := ⟨fun pins s σ H Q I q => h.run pins s σ H Q I (k σ H Q q)⟩
theorem same_al {p : Addr} {H H1 H2 : Hp} (hp : H p = none) (s : Same H H1) (k : Al p H1 H2) : Same H H2 := fun q o e =>
  k.2 q o (fun z => by subst z; rw [hp] at e; cases e) (s q o e)
theorem at_intM {ns : List Int} {d : Int} (h0 : 0 ≤ d) (h1 : d < (ns.length : Int)) : ∃ n, n ∈ ns ∧ atI (ns.map V.int) d = some (V.int n) := by
  obtain ⟨j, rfl⟩ := Int.eq_ofNat_of_zero_le h0
  have hj : j < ns.length := by omega
  exact ⟨ns[j], List.getElem_mem hj, atI_nat (by simp [hj])⟩
theorem at_str {ys : List Str} {d : Int} (h0 : 0 ≤ d) (h1 : d < (ys.length : Int)) : ∃ y, y ∈ ys ∧ atI (ys.map V.str) d = some (V.str y) := by
  obtain ⟨j, rfl⟩ := Int.eq_ofNat_of_zero_le h0
  have hj : j < ys.length := by omega
  exact ⟨ys[j], List.getElem_mem hj, atI_nat (by simp [hj])⟩
theorem line {n : Nat} (h : n ≤ 1000) : n ≤ sizeLine := Nat.le_trans h (by decide)
end Bxs
namespace Bxs
open PySem L2
structure Blt (mg : Str → Option Value) : Prop where
  isi : mg "isinstance" = none
  int : mg "int" = none
  bool : mg "bool" = none
  str : mg "str" = none
  list : mg "list" = none
  tuple : mg "tuple" = none
  len : mg "len" = none
  all : mg "all" = none
  max : mg "max" = none
  min : mg "min" = none
  rng : mg "range" = none
  rep : mg "repr" = none
def az (c : Nat) : Bool := decide (97 ≤ c) && decide (c ≤ 122)
def word (v : V) : Bool := match v with | .str z => (decide (1 ≤ z.length) && decide (z.length ≤ 6)) && z.cps.toList.all az | _ => false
theorem alphabet (c : Nat) : decide (c ∈ ("abcdefghijklmnopqrstuvwxyz" : Str).cps.toList) = az c := by
  have e : ("abcdefghijklmnopqrstuvwxyz" : Str).cps.toList = List.range' 97 26 := by decide +kernel
  rw [e, az, ← Bool.decide_and]
  exact decide_eq_decide.mpr (by rw [List.mem_range'_1]; omega)
theorem asc_alpha : ∀ c < 128, Unicode.isAlpha c = (az c || (decide (65 ≤ c) && decide (c ≤ 90))) := by decide +kernel
theorem asc_lower : ∀ c < 128, Unicode.isLower c = az c := by decide +kernel
theorem asc_upper : ∀ c < 128, (Unicode.isUpper c || Unicode.isTitle c) = (decide (65 ≤ c) && decide (c ≤ 90)) := by decide +kernel
theorem az_lt {c : Nat} (h : az c = true) : c < 128 ∧ ¬ (65 ≤ c ∧ c ≤ 90) := by
  unfold az at h
  simp only [Bool.and_eq_true, decide_eq_true_eq] at h
  omega
theorem word_asc (z : Str) (h1 : 1 ≤ z.length) : (Txt.isascii z && (Txt.isalpha z && Txt.islower z)) = z.cps.toList.all az := by
  have e1 : Txt.isascii z = z.cps.toList.all (fun c => decide (c < 128)) := by
    unfold Txt.isascii
    exact (Array.all_toList ..).symm
  have e2 : Txt.isalpha z = z.cps.toList.all Unicode.isAlpha := by
    unfold Txt.isalpha
    rw [← Array.all_toList, decide_eq_true (show z.length > 0 from h1), Bool.true_and]
  have e3 : Txt.islower z = (z.cps.toList.any Unicode.isLower && !z.cps.toList.any fun c => Unicode.isUpper c || Unicode.isTitle c) := by
    unfold Txt.islower
    rw [← Array.any_toList, ← Array.any_toList]
  rw [e1, e2, e3, Bool.eq_iff_iff]
  simp only [Bool.and_eq_true, List.all_eq_true, List.any_eq_true, decide_eq_true_eq, Bool.not_eq_true', List.any_eq_false]
  constructor
  · rintro ⟨a, b, _, d⟩ c hc
    have h2 := b c hc
    have h3 := d c hc
    rw [asc_alpha c (a c hc)] at h2
    rw [asc_upper c (a c hc)] at h3
    rw [Bool.or_eq_true] at h2
    exact h2.resolve_right h3
  · intro a
    refine ⟨fun c hc => (az_lt (a c hc)).1, fun c hc => ?_, ?_, fun c hc => ?_⟩
    · rw [asc_alpha c (az_lt (a c hc)).1, a c hc]
      rfl
    · have hne : z.cps.toList ≠ [] := fun e => by
        have : z.cps.toList.length = 0 := by rw [e]; rfl
        have h2 : z.cps.toList.length = z.length := rfl
        omega
      obtain ⟨c, l, e⟩ := List.exists_cons_of_ne_nil hne
      have hc : c ∈ z.cps.toList := by rw [e]; exact List.mem_cons_self ..
      exact ⟨c, hc, by rw [asc_lower c (az_lt (a c hc)).1]; exact a c hc⟩
    · rw [asc_upper c (az_lt (a c hc)).1]
      have := (az_lt (a c hc)).2
      simp only [Bool.and_eq_true, decide_eq_true_eq]
      exact this
def spWord : Sp := fun vs H Q _ => ∃ (p : Addr) (v : V), vs = [v] ∧ Ov p H v ∧ ∀ H', Same H H' → Q (.bl (word v)) H'
/-- a list's or a tuple's items -/
inductive Sq (H : Hp) : V → List V → Prop where
  | lst {a : Addr} {xs : List V} (e : H a = some (.lst xs)) : Sq H (.ref a) xs
  | tup {a : Addr} {xs : List V} (e : H a = some (.tup xs)) : Sq H (.ref a) xs
theorem Sq.one {H : Hp} {v : V} {xs ys : List V} (h : Sq H v xs) (k : Sq H v ys) : xs = ys := by
  cases h with
  | lst e =>
    cases k with
    | lst e2 => rw [e] at e2; injection e2 with e2; injection e2
    | tup e2 => rw [e] at e2; cases e2
  | tup e =>
    cases k with
    | lst e2 => rw [e] at e2; cases e2
    | tup e2 => rw [e] at e2; injection e2 with e2; injection e2
theorem Sq.same {H H' : Hp} {v : V} {xs : List V} (h : Sq H v xs) (s : Same H H') : Sq H' v xs := by
  cases h with
  | lst e => exact .lst (s _ _ e)
  | tup e => exact .tup (s _ _ e)
theorem kitS {K : PySem.W.Frag} {p : Addr} {H : Hp} {v : V} (h : Ov p H v) : ∃ (t : Value) (b : Bool), TyX K H v t ∧ PySem.W.kitAny K t [.type "list", .type "tuple"] = some b ∧ (b = true → ∃ xs, Sq H v xs) ∧ (b = false → ∀ xs, ¬ Sq H v xs) := by
  have any2 : ∀ (a : String) (b1 b2 : Bool), kitB a "list" = some b1 → kitB a "tuple" = some b2 → PySem.W.kitAny K (.type a) [.type "list", .type "tuple"] = some (b1 || b2) := by
    intro a b1 b2 h1 h2
    have e1 : PySem.W.kitOne K (.type a) (.type "list") = some b1 := kit_ty h1
    have e2 : PySem.W.kitOne K (.type a) (.type "tuple") = some b2 := kit_ty h2
    cases b1 <;> cases b2 <;> simp [PySem.W.kitAny, e1, e2]
  cases h with
  | non => exact ⟨_, _, .base .non, any2 "NoneType" false false (by decide +kernel) (by decide +kernel), (fun z => by cases z), fun _ xs z => by cases z⟩
  | bl b => exact ⟨_, _, .base (.bl b), any2 "bool" false false (by decide +kernel) (by decide +kernel), (fun z => by cases z), fun _ xs z => by cases z⟩
  | int i => exact ⟨_, _, .base (.int i), any2 "int" false false (by decide +kernel) (by decide +kernel), (fun z => by cases z), fun _ xs z => by cases z⟩
  | str z hz => exact ⟨_, _, .base (.str z), any2 "str" false false (by decide +kernel) (by decide +kernel), (fun z => by cases z), fun _ xs z => by cases z⟩
  | lst n e => exact ⟨_, _, .base (.lst e), any2 "list" true false (by decide +kernel) (by decide +kernel), (fun _ => ⟨_, .lst e⟩), fun z => by cases z⟩
  | tup n e => exact ⟨_, _, .base (.tup e), any2 "tuple" false true (by decide +kernel) (by decide +kernel), (fun _ => ⟨_, .tup e⟩), fun z => by cases z⟩
  | dct n e => exact ⟨_, _, .base (.dK e), any2 "dict" false false (by decide +kernel) (by decide +kernel), (fun z => by cases z), fun _ xs z => by
      cases z with
      | lst e2 => rw [e] at e2; cases e2
      | tup e2 => rw [e] at e2; cases e2⟩
def spIsL : Sp := fun vs H Q _ => ∃ (p : Addr) (v : V), vs = [v] ∧ Ov p H v ∧ ∀ H', Same H H' → ((∃ xs, Sq H v xs) → Q (.bl true) H') ∧ ((∀ xs, ¬ Sq H v xs) → Q (.bl false) H')
def spAre : Sp := fun vs H Q _ => ∃ (p : Addr) (v : V) (lo hi : Int), vs = [v, .int lo, .int hi] ∧ Ov p H v ∧ (∀ xs, Sq H v xs → xs.length ≤ 1000 ∧ ∀ x ∈ xs, Ov p H x) ∧
  (∀ xs, Sq H v xs → ∀ H', Same H H' → Q (.bl ((decide (lo ≤ (xs.length : Int)) && decide ((xs.length : Int) ≤ hi)) && xs.all word)) H') ∧ ((∀ xs, ¬ Sq H v xs) → ∀ H', Same H H' → Q (.bl false) H')
theorem pi_seq {X : Cx} {tg e : Expr} {w1 w2 : TI} (h1 : PI X tg e w1) (h2 : PI X tg e w2) : PI X tg e (fun σ H R => w1 σ H R ∨ w2 σ H R) :=
  ⟨fun pins s σ H R I h => h.elim (h1.run pins s σ H R I) (h2.run pins s σ H R I)⟩
section
variable {P : Program} {w : World} {K : PySem.W.Frag} {mg : Str → Option Value} {base : Heap}
theorem scIsWord : FnScope ["value"] ["value"] (defScope sIsWord) := ⟨rfl, rfl, rfl, by decide +kernel, rfl, by decide +kernel, by decide +kernel⟩
theorem ok_isWord {f : Addr} {fd : FuncData} {t2 : Tok} (F : Fun K "is_word" "is_word" sIsWord f fd) (gW : mg "LONGEST_WORD" = some (.int 6 t2)) (T : Blt mg) :
    FnOk P w K mg base CX0 1 f fd ["value"] spWord := by
  refine F.ok scIsWord (fun vs H Q E h => ?_) (fun cdv A outer s H vs Q E hr h => ?_)
  · obtain ⟨_, _, rfl, _⟩ := h
    rfl
  · obtain ⟨p, v, rfl, hv, hQ⟩ := h
    have nd := scIsWord.nd
    refine ⟨_, pss_cons (ps_if (PW.pt (pw_or (pt_not (pt_val (pe_callB call_isi (by rfl) T.isi (by decide +kernel) (pa_cons (pv 0) (pa_cons (pe_bltn (v := .ty "str") (by rfl) T.str (by decide +kernel) rfl) pa_nil)))))
        (pw_or1 (pt_not (pt_chain op_le op_le pe_int (pe_callB call_len_str (by rfl) T.len PySem.boot_len (pa_cons (pv 0) pa_nil)) (pe_glob (v := .int 6) (by rfl) gW ⟨_, rfl⟩))))))
        (pss_one (ps_ret pe_bl)) pss_nil)
      (pss_one (ps_ret (pe_and (pe_m0 PySem.F.slot_str_isascii PySem.F.type_str_isascii mt_isascii (pv 0))
        (pe_and (pe_m0 PySem.F.slot_str_isalpha PySem.F.type_str_isalpha mt_isalpha (pv 0)) (pe_one (pe_m0 PySem.F.slot_str_islower PySem.F.type_str_islower mt_islower (pv 0))))))), ?_⟩
    obtain ⟨t, ty, _, _, k3⟩ := kit (K := K) hv
    refine ⟨_, rfl, _, _, _, _, _, rfl, .ty _, ty, k3, ?_⟩
    refine ⟨_, rfl, ?_⟩
    cases v with
    | str z =>
      have hz : z.length ≤ 1000 := by
        cases hv with
        | str _ h => exact h.1
      have hs : z.length ≤ sizeLine := Nat.le_trans hz (by decide)
      refine iteF ⟨_, rfl, _, rfl, hs, _, _, rfl, rfl, _, rfl, ?_⟩
      cases h1 : decide ((1 : Int) ≤ (z.length : Int)) with
      | false =>
        have hn : word (.str z) = false := by
          have : ¬ 1 ≤ z.length := by
            have := of_decide_eq_false h1
            omega
          simp [word, this]
        rw [hn] at hQ
        exact ⟨_, rfl, hQ H (Same.refl H)⟩
      | true =>
        refine iteT ⟨_, _, rfl, rfl, _, rfl, ?_⟩
        cases h6 : decide ((z.length : Int) ≤ 6) with
        | false =>
          have hn : word (.str z) = false := by
            have : ¬ z.length ≤ 6 := by
              have := of_decide_eq_false h6
              omega
            simp [word, this]
          rw [hn] at hQ
          exact hQ H (Same.refl H)
        | true =>
          have a1 : 1 ≤ z.length := by
            have := of_decide_eq_true h1
            omega
          have hw : word (.str z) = z.cps.toList.all az := by
            have a2 : z.length ≤ 6 := by
              have := of_decide_eq_true h6
              omega
            simp [word, a1, a2]
          rw [hw, ← word_asc z a1] at hQ
          refine iteF ⟨_, rfl, ⟨_, rfl⟩, _, rfl, rfl, trivial, _, rfl, ?_⟩
          cases e1 : Txt.isascii z with
          | false =>
            rw [e1] at hQ
            exact hQ H (Same.refl H)
          | true =>
            rw [e1] at hQ
            refine iteT ⟨_, rfl, ⟨_, rfl⟩, _, rfl, rfl, trivial, _, rfl, ?_⟩
            cases e2 : Txt.isalpha z with
            | false =>
              rw [e2] at hQ
              exact hQ H (Same.refl H)
            | true =>
              rw [e2] at hQ
              exact iteT ⟨_, rfl, ⟨_, rfl⟩, _, rfl, rfl, trivial, hQ H (Same.refl H)⟩
    | _ => exact hQ H (Same.refl H)
theorem scIsL : FnScope ["value"] ["value"] (defScope sIsL) := ⟨rfl, rfl, rfl, by decide +kernel, rfl, by decide +kernel, by decide +kernel⟩
theorem ok_isL {f : Addr} {fd : FuncData} (F : Fun K "is_list" "is_list" sIsL f fd) (T : Blt mg) : FnOk P w K mg base CX0 1 f fd ["value"] spIsL := by
  refine F.ok scIsL (fun vs H Q E h => ?_) (fun cdv A outer s H vs Q E hr h => ?_)
  · obtain ⟨_, _, rfl, _⟩ := h
    rfl
  · obtain ⟨p, v, rfl, hv, hQ⟩ := h
    refine ⟨_, pss_one (ps_ret (pe_callB call_isiT (by rfl) T.isi (by decide +kernel) (pa_cons (pv 0) (pa_cons (pe_tup (pa_cons (pe_bltn (v := .ty "list") (by rfl) T.list (by decide +kernel) rfl)
      (pa_cons (pe_bltn (v := .ty "tuple") (by rfl) T.tuple (by decide +kernel) rfl) pa_nil))) pa_nil)))), ?_⟩
    refine ⟨_, rfl, by show 2 ≤ sizeLine; decide, fun t nt => ?_⟩
    have s1 : Same H (upd H t (.tup [.ty "list", .ty "tuple"])) := fun q o e => by rw [upd_ne (ne_of_none e nt)]; exact e
    obtain ⟨ty, b, h1, h2, h3, h4⟩ := kitS (K := K) (hv.same s1)
    refine ⟨_, t, _, ty, _, b, rfl, upd_same, .cons (.ty _) (.cons (.ty _) .nil), h1, h2, ?_⟩
    have back : ∀ xs, Sq (upd H t (.tup [.ty "list", .ty "tuple"])) v xs → ∃ ys, Sq H v ys := by
      intro xs z
      cases hv with
      | lst n e => exact ⟨_, .lst e⟩
      | tup n e => exact ⟨_, .tup e⟩
      | dct n e =>
        have e' := s1 _ _ e
        cases z with
        | lst e2 => rw [e'] at e2; cases e2
        | tup e2 => rw [e'] at e2; cases e2
      | _ => cases z
    cases b with
    | true =>
      obtain ⟨xs, hx⟩ := h3 rfl
      exact (hQ _ s1).1 (back xs hx)
    | false => exact (hQ _ s1).2 fun xs hx => h4 rfl xs (hx.same s1)
theorem scAre : FnScope ["value", "least", "most", "item"] ["value", "least", "most"] (defScope sAre) := ⟨rfl, rfl, rfl, by decide +kernel, rfl, by decide +kernel, by decide +kernel⟩
theorem ok_are {f g w1 : Addr} {fd gd wd : FuncData} {t2 : Tok} (F : Fun K "are_words" "are_words" sAre f fd) (GL : Fun K "is_list" "is_list" sIsL g gd) (bL : Binds K gd ["value"] []) (gL : mg "is_list" = some (.ref g))
    (GW : Fun K "is_word" "is_word" sIsWord w1 wd) (bW : Binds K wd ["value"] []) (gW : mg "is_word" = some (.ref w1)) (c2 : mg "LONGEST_WORD" = some (.int 6 t2)) (T : Blt mg) :
    FnOk P w K mg base CX0 2 f fd ["value", "least", "most"] spAre := by
  refine F.ok scAre (fun vs H Q E h => ?_) (fun cdv A outer s H vs Q E hr h => ?_)
  · obtain ⟨_, _, _, _, rfl, _⟩ := h
    rfl
  · obtain ⟨p, v, lo, hi, rfl, hv, hit, hY, hN⟩ := h
    have nd := scAre.nd
    refine ⟨_, pss_cons (ps_if (PW.pt (pw_or (pt_not (pt_val (pe_call (ok_isL GL T) hr (by rfl) gL GL.kp bL .nil pass0 (pa_cons (pv 0) pa_nil))))
        (pw_or1 (pt_not (pt_chain op_le op_le (pv 1) (pe_callB call_len_seq (by rfl) T.len PySem.boot_len (pa_cons (pv 0) pa_nil)) (pv 2))))))
        (pss_one (ps_ret pe_bl)) pss_nil)
      (pss_one (ps_ret (pe_callB (cr_all rfl) (by rfl) T.all (by decide +kernel) (pa_cons
        (pe_lc (own := [("item", 3)]) (g := gName 3) (tt := tYes) rfl nd (pi_seq (pi_list (pv 0)) (pi_tup (pv 0))) (blkOk_by (own := [("item", 3)]) (N := ["value", "least", "most", "item"]) (sc := defScope sAre) (by decide +kernel))
          (fun _ _ _ _ _ => pg_name (i := 3) nd rfl (Or.inl rfl)) (fun _ _ _ _ _ => pts_nil) (fun _ _ _ _ _ => pe_call (ok_isWord GW c2 T) hr (by rfl) gW GW.kp bW .nil pass0 (pa_cons (pv 3) pa_nil))) pa_nil)))), ?_⟩
    refine ⟨_, rfl, p, v, rfl, hv, fun H1 s1 => ⟨fun ⟨xs, hx⟩ => ?_, fun hno => ⟨_, rfl, hN hno H1 s1⟩⟩⟩
    obtain ⟨hl, hov⟩ := hit xs hx
    refine ⟨_, rfl, ?_⟩
    refine iteF ?_
    have len : ∃ a, v = .ref a ∧ (SqL K H1 a xs ∨ SqT K H1 a xs) := by
      cases hx with
      | lst e => exact ⟨_, rfl, .inl (SqL.of (s1 _ _ e))⟩
      | tup e => exact ⟨_, rfl, .inr (SqT.of (s1 _ _ e))⟩
    obtain ⟨a, rfl, hsq⟩ := len
    refine ⟨_, rfl, _, rfl, a, xs, rfl, hsq, _, _, rfl, rfl, _, rfl, ?_⟩
    have hQ := hY xs hx
    cases h1 : decide (lo ≤ (xs.length : Int)) with
    | false =>
      rw [h1] at hQ
      exact ⟨_, rfl, hQ H1 s1⟩
    | true =>
      refine iteT ⟨_, rfl, _, _, rfl, rfl, _, rfl, ?_⟩
      cases h6 : decide ((xs.length : Int) ≤ hi) with
      | false =>
        rw [h1, h6] at hQ
        exact hQ H1 s1
      | true =>
        rw [h1, h6] at hQ
        refine iteF ?_
        -- one turn and the end, for a list or a tuple
        have turn : ∀ (D : Addr) (i : Nat) (x : V) (H2 : Hp), H1 D = none → xs[i]? = some x → (Same H1 H2 ∧ H2 D = some (.lst (((xs.take i).map word).map V.bl))) → ∀ H3, Same H2 H3 →
            ∃ acc, H3 D = some (.lst acc) ∧ acc.length < sizeLine ∧ (Same H1 (upd H3 D (.lst (acc ++ [.bl (word x)]))) ∧ upd H3 D (.lst (acc ++ [.bl (word x)])) D = some (.lst (((xs.take (i + 1)).map word).map V.bl))) := by
          intro D i x H2 hD hx ⟨k1, k2⟩ H3 s3
          refine ⟨_, s3 _ _ k2, ?_, fun q o e => ?_, ?_⟩
          · have : i < xs.length := (List.getElem?_eq_some_iff.mp hx).1
            simp only [List.length_map, List.length_take]
            exact Nat.lt_of_le_of_lt (Nat.le_trans (Nat.min_le_left _ _) (show i ≤ 1000 by omega)) (by decide)
          · rw [upd_ne (fun z => by subst z; rw [hD] at e; cases e)]
            exact s3 _ _ (k1 _ _ e)
          · rw [upd_same, List.take_add_one, hx]
            simp
        have stop : ∀ (D : Addr) (H2 : Hp), (Same H1 H2 ∧ H2 D = some (.lst (((xs.take xs.length).map word).map V.bl))) → SqL K H2 D ((xs.map word).map V.bl) ∧ Q (.bl ((xs.map word).all id)) H2 := by
          intro D H2 ⟨k1, k2⟩
          rw [List.take_length] at k2
          refine ⟨SqL.of k2, ?_⟩
          have e : (xs.map word).all id = xs.all word := by rw [List.all_map]; rfl
          rw [e]
          exact hQ H2 (s1.trans k1)
        have ovx : ∀ (i : Nat) (x : V) (H2 : Hp), xs[i]? = some x → Same H1 H2 → Ov p H2 x := fun i x H2 hx k => ((hov x (List.mem_of_getElem? hx)).same s1).same k
        have hx1 := hx.same s1
        cases hx1 with
        | lst e1 =>
          have hsl : SqL K H1 a xs := SqL.of e1
          refine .inl ⟨_, rfl, a, rfl, ⟨_, hsl⟩, fun D hD => ?_⟩
          refine lc_list (K := K) (a := a) (xs := xs) (fun i H' => Same H1 H' ∧ H' D = some (.lst (((xs.take i).map word).map V.bl))) ⟨fun q o e => by rw [upd_ne (ne_of_none e hD)]; exact e, upd_same⟩ (fun i H' _ k => SqL.of (k.1 _ _ e1)) ?_ ?_
          · intro i x H2 hx k
            exact ⟨rfl, yes_of ⟨_, rfl, p, x, rfl, ovx i x H2 hx k.1, fun H3 s3 => turn D i x H2 hD hx k H3 s3⟩⟩
          · intro H2 k
            exact ⟨D, _, rfl, stop D H2 k⟩
        | tup e1 =>
          refine .inr ⟨_, rfl, a, rfl, ⟨_, SqT.of e1⟩, fun D hD => ?_⟩
          refine lc_tup (K := K) (a := a) (xs := xs) (fun i H' => Same H1 H' ∧ H' D = some (.lst (((xs.take i).map word).map V.bl))) ⟨fun q o e => by rw [upd_ne (ne_of_none e hD)]; exact e, upd_same⟩ (fun i H' _ k => SqT.of (k.1 _ _ e1)) ?_ ?_
          · intro i x H2 hx k
            exact ⟨rfl, yes_of ⟨_, rfl, p, x, rfl, ovx i x H2 hx k.1, fun H3 s3 => turn D i x H2 hD hx k H3 s3⟩⟩
          · intro H2 k
            exact ⟨D, _, rfl, stop D H2 k⟩
end
end Bxs
namespace DS
open PySem PySem.Spec PyProof.Rows
/-- the different texts among the first ones, in order -/
def met (xs : List Str) (i : Nat) : List Str := (xs.take i).foldl step_dedup []
theorem met_succ {xs : List Str} {i : Nat} (hi : i < xs.length) : met xs (i + 1) = step_dedup (met xs i) (xs.getD i Str.empty) := by
  have e : xs.getD i Str.empty = xs[i] := by simp [hi]
  unfold met
  rw [List.take_succ, List.foldl_append, e, List.getElem?_eq_getElem hi]
  rfl
theorem met_le (xs : List Str) : ∀ i, i ≤ xs.length → (met xs i).length ≤ i
  | 0, _ => by unfold met; simp
  | i + 1, h => by
    rw [met_succ h]
    have := met_le xs i (Nat.le_of_lt h)
    unfold step_dedup
    split
    · omega
    · rw [List.length_append, List.length_singleton]; omega
theorem any_step (σ : List Str) (v k : Str) : (σ.any (· == k) || decide (k = v)) = (step_dedup σ v).any (· == k) := by
  unfold step_dedup
  by_cases h : σ.any (· == v) = true
  · rw [if_pos h]
    by_cases e : k = v
    · subst e; rw [h]; simp
    · simp [e]
  · rw [if_neg h, List.any_append]
    by_cases e : k = v
    · subst e; simp
    · have : (v == k) = false := by simpa [beq_iff_eq] using fun z : v = k => e z.symm
      simp [this, e]
theorem len_step (σ : List Str) (v : Str) : (if σ.any (· == v) = true then σ.length else σ.length + 1) = (step_dedup σ v).length := by
  unfold step_dedup
  split <;> simp
theorem met_mem (xs : List Str) : ∀ i, i ≤ xs.length → ∀ x, x ∈ met xs i ↔ x ∈ xs.take i
  | 0, _, x => by unfold met; simp
  | i + 1, h, x => by
    have e : xs.getD i Str.empty = xs[i] := by simp [Nat.lt_of_succ_le h]
    rw [met_succ h, List.take_succ, List.getElem?_eq_getElem h, e]
    have ih := met_mem xs i (Nat.le_of_lt h) x
    unfold step_dedup
    by_cases k : (met xs i).any (· == xs[i]) = true
    · rw [if_pos k, ih]
      obtain ⟨y, hy, e2⟩ := List.any_eq_true.mp k
      have ey : y = xs[i] := beq_iff_eq.mp e2
      subst ey
      have hy2 := (met_mem xs i (Nat.le_of_lt h) xs[i]).mp hy
      simp only [Option.toList_some, List.mem_append, List.mem_singleton]
      exact ⟨.inl, fun z => z.elim id fun z => z ▸ hy2⟩
    · rw [if_neg k]
      simp only [Option.toList_some, List.mem_append, List.mem_singleton, ih]
/-- as many as there are: all different -/
theorem met_all (xs : List Str) : ∀ i, i ≤ xs.length → ((met xs i).length = i ↔ (xs.take i).Nodup)
  | 0, _ => by unfold met; simp
  | i + 1, h => by
    have e : xs.getD i Str.empty = xs[i] := by simp [Nat.lt_of_succ_le h]
    have ih := met_all xs i (Nat.le_of_lt h)
    have hl := met_le xs i (Nat.le_of_lt h)
    have hm := met_mem xs i (Nat.le_of_lt h) xs[i]
    rw [met_succ h, List.take_succ, List.getElem?_eq_getElem h, e, ← len_step]
    simp only [Option.toList_some]
    rw [List.nodup_append]
    by_cases k : (met xs i).any (· == xs[i]) = true
    · rw [if_pos k]
      obtain ⟨y, hy, e2⟩ := List.any_eq_true.mp k
      have ey : y = xs[i] := beq_iff_eq.mp e2
      rw [ey] at hy
      constructor
      · intro z; omega
      · intro ⟨_, _, z⟩
        exact absurd rfl (z _ (hm.mp hy) _ (List.mem_singleton.mpr rfl))
    · rw [if_neg k]
      have k2 : xs[i] ∉ met xs i := fun z => k (List.any_eq_true.mpr ⟨_, z, beq_self_eq_true _⟩)
      rw [hm] at k2
      constructor
      · intro z
        refine ⟨ih.mp (by omega), by simp, fun a ha b hb => ?_⟩
        rw [List.mem_singleton.mp hb]
        exact fun z => k2 (z ▸ ha)
      · intro ⟨z, _, _⟩
        rw [ih.mpr z]
end DS

namespace DS
open PySem PySem.Spec PyProof.Rows
section
variable {prog : Program} {w : World} {A : Around} {R : Result → Shared → Prop} {I : Addr} {fp wr : List Addr} {G : Array GenState → Array GenState → Prop} {n : Nat} {P : Nat → Value → Prop} {St : Nat → Shared → Prop}
/-- the loop that adds the texts, one behind the other -/
theorem adds (W : WalksS prog w A.in1 I fp wr G n P St) (a : Addr) (off : a ∉ fp) (xs : List Str) (len : xs.length = n) (bnd : n + 1 < scanBound) (look : ∀ j u, P j u → ∃ t, u = .str (xs.getD j Str.empty) t) : ∀ (m j : Nat) (s : Shared), m + j = n → St j s →
      s.heap.SetOf (PySem.strKind prog w) a (fun z => (met xs j).any (· == z)) (met xs j).length →
      (∀ s2, Moved (a :: wr) G s s2 → s2.heap.SetOf (PySem.strKind prog w) a (fun z => (met xs n).any (· == z)) (met xs n).length → R (.ok (.ret .none)) s2) →
      codeAny (model prog w) A (.builtin "set.update.loop" ⟨[.ref a, .ref I], []⟩) R s
  | 0, j, s, e, st, so, fin2 => by
    have e2 : j = n := by omega
    subst e2
    refine codeAny_builtin PyProof.Rows.F.entry_set_update_loop ?_
    rw [Around.under_plainId PyProof.Rows.F.plain_set_update_loop ⟨[.ref a, .ref I], []⟩]
    change wpAny _ A.in1 (pyNext (.ref I) >>= _) _ _ s
    refine wpAny_bind (W.done s _ _ st fun s2 mv => ?_)
    change wpAny _ A.in1 (ret Value.none) _ _ s2
    refine wpAny_pure (fin2 s2 (mv.mono fun b m => List.mem_cons_of_mem a m) ?_)
    obtain ⟨o, es, ep, t, ho, more⟩ := so
    exact ⟨o, es, ep, t, mv.heap a _ (fun z => off (W.sub _ z)) ho, more⟩
  | m + 1, j, s, e, st, so, fin2 => by
    have lt : j < n := by omega
    refine codeAny_builtin PyProof.Rows.F.entry_set_update_loop ?_
    rw [Around.under_plainId PyProof.Rows.F.plain_set_update_loop ⟨[.ref a, .ref I], []⟩]
    change wpAny _ A.in1 (pyNext (.ref I) >>= _) _ _ s
    refine wpAny_bind (W.item j s _ _ lt st fun u s1 hu st1 mv => ?_)
    obtain ⟨t, rfl⟩ := look j u hu
    have so1 : s1.heap.SetOf (PySem.strKind prog w) a (fun z => (met xs j).any (· == z)) (met xs j).length := by
      obtain ⟨o, es, ep, tb, ho, more⟩ := so
      exact ⟨o, es, ep, tb, mv.heap a _ (fun z => off (W.sub _ z)) ho, more⟩
    change wpAny _ A.in1 (holding [Value.str (xs.getD j Str.empty) t] (setAdd a (.str (xs.getD j Str.empty) t)) >>= _) _ _ s1
    refine wpAny_bind (wpAny_holding ?_)
    unfold setAdd
    refine wpAny_holding (wpAny_bind ((PySem.strKind prog w).pyHash (k := xs.getD j Str.empty) (strKind_is _ _ _ _) ?_))
    have room : (met xs j).length + 1 < scanBound := by
      have := met_le xs j (by omega)
      omega
    refine wpAny_setAddHashed_of (knd := PySem.strKind prog w) (s := { s1 with toks := s1.toks + 1 }) (strKind_is _ _ _ _) rfl so1 room fun hp only so2 => ?_
    have so3 : hp.SetOf (PySem.strKind prog w) a (fun z => (met xs (j + 1)).any (· == z)) (met xs (j + 1)).length :=
      PyProof.Rows.SetOf_congr so2 (fun z => by rw [met_succ (by omega), ← any_step]) (by rw [met_succ (by omega), ← len_step])
    refine wpAny_pure ⟨plainId_quiet PyProof.Rows.F.plain_set_update_loop _, adds W a off xs len bnd look m (j + 1) _ (by omega) (W.frame _ s1 _ _ st1 (Nat.le_succ _) fun b hb o e => ?_) so3 fun s3 mv3 so4 => ?_⟩
    · rw [only.2 b fun z : b = a => off (z ▸ hb)]
      exact e
    · refine fin2 s3 (Moved.trans W.gtrans ((mv.mono fun b m => List.mem_cons_of_mem a m).then_heap (Nat.le_succ _) fun b o hb e => ?_) mv3) so4
      rw [only.2 b fun z : b = a => hb (z ▸ List.mem_cons_self)]
      exact e
end
end DS

namespace DS
open PySem PySem.Spec PyProof.Rows
def setNew (led : Bool) : Obj := { cls := .type "set", dict := none, data := .set #[] 0 (.fresh 0 0 led) }
section
variable {prog : Program} {w : World} {A : Around} {E : Value → Shared → Prop} {s : Shared}

set_option maxHeartbeats 3200000 in
theorem set_list {l : Addr} {us : Array Value} {xs : List Str} {Q : Value → Shared → Prop} (calm : A.handled = none) (hl : s.heap.IsList l us) (hv : StrsAre us.toList xs) (bnd : us.size + 1 < scanBound)
    (fin : ∀ (hp : Heap) (tk : Nat), hp.SetOf (PySem.strKind prog w) s.heap.objs.size (fun z => (met xs us.size).any (· == z)) (met xs us.size).length → (∀ b o, b < s.heap.objs.size → s.heap.get? b = some o → hp.get? b = some o) →
      Q (.ref s.heap.objs.size) { s with heap := hp, toks := tk }) : wpAny (model prog w) A (call (.type "set") [.ref l]) Q E s := by
  obtain ⟨c, tl, z0⟩ := PySem.F.called_set.mro
  have z1 := PySem.F.called_set.made
  have z2 := PySem.F.called_set.sub
  have z3 := PySem.F.called_set.notType
  have z4 := PySem.F.called_set.canCreate
  have z5 := PySem.F.typeCall_set_1 (.ref l)
  refine wpAny_call (codeAny_of_tree ?_)
  change wpAny _ _ (callAny (.type "set") ⟨[.ref l], []⟩) _ _ _
  refine wpAny_pure ⟨Code.quiet_builtin _ (by decide +kernel), codeAny_builtin PySem.F.entry_type_call ?_⟩
  rw [Around.under_plain (weight_type_call_type "set" [Value.ref l] []) rfl]
  repeat (any_goals (first | assumption | wp_step))
  refine codeAny_mono (code_set_new_1 (.ref l) (E := E) (Q₁ := fun r s1 => ∃ led : Bool, r = .ref s.heap.objs.size ∧ s1 = { s with heap := s.heap.push (setNew led) }) fun led => ⟨led, rfl, rfl⟩) fun r s1 hr => ?_
  match r, hr with
  | .error _, hr => exact hr
  | .ok (.ret r), hr =>
    obtain ⟨led, rfl, rfl⟩ := hr
    have g1 : (s.heap.push (setNew led)).get? s.heap.objs.size = some (setNew led) := Heap.get?_push_size _ rfl
    have g2 : Shared.TypeIs { s with heap := s.heap.push (setNew led) } (.ref s.heap.objs.size) "set" := ⟨_, g1, rfl⟩
    have z6 := PySem.F.called_set.init.lookup
    have z7 := PySem.F.called_set.init.bind (.ref s.heap.objs.size)
    unfold setNew at *
    repeat (any_goals (first | assumption | wp_step))
    refine codeAny_mono (codeAny_call_builtin (R := wants (fun r s2 => r = .none ∧ ∃ hp tk, s2 = { s with heap := hp, toks := tk } ∧ hp.SetOf (PySem.strKind prog w) s.heap.objs.size (fun z => (met xs us.size).any (· == z)) (met xs us.size).length ∧
        ∀ b o, b < s.heap.objs.size → s.heap.get? b = some o → hp.get? b = some o) E) PySem.F.called_set.init.plain PySem.F.entry_set_init (check_set_init_1 g2 ?_)) fun r2 s2 hr2 => ?_
    · have low : l < s.heap.objs.size := by
        obtain ⟨o, ho, _⟩ := hl
        exact Heap.lt_size ho
      have hl2 := hl.push (setNew led)
      obtain ⟨⟨ocls, od, oda, osl⟩, ho, k1, nl, k2⟩ := hl2
      dsimp only at k1 k2
      subst k1
      subst k2
      unfold setNew at ho
      have hl3 := hl.push (setNew led)
      unfold setNew at hl3
      have z8 := PySem.F.sub_list_set
      have z9 := PySem.F.sub_list_frozenset
      have za : (Value.type "list" == Value.type "dict") = false := by decide
      unfold Builtin.«set.__init__» noKeywords Builtin.Frozenset.updateFrom
      generalize hit : pyIter = it
      wp_walk
      subst hit
      refine wpAny_pyIter_list hl3 (wpAny_bind (wpAny_runValue ?_))
      have zb : A.in1.in1.in1.handled = none := by simp [calm]
      have sz : (s.heap.push (setNew led)).objs.size = s.heap.objs.size + 1 := Heap.size_push _ _
      unfold setNew at sz
      have zlen : xs.length = us.size := by
        rw [← StrsAre.len_eq hv]
        exact Array.length_toList
      refine adds ((Walks.list zb _ l (by rw [sz]; exact Nat.ne_of_lt (Nat.lt_succ_of_lt low)) us).toS) s.heap.objs.size (by rw [sz, List.mem_cons, List.mem_singleton]; exact fun z => z.elim (Nat.ne_of_lt (Nat.lt_succ_self _)) (Nat.ne_of_gt low)) xs zlen bnd (fun j u hu => SS.strs_at hv j u (by rw [Array.getElem?_toList]; exact hu)) us.size 0 _ (by omega)
        ⟨⟨_, Heap.get?_push_size _ rfl, rfl, rfl⟩, hl3.push _⟩ ?_ ?_
      · refine PyProof.Rows.SetOf_congr ((PyProof.Rows.setObjOf_fresh (knd := PySem.strKind prog w) led).setOf (Heap.get?_push_of_some _ g1) (by unfold scanBound; omega)) (fun _ => rfl) rfl
      · intro s3 mv so
        obtain ⟨hp, gs, dr, tk, os⟩ := s3
        have e1 : gs = s.gens := mv.gens
        have e2 : dr = s.drawn := mv.drawn
        have e3 : os = s.os := mv.os
        subst e1 e2 e3
        change wpAny _ _ _ _ _ _
        refine wpAny_pure ?_
        change wpAny _ _ (ret Value.none) _ _ _
        refine wpAny_pure ⟨rfl, hp, tk, rfl, so, fun b o hb e => mv.heap b o ?_ (Heap.get?_push_of_some _ (Heap.get?_push_of_some _ e))⟩
        rw [List.mem_cons, List.mem_singleton, sz]
        exact fun z => z.elim (Nat.ne_of_lt hb) (Nat.ne_of_lt (Nat.lt_succ_of_lt hb))
    · match r2, hr2 with
      | .error _, hr2 => exact hr2
      | .ok (.ret _), hr2 =>
        obtain ⟨rfl, hp, tk, rfl, so, keep⟩ := hr2
        repeat (any_goals (first | assumption | wp_step))
        exact fin _ _ so keep

set_option maxHeartbeats 3200000 in
theorem set_tup {l : Addr} {us : Array Value} {xs : List Str} {Q : Value → Shared → Prop} (calm : A.handled = none) (hl : s.heap.IsTuple l us) (hv : StrsAre us.toList xs) (bnd : us.size + 1 < scanBound)
    (fin : ∀ (hp : Heap) (tk : Nat), hp.SetOf (PySem.strKind prog w) s.heap.objs.size (fun z => (met xs us.size).any (· == z)) (met xs us.size).length → (∀ b o, b < s.heap.objs.size → s.heap.get? b = some o → hp.get? b = some o) →
      Q (.ref s.heap.objs.size) { s with heap := hp, toks := tk }) : wpAny (model prog w) A (call (.type "set") [.ref l]) Q E s := by
  obtain ⟨c, tl, z0⟩ := PySem.F.called_set.mro
  have z1 := PySem.F.called_set.made
  have z2 := PySem.F.called_set.sub
  have z3 := PySem.F.called_set.notType
  have z4 := PySem.F.called_set.canCreate
  have z5 := PySem.F.typeCall_set_1 (.ref l)
  refine wpAny_call (codeAny_of_tree ?_)
  change wpAny _ _ (callAny (.type "set") ⟨[.ref l], []⟩) _ _ _
  refine wpAny_pure ⟨Code.quiet_builtin _ (by decide +kernel), codeAny_builtin PySem.F.entry_type_call ?_⟩
  rw [Around.under_plain (weight_type_call_type "set" [Value.ref l] []) rfl]
  repeat (any_goals (first | assumption | wp_step))
  refine codeAny_mono (code_set_new_1 (.ref l) (E := E) (Q₁ := fun r s1 => ∃ led : Bool, r = .ref s.heap.objs.size ∧ s1 = { s with heap := s.heap.push (setNew led) }) fun led => ⟨led, rfl, rfl⟩) fun r s1 hr => ?_
  match r, hr with
  | .error _, hr => exact hr
  | .ok (.ret r), hr =>
    obtain ⟨led, rfl, rfl⟩ := hr
    have g1 : (s.heap.push (setNew led)).get? s.heap.objs.size = some (setNew led) := Heap.get?_push_size _ rfl
    have g2 : Shared.TypeIs { s with heap := s.heap.push (setNew led) } (.ref s.heap.objs.size) "set" := ⟨_, g1, rfl⟩
    have z6 := PySem.F.called_set.init.lookup
    have z7 := PySem.F.called_set.init.bind (.ref s.heap.objs.size)
    unfold setNew at *
    repeat (any_goals (first | assumption | wp_step))
    refine codeAny_mono (codeAny_call_builtin (R := wants (fun r s2 => r = .none ∧ ∃ hp tk, s2 = { s with heap := hp, toks := tk } ∧ hp.SetOf (PySem.strKind prog w) s.heap.objs.size (fun z => (met xs us.size).any (· == z)) (met xs us.size).length ∧
        ∀ b o, b < s.heap.objs.size → s.heap.get? b = some o → hp.get? b = some o) E) PySem.F.called_set.init.plain PySem.F.entry_set_init (check_set_init_1 g2 ?_)) fun r2 s2 hr2 => ?_
    · have low : l < s.heap.objs.size := by
        obtain ⟨o, ho, _⟩ := hl
        exact Heap.lt_size ho
      have hl2 := hl.push (setNew led)
      obtain ⟨⟨ocls, od, oda, osl⟩, ho, k1, nl, k2⟩ := hl2
      dsimp only at k1 k2
      subst k1
      subst k2
      unfold setNew at ho
      have hl3 := hl.push (setNew led)
      unfold setNew at hl3
      have z8 := PySem.F.sub_tuple_set
      have z9 := PySem.F.sub_tuple_frozenset
      have za : (Value.type "tuple" == Value.type "dict") = false := by decide
      unfold Builtin.«set.__init__» noKeywords Builtin.Frozenset.updateFrom
      generalize hit : pyIter = it
      wp_walk
      subst hit
      refine wpAny_pyIter_tuple hl3 (wpAny_bind (wpAny_runValue ?_))
      have zb : A.in1.in1.in1.handled = none := by simp [calm]
      have sz : (s.heap.push (setNew led)).objs.size = s.heap.objs.size + 1 := Heap.size_push _ _
      unfold setNew at sz
      have zlen : xs.length = us.size := by
        rw [← StrsAre.len_eq hv]
        exact Array.length_toList
      refine adds ((Walks.tuple zb _ l (by rw [sz]; exact Nat.ne_of_lt (Nat.lt_succ_of_lt low)) us).toS) s.heap.objs.size (by rw [sz, List.mem_cons, List.mem_singleton]; exact fun z => z.elim (Nat.ne_of_lt (Nat.lt_succ_self _)) (Nat.ne_of_gt low)) xs zlen bnd (fun j u hu => SS.strs_at hv j u (by rw [Array.getElem?_toList]; exact hu)) us.size 0 _ (by omega)
        ⟨⟨_, Heap.get?_push_size _ rfl, rfl, rfl⟩, hl3.push _⟩ ?_ ?_
      · refine PyProof.Rows.SetOf_congr ((PyProof.Rows.setObjOf_fresh (knd := PySem.strKind prog w) led).setOf (Heap.get?_push_of_some _ g1) (by unfold scanBound; omega)) (fun _ => rfl) rfl
      · intro s3 mv so
        obtain ⟨hp, gs, dr, tk, os⟩ := s3
        have e1 : gs = s.gens := mv.gens
        have e2 : dr = s.drawn := mv.drawn
        have e3 : os = s.os := mv.os
        subst e1 e2 e3
        change wpAny _ _ _ _ _ _
        refine wpAny_pure ?_
        change wpAny _ _ (ret Value.none) _ _ _
        refine wpAny_pure ⟨rfl, hp, tk, rfl, so, fun b o hb e => mv.heap b o ?_ (Heap.get?_push_of_some _ (Heap.get?_push_of_some _ e))⟩
        rw [List.mem_cons, List.mem_singleton, sz]
        exact fun z => z.elim (Nat.ne_of_lt hb) (Nat.ne_of_lt (Nat.lt_succ_of_lt hb))
    · match r2, hr2 with
      | .error _, hr2 => exact hr2
      | .ok (.ret _), hr2 =>
        obtain ⟨rfl, hp, tk, rfl, so, keep⟩ := hr2
        repeat (any_goals (first | assumption | wp_step))
        exact fin _ _ so keep
end
end DS
namespace DS
open L2 PySem PySem.Spec PyProof.Rows
section
variable {X : Cx}
/-- len(set(xs)) of a list or a tuple of texts, however many -/
def tLenS (K : PySem.W.Frag) (ta : TE) : TE := fun σ H Q => ta σ H fun x H1 => ∃ (l : Addr) (xs : List Str), x = .ref l ∧ (SqL K H1 l (xs.map V.str) ∨ SqT K H1 l (xs.map V.str)) ∧ xs.length + 1 < scanBound ∧ Q (.int (met xs xs.length).length) H1
theorem pe_lenS {a : Expr} {ta : TE} {p p2 q pos : Pos} (hc : X.calm = true) (hg : Gl X "len") (hm : X.mg "len" = none) (hg2 : Gl X "set") (hm2 : X.mg "set" = none) (ha : PE X a ta)
    (na : starEach [a] X.env = (false, eval a X.env) :: starEach [] X.env := by rfl) : PE X (.Call (.Name "len" p) [.Call (.Name "set" p2) [a] [] q] [] pos) (tLenS X.K ta) := by
  refine ⟨fun pins s σ H Q I h => Call_ (ld_blt I hg hm PySem.boot_len ?_)⟩
  refine PyProof.Rows.callWith_builtin1 (PyProof.Rows.args_cons (Call_ (ld_blt I hg2 hm2 PyProof.Rows.boot_set ?_)) rfl) rfl rfl
  refine PyProof.Rows.callWith_type1 (PyProof.Rows.args_cons (thn (ha.run pins s σ H _ I h) fun v s1 z => PyProof.Rows.args_nil ?_) na) na rfl
  obtain ⟨x, H1, J, rv, l, xs, rfl, sq, bnd, k⟩ := z
  cases rv
  have done : ∀ us : List Value, Vals (xs.map V.str) us → ∀ (hp : Heap) (tk : Nat), hp.SetOf (PySem.strKind X.prog X.w) s1.heap.objs.size (fun z => (met xs us.toArray.size).any (· == z)) (met xs us.toArray.size).length →
      (∀ b o, b < s1.heap.objs.size → s1.heap.get? b = some o → hp.get? b = some o) →
      wpAny (model X.prog X.w) X.A (spliced (backTo pos (starEach [] X.env))) (fun vs s₂ => wpAny (model X.prog X.w) X.A (call (.builtin "len") (Value.ref s1.heap.objs.size :: vs)) (EP X pins σ Q) X.xe s₂) X.xe { s1 with heap := hp, toks := tk } := fun us r hp tk so keep => by
    have e : us.toArray.size = xs.length := by rw [List.size_toArray, ← r.length, List.length_map]
    rw [e] at so
    refine PyProof.Rows.args_nil ?_
    have lt := met_le xs xs.length (Nat.le_refl _)
    obtain ⟨o, es, ep, t, ho, hx, hd, _, _, _, hf, hn⟩ := so
    have J2 : Inv X pins σ H1 { s1 with heap := hp, toks := tk } := J.kept fun b o e => keep b o (Heap.lt_size e) e
    exact call_len_set ho hx hd hf (by rw [hn]; unfold scanBound at bnd; omega) ⟨.int (met xs xs.length).length, H1, J2.tok _, ⟨_, by rw [hn]⟩, k⟩
  rcases sq with sq | sq
  · obtain ⟨us, r, pl, _⟩ := J.list sq
    have e : us.toArray.size = xs.length := by rw [List.size_toArray, ← r.length, List.length_map]
    exact set_list (J.ok.hd hc) pl.isList (by simpa using strsAre_of r) (by rw [e]; exact bnd) fun hp tk so keep => done us r hp tk so keep
  · obtain ⟨us, r, pl, _⟩ := J.tuple sq
    have e : us.toArray.size = xs.length := by rw [List.size_toArray, ← r.length, List.length_map]
    exact set_tup (J.ok.hd hc) pl (by simpa using strsAre_of r) (by rw [e]; exact bnd) fun hp tk so keep => done us r hp tk so keep
end
/-- as many as the list: all of them different -/
theorem lenS_eq (xs : List Str) : (met xs xs.length).length = xs.length ↔ xs.Nodup := by
  have h := met_all xs xs.length (Nat.le_refl _)
  rwa [List.take_length] at h
end DS
/-! ### sets of texts kept by a name; a starred text in a display -/
namespace DS
open L2 PySem PySem.Spec PyProof.Rows
/-- the set of the texts ys at a -/
def SetS (P : Program) (w : World) (a : Addr) (ys : List Str) : HO := .ext fun h => ∃ (S : Str → Bool) (n : Nat), h.SetOf (PySem.strKind P w) a S n ∧ ∀ x, S x = decide (x ∈ ys)
theorem setS_new {w : World} {P : Program} {H : Hp} {h : Heap} {a : Addr} {ys : List Str} {S : Str → Bool} {n : Nat} (R : h.SetOf (PySem.strKind P w) a S n) (e : ∀ x, S x = decide (x ∈ ys)) : ObjOk P w H h a (SetS P w a ys) := by
  have ⟨o, _, _, _, ho, _⟩ := R
  refine ⟨⟨S, n, R, e⟩, ⟨o, ho⟩, fun h1 h2 p k => ?_⟩
  obtain ⟨S', n', ⟨o', es, ep, t, ho', r⟩, e'⟩ := p
  exact ⟨S', n', ⟨o', es, ep, t, k o' ho', r⟩, e'⟩
theorem met_any (ys : List Str) (x : Str) : (met ys ys.length).any (· == x) = decide (x ∈ ys) := by
  have h := met_mem ys ys.length (Nat.le_refl _) x
  rw [List.take_length] at h
  rw [Bool.eq_iff_iff, List.any_eq_true, decide_eq_true_eq, ← h]
  constructor
  · rintro ⟨y, hy, e⟩
    exact beq_iff_eq.mp e ▸ hy
  · exact fun z => ⟨x, z, beq_self_eq_true _⟩
section
variable {X : Cx}
/-- set(xs) of a list or a tuple of texts -/
def rSetS (P : Program) (w : World) (K : PySem.W.Frag) : List V → Hp → VK → Prop := fun xs H Q => ∃ (l : Addr) (ys : List Str), xs = [.ref l] ∧ (SqL K H l (ys.map V.str) ∨ SqT K H l (ys.map V.str)) ∧ ys.length + 1 < scanBound ∧
  ∀ p, H p = none → Q (.ref p) (upd H p (SetS P w p ys))
theorem cr_setS (hc : X.calm = true) : CallR X (.type "set") (rSetS X.prog X.w X.K) := by
  intro pins s σ H xs us Q I r h
  obtain ⟨l, ys, rfl, sq, bnd, k⟩ := h
  cases r with
  | cons rv rt =>
    cases rt
    cases rv
    have done : ∀ us : List Value, Vals (ys.map V.str) us → ∀ (hp : Heap) (tk : Nat), hp.SetOf (PySem.strKind X.prog X.w) s.heap.objs.size (fun z => (met ys us.toArray.size).any (· == z)) (met ys us.toArray.size).length →
        (∀ b o, b < s.heap.objs.size → s.heap.get? b = some o → hp.get? b = some o) → EP X pins σ Q (.ref s.heap.objs.size) { s with heap := hp, toks := tk } := fun us r hp tk so keep => by
      have e : us.toArray.size = ys.length := by rw [List.size_toArray, ← r.length, List.length_map]
      rw [e] at so
      exact ⟨.ref _, upd H s.heap.objs.size (SetS X.prog X.w s.heap.objs.size ys), I.laid (t' := tk) (fun b o e => keep b o (Heap.lt_size e) e) (Nat.le_refl _) (setS_new so (met_any ys)), rfl, k _ (I.hok.fresh (Nat.le_refl _))⟩
    rcases sq with sq | sq
    · obtain ⟨us, r, pl, _⟩ := I.list sq
      have e : us.toArray.size = ys.length := by rw [List.size_toArray, ← r.length, List.length_map]
      exact set_list (I.ok.hd hc) pl.isList (by simpa using strsAre_of r) (by rw [e]; exact bnd) (done us r)
    · obtain ⟨us, r, pl, _⟩ := I.tuple sq
      have e : us.toArray.size = ys.length := by rw [List.size_toArray, ← r.length, List.length_map]
      exact set_tup (I.ok.hd hc) pl (by simpa using strsAre_of r) (by rw [e]; exact bnd) (done us r)
/-- z in found, z not in found -/
def rInS (P : Program) (w : World) : V → V → Hp → VK → Prop := fun x y H Q => ∃ (z : Str) (a : Addr) (ys : List Str), x = .str z ∧ y = V.ref a ∧ H a = some (SetS P w a ys) ∧ Q (.bl (decide (z ∈ ys))) H
def rNotInS (P : Program) (w : World) : V → V → Hp → VK → Prop := fun x y H Q => ∃ (z : Str) (a : Addr) (ys : List Str), x = .str z ∧ y = V.ref a ∧ H a = some (SetS P w a ys) ∧ Q (.bl (!decide (z ∈ ys))) H
theorem op_in_setS : OpR X (compareOp .In) (rInS X.prog X.w) := by
  intro pins s σ H x y v u Q I rx ry h
  obtain ⟨z, a, ys, rfl, rfl, ha, q⟩ := h
  cases ry
  obtain ⟨t, rfl⟩ := rx
  obtain ⟨⟨S, n, hS, e⟩, _⟩ := I.hok a _ ha
  refine wpAny_inSet_of (PySem.strKind_is _ _ z t) rfl hS ⟨.bl (decide (z ∈ ys)), H, I.tok _, ?_, q⟩
  rw [e]
  rfl
theorem op_notin_setS : OpR X (compareOp .NotIn) (rNotInS X.prog X.w) := by
  intro pins s σ H x y v u Q I rx ry h
  obtain ⟨z, a, ys, rfl, rfl, ha, q⟩ := h
  cases ry
  obtain ⟨t, rfl⟩ := rx
  obtain ⟨⟨S, n, hS, e⟩, _⟩ := I.hok a _ ha
  refine wpAny_notInSet_of (PySem.strKind_is _ _ z t) rfl hS ⟨.bl (!decide (z ∈ ys)), H, I.tok _, ?_, q⟩
  rw [e]
  rfl
/-- *z, z a text, in a display -/
def tStarT (te : TE) (t : TA) : TA := fun σ H Q => te σ H fun x H1 => ∃ z : Str, x = .str z ∧ z.cps.size ≤ sizeLine ∧ t σ H1 fun ys H2 => Q (z.cps.toList.map (fun c => V.str ⟨#[c]⟩) ++ ys) H2
theorem signs_vals {z : Str} {acc : Array Value} (h : ItemsOf (SignAt z) acc z.cps.size) : Vals (z.cps.toList.map (fun c => V.str ⟨#[c]⟩)) acc.toList := by
  obtain ⟨hs, hi⟩ := h
  have go : ∀ (cs : List Nat) (us : List Value), us.length = cs.length → (∀ (j : Nat) (v : Value), us[j]? = some v → ∃ c u, cs[j]? = some c ∧ v = .str ⟨#[c]⟩ u) → Vals (cs.map (fun c => V.str ⟨#[c]⟩)) us := by
    intro cs
    induction cs with
    | nil =>
      intro us hl _
      cases us with
      | nil => exact .nil
      | cons _ _ => cases hl
    | cons c cs ih =>
      intro us hl hj
      cases us with
      | nil => cases hl
      | cons u us =>
        obtain ⟨c', t, e1, e2⟩ := hj 0 u rfl
        cases e1
        exact .cons ⟨t, e2⟩ (ih us (by simpa using hl) fun j v e => hj (j + 1) v e)
  refine go _ _ (by simp [hs]) fun j v e => ?_
  obtain ⟨c, u, e1, e2⟩ := hi j v (by simpa using e)
  exact ⟨c, u, by simpa using e1, e2⟩
theorem pa_starT {e : Expr} {es : List Expr} {te : TE} {t : TA} {p : Pos} (hc : X.calm = true) (he : PE X e te) (hr : PA X es t) (hs : starEach (.Starred e p :: es) X.env = (true, eval e X.env) :: starEach es X.env := by rfl) : PA X (.Starred e p :: es) (tStarT te t) := by
  refine ⟨fun pos pins s σ H Q I h => ?_⟩
  refine PySem.W.items_star (thn (he.run pins s σ H _ I h) fun v s1 ⟨y, H1, I1, ry, z, ey, hz, q⟩ => ?_) hs
  subst ey
  obtain ⟨k, rfl⟩ := ry
  unfold PySem.W.StarOf notIterableAtAll
  refine wpAny_bind (wpAny_specialOf (T := "str") (v := .str z k) rfl PySem.F.slot_str_iter.lookup (wpAny_pure ⟨rfl, ?_⟩))
  refine PySem.wpAny_collect_str (I1.ok.hd hc) z k (fun s' acc kp eg ed eo it => ?_) hz
  obtain ⟨hp, gs, dr, tk, os⟩ := s'
  subst eg ed eo
  have I2 : Inv X pins σ H1 { s1 with heap := hp, toks := tk } := I1.kept kp
  exact thn (hr.run pos pins _ σ H1 _ I2 q) fun ws s3 ⟨vs, H3, I3, r3, q3⟩ => ⟨_ ++ vs, H3, I3, (signs_vals it).append r3, q3⟩
end
end DS
namespace Bxs
open PySem L2
theorem mulS {X : Cx} : OpR X (binaryOp .Mult) (fun x y H Q => ∃ z n, x = .str z ∧ y = .int n ∧ PySem.MulOk z n ∧ Q (.str (PySem.Txt.mul z n)) H) := by
  intro pins s σ H x y v u Q I rx ry h
  obtain ⟨z, n, rfl, rfl, ok, q⟩ := h
  obtain ⟨t, rfl⟩ := rx
  obtain ⟨t2, rfl⟩ := ry
  exact PySem.SB.mul ok fun t' k => ⟨.str _, H, I.tok _, ⟨_, rfl⟩, q⟩
abbrev abc : Str := "abcdefghijklmnopqrstuvwxyz"
theorem abc_list : abc.cps.toList = List.range' 97 26 := by decide +kernel
theorem letter_at {j : Nat} (h : j < 26) {x : Int} (hx : x = (j : Int)) : atI abc.cps.toList x = some (97 + j) := by
  subst hx
  refine atI_nat ?_
  rw [abc_list, List.getElem?_range' (by omega)]
  simp
def mkS (L : List Nat) : Str := ⟨L.toArray⟩
theorem mkS_list (L : List Nat) : (mkS L).cps.toList = L := by simp [mkS]
theorem eq_mkS {z : Str} {L : List Nat} (h : z.cps.toList = L) : z = mkS L := PySem.Str.ext' (Array.toList_inj.mp (by rw [h, mkS_list]))
theorem mkS_inj {a b : List Nat} (h : mkS a = mkS b) : a = b := by
  have := congrArg (fun z : Str => z.cps.toList) h
  simpa [mkS_list] using this
def okw (L : List Nat) : Prop := 1 ≤ L.length ∧ L.length ≤ 6 ∧ ∀ c ∈ L, 97 ≤ c ∧ c ≤ 122
theorem word_of {L : List Nat} (h : okw L) : word (.str (mkS L)) = true := by
  obtain ⟨h1, h2, h3⟩ := h
  have hl : (mkS L).length = L.length := by rw [len_list, mkS_list]
  have ha : L.all az = true := List.all_eq_true.mpr fun c hc => by
    have := h3 c hc
    simp [az, this]
  simp [word, hl, h1, h2, mkS_list, ha]
theorem okw_of {z : Str} (h : word (.str z) = true) : okw z.cps.toList := by
  simp only [word, Bool.and_eq_true, decide_eq_true_eq] at h
  refine ⟨h.1.1, h.1.2, fun c hc => ?_⟩
  have := List.all_eq_true.mp h.2 c hc
  simpa [az] using this
theorem word_gd {z : Str} (h : word (.str z) = true) : Gd z := by
  obtain ⟨h1, h2, h3⟩ := okw_of h
  have hl : z.length = z.cps.toList.length := rfl
  exact ⟨by omega, fun c hc => by have := h3 c hc; omega⟩
theorem cut_hi (z : Str) {v : Int} (h : 0 ≤ v) : (cutS z none (some v)).cps.toList = z.cps.toList.take v.toNat := by
  obtain ⟨k, rfl⟩ := Int.eq_ofNat_of_zero_le h
  unfold cutS
  rw [HT.sIx_nat, HT.sIx_none]
  have hz : z.length = z.cps.toList.length := rfl
  simp only [List.drop_zero, Nat.sub_zero, List.toList_toArray, Int.toNat_natCast]
  rcases Nat.le_total k z.length with hk | hk
  · rw [Nat.min_eq_left hk]
  · rw [Nat.min_eq_right hk, List.take_of_length_le (by omega), List.take_of_length_le (by omega)]
theorem cut_lo (z : Str) {v : Int} (h : 0 ≤ v) : (cutS z (some v) none).cps.toList = z.cps.toList.drop v.toNat := by
  obtain ⟨k, rfl⟩ := Int.eq_ofNat_of_zero_le h
  unfold cutS
  rw [HT.sIx_nat, HT.sIx_none]
  have hz : z.length = z.cps.toList.length := rfl
  simp only [List.toList_toArray, Int.toNat_natCast]
  rcases Nat.le_total k z.length with hk | hk
  · rw [Nat.min_eq_left hk, List.take_of_length_le (by rw [List.length_drop]; omega)]
  · rw [Nat.min_eq_right hk, List.drop_of_length_le (i := k) (by omega), List.drop_of_length_le (by omega)]
    simp
theorem cut_mid (z : Str) {a b : Nat} (ha : a ≤ z.length) (hb : b ≤ z.length) : (cutS z (some (a : Int)) (some (b : Int))).cps.toList = (z.cps.toList.drop a).take (b - a) := by
  unfold cutS
  rw [HT.sIx_nat, HT.sIx_nat, Nat.min_eq_left ha, Nat.min_eq_left hb]
theorem mul_one (c : Nat) {n : Int} (h1 : 1 ≤ n) (h2 : n ≤ 6) : PySem.MulOk ⟨#[c]⟩ n ∧ (PySem.Txt.mul ⟨#[c]⟩ n).cps.toList = List.replicate n.toNat c := by
  have hx : (⟨#[c]⟩ : Str).length = 1 := rfl
  refine ⟨⟨?_, fun _ _ => ?_, fun _ _ => ?_⟩, ?_⟩
  · rcases (show n = 1 ∨ n = 2 ∨ n = 3 ∨ n = 4 ∨ n = 5 ∨ n = 6 by omega) with rfl | rfl | rfl | rfl | rfl | rfl <;> decide
  · rw [hx]
    rcases (show n = 1 ∨ n = 2 ∨ n = 3 ∨ n = 4 ∨ n = 5 ∨ n = 6 by omega) with rfl | rfl | rfl | rfl | rfl | rfl <;> decide
  · rw [hx]
    rcases (show n = 1 ∨ n = 2 ∨ n = 3 ∨ n = 4 ∨ n = 5 ∨ n = 6 by omega) with rfl | rfl | rfl | rfl | rfl | rfl <;> decide
  · rcases (show n = 1 ∨ n = 2 ∨ n = 3 ∨ n = 4 ∨ n = 5 ∨ n = 6 by omega) with rfl | rfl | rfl | rfl | rfl | rfl <;> simp [PySem.Txt.mul, hx, List.replicate]
/-! the three ways -/
def g0 (S : List Nat) (at_ k : Nat) : List Nat := if k < 4 then S.take (4 - k) else S ++ [97 + (at_ + k) % 26]
def g1 (S : List Nat) (at_ sp k : Nat) : List Nat := (S.take sp ++ [97 + (at_ + 7 * k) % 26]) ++ (S.drop sp).take (3 - sp)
def g2 (at_ k : Nat) : List Nat := List.replicate (6 - k % 6) (97 + (at_ + 5 * k) % 26)
def okS (S : List Nat) : Prop := S.length = 4 ∧ ∀ c ∈ S, 97 ≤ c ∧ c ≤ 122
theorem g0_ok {S : List Nat} (h : okS S) (at_ k : Nat) : okw (g0 S at_ k) := by
  obtain ⟨h1, h2⟩ := h
  unfold g0
  split
  · refine ⟨by rw [List.length_take]; omega, by rw [List.length_take]; omega, fun c hc => h2 c (List.mem_of_mem_take hc)⟩
  · refine ⟨by simp, by simp [h1], fun c hc => ?_⟩
    rcases List.mem_append.mp hc with hc | hc
    · exact h2 c hc
    · rw [List.mem_singleton.mp hc]
      omega
theorem g1_ok {S : List Nat} (h : okS S) (at_ sp k : Nat) (hs : sp < 4) : okw (g1 S at_ sp k) := by
  obtain ⟨h1, h2⟩ := h
  unfold g1
  refine ⟨by simp; omega, ?_, fun c hc => ?_⟩
  · simp only [List.length_append, List.length_take, List.length_drop, List.length_cons, List.length_nil, h1]
    omega
  · rcases List.mem_append.mp hc with hc | hc
    · rcases List.mem_append.mp hc with hc | hc
      · exact h2 c (List.mem_of_mem_take hc)
      · rw [List.mem_singleton.mp hc]
        omega
    · exact h2 c (List.mem_of_mem_drop (List.mem_of_mem_take hc))
theorem g2_ok (at_ k : Nat) : okw (g2 at_ k) := by
  unfold g2
  refine ⟨by rw [List.length_replicate]; omega, by rw [List.length_replicate]; omega, fun c hc => ?_⟩
  rw [(List.mem_replicate.mp hc).2]
  omega
theorem g0_inj {S : List Nat} (h : okS S) (at_ : Nat) {i j : Nat} (hij : i < j) (hj : j < 20) : g0 S at_ i ≠ g0 S at_ j := by
  obtain ⟨h1, h2⟩ := h
  intro e
  have el := congrArg List.length e
  unfold g0 at e el
  split at e <;> split at e
  · rename_i hi hj'
    rw [if_pos hi, if_pos hj', List.length_take, List.length_take] at el
    omega
  · rename_i hi hj'
    rw [if_pos hi, if_neg hj', List.length_take, List.length_append, List.length_singleton] at el
    omega
  · rename_i hi hj'
    omega
  · have e2 := List.append_cancel_left e
    injection e2 with e3
    omega
theorem g1_inj {S : List Nat} (h : okS S) (at_ sp : Nat) (hs : sp < 4) {i j : Nat} (hij : i < j) (hj : j < 20) : g1 S at_ sp i ≠ g1 S at_ sp j := by
  intro e
  unfold g1 at e
  rw [List.append_assoc, List.append_assoc] at e
  have e2 := List.append_cancel_left e
  injection e2 with e3
  omega
theorem g2_inj (at_ : Nat) {i j : Nat} (hij : i < j) (hj : j < 20) : g2 at_ i ≠ g2 at_ j := by
  intro e
  unfold g2 at e
  have h1 : 6 - i % 6 = (5 - i % 6) + 1 := by omega
  have h2 : 6 - j % 6 = (5 - j % 6) + 1 := by omega
  rw [h1, h2, List.replicate_succ, List.replicate_succ] at e
  injection e with e3
  omega
theorem nodup_of {g : Nat → List Nat} {m : Nat} (h : ∀ i j, i < j → j < m → g i ≠ g j) : ((List.range m).map fun k => mkS (g k)).Nodup := by
  unfold List.Nodup
  rw [List.pairwise_map]
  refine (List.pairwise_lt_range).imp_of_mem ?_
  intro i j hi hj hij e
  exact h i j hij (List.mem_range.mp hj) (mkS_inj e)
theorem join_list (cs : List Nat) : (Txt.join ("" : Str) (cs.map fun c => mkS [c])).cps.toList = cs := by
  rw [TL.join_eq]
  show TL.tl (Str.join ("" : Str) (cs.map fun c => mkS [c])) = cs
  rw [TL.tl_join]
  show TL.joinL [] ((cs.map fun c => mkS [c]).map TL.tl) = cs
  rw [joinL_nil]
  induction cs with
  | nil => rfl
  | cons c cs ih =>
    simp only [List.map_cons, List.flatten_cons, ih]
    rfl
def spWords : Sp := fun vs H Q _ => ∃ (p : Addr) (m : Int), vs = [.ref p, .int m] ∧ Bx H p ∧ 0 ≤ m ∧ m ≤ 20 ∧ ∀ (l : Addr) (ys : List Str) (H' : Hp), Al p H H' → H l = none → l ≠ p →
  H' l = some (.lst (ys.map V.str)) → (ys.length : Int) = m → (∀ y ∈ ys, word (.str y) = true) → ys.Nodup → Q (.ref l) H'
section
variable {P : Program} {w : World} {K : PySem.W.Frag} {mg : Str → Option Value} {base : Heap}
abbrev wordsN : List Str := ["_law_box_here", "_law_many", "_law_letters", "_law_stem", "_law_way", "_law_at", "_law_spot", "_law_k"]
theorem scWords : FnScope wordsN ["_law_box_here", "_law_many"] (defScope sWords) := ⟨rfl, rfl, rfl, by decide +kernel, rfl, by decide +kernel, by decide +kernel⟩
theorem ok_words {f g : Addr} {fd gd : FuncData} (F : Fun K "_law_words" "_law_words" sWords f fd) (G : Fun K "_law_take" "_law_take" sTake g gd) (b : Binds K gd ["_law_box_here", "_law_size"] []) (gT : mg "_law_take" = some (.ref g)) (T : Blt mg) :
    FnOk P w K mg base CX0 2 f fd ["_law_box_here", "_law_many"] spWords := by
  refine F.ok scWords (fun vs H Q E h => ?_) (fun cdv A outer s H vs Q E hr h => ?_)
  · obtain ⟨_, _, rfl, _⟩ := h
    rfl
  · obtain ⟨p, m, rfl, B0, hm0, hm1, hQ⟩ := h
    have nd := scWords.nd
    have GT := ok_take (P := P) (w := w) (base := base) G T.int
    refine ⟨_, (pss_cons (ps_set (i := 2) nd rfl (Or.inr rfl) pe_str) <|
      pss_cons (ps_set (i := 3) nd rfl (Or.inr rfl) (pe_join pe_str (pe_lc (own := [("_law_k", 7)]) (g := gName 7) (tt := tYes) rfl nd (pi_range1 (by rfl) T.rng (pa_cons pe_int pa_nil))
        (blkOk_by (own := [("_law_k", 7)]) (N := wordsN) (sc := defScope sWords) (by decide +kernel)) (fun _ _ _ _ _ => pg_name (i := 7) nd rfl (Or.inl rfl)) (fun _ _ _ _ _ => pts_nil)
        (fun _ _ _ _ _ => pe_ix ix_str (pv 2) (pe_call GT hr (by rfl) gT G.kp b .nil pass0 (pa_cons (pv 0) (pa_cons pe_int pa_nil))) (fun _ _ => rfl))))) <|
      pss_cons (ps_asg (pe_tup (pa_cons (pe_call GT hr (by rfl) gT G.kp b .nil pass0 (pa_cons (pv 0) (pa_cons pe_int pa_nil))) (pa_cons (pe_call GT hr (by rfl) gT G.kp b .nil pass0 (pa_cons (pv 0) (pa_cons pe_int pa_nil)))
          (pa_cons (pe_call GT hr (by rfl) gT G.kp b .nil pass0 (pa_cons (pv 0) (pa_cons pe_int pa_nil))) pa_nil))))
        (pg_tup (by rfl) (pgs_cons (pg_name (i := 4) nd rfl (Or.inl rfl)) (pgs_cons (pg_name (i := 5) nd rfl (Or.inr rfl)) (pgs_cons (pg_name (i := 6) nd rfl (Or.inr rfl)) pgs_nil))))) <|
      pss_cons (ps_if (pt_cmpR op_eq (pv 4) pe_int (nomark _)) (pss_one (ps_ret (pe_lc (own := [("_law_k", 7)]) (g := gName 7) (tt := tYes) rfl nd (pi_range1 (by rfl) T.rng (pa_cons (pv 1) pa_nil))
        (blkOk_by (own := [("_law_k", 7)]) (N := wordsN) (sc := defScope sWords) (by decide +kernel)) (fun _ _ _ _ _ => pg_name (i := 7) nd rfl (Or.inl rfl)) (fun _ _ _ _ _ => pts_nil)
        (fun _ _ _ _ _ => pe_ifExp (pt_cmpR op_lt (pv 7) pe_int (nomark _)) (pe_slice sl_str (pv 3) po_none (po_some (pe_op op_sub pe_int (pv 7))))
          (pe_op op_add_str (pv 3) (pe_ix ix_str (pv 2) (pe_op op_mod (pe_op op_add (pv 5) (pv 7)) pe_int) (fun _ _ => rfl))))))) pss_nil) <|
      pss_cons (ps_if (pt_cmpR op_eq (pv 4) pe_int (nomark _)) (pss_one (ps_ret (pe_lc (own := [("_law_k", 7)]) (g := gName 7) (tt := tYes) rfl nd (pi_range1 (by rfl) T.rng (pa_cons (pv 1) pa_nil))
        (blkOk_by (own := [("_law_k", 7)]) (N := wordsN) (sc := defScope sWords) (by decide +kernel)) (fun _ _ _ _ _ => pg_name (i := 7) nd rfl (Or.inl rfl)) (fun _ _ _ _ _ => pts_nil)
        (fun _ _ _ _ _ => pe_op op_add_str (pe_op op_add_str (pe_slice sl_str (pv 3) po_none (po_some (pv 6))) (pe_ix ix_str (pv 2) (pe_op op_mod (pe_op op_add (pv 5) (pe_op op_mul pe_int (pv 7))) pe_int) (fun _ _ => rfl)))
          (pe_slice sl_str (pv 3) (po_some (pv 6)) (po_some pe_int)))))) pss_nil) <|
      pss_one (ps_ret (pe_lc (own := [("_law_k", 7)]) (g := gName 7) (tt := tYes) rfl nd (pi_range1 (by rfl) T.rng (pa_cons (pv 1) pa_nil))
        (blkOk_by (own := [("_law_k", 7)]) (N := wordsN) (sc := defScope sWords) (by decide +kernel)) (fun _ _ _ _ _ => pg_name (i := 7) nd rfl (Or.inl rfl)) (fun _ _ _ _ _ => pts_nil)
        (fun _ _ _ _ _ => pe_op mulS (pe_ix ix_str (pv 2) (pe_op op_mod (pe_op op_add (pv 5) (pe_op op_mul pe_int (pv 7))) pe_int) (fun _ _ => rfl)) (pe_op op_sub pe_int (pe_op op_mod (pv 7) pe_int)))))), ?_⟩
    -- the stem
    refine ⟨⟨_, rfl⟩, _, rfl, by decide, by decide, fun D hD => ?_⟩
    have nDp : D ≠ p := (B0.ne hD).symm
    refine lc_range (lo := 0) (n := _) (fun i H' => Al p H H' ∧ ∃ cs : List Nat, H' D = some (.lst ((cs.map fun c => mkS [c]).map V.str)) ∧ cs.length = i ∧ ∀ c ∈ cs, 97 ≤ c ∧ c ≤ 122)
      ⟨Al.up B0 hD, [], upd_same, rfl, fun y hy => nomatch hy⟩ ?_ ?_
    · rintro i H2 hi ⟨k2, cs, d2, el, hcs⟩
      refine ⟨rfl, yes_of ?_⟩
      refine ⟨_, rfl, _, rfl, p, 26, rfl, k2.1, by decide, by decide, fun d H3 h0 h1 tk3 => ?_⟩
      obtain ⟨dn, rfl⟩ := Int.eq_ofNat_of_zero_le h0
      have hdn : dn < 26 := by omega
      refine ⟨_, _, 97 + dn, rfl, rfl, by decide +kernel, letter_at hdn rfl, _, (tk3.2 D nDp).trans d2, ?_, ?_⟩
      · rw [List.length_map, List.length_map, el]
        exact Nat.lt_of_lt_of_le (show i < 10 by have : i < 4 := hi; omega) (by decide)
      · refine ⟨⟨?_, fun q o n e => ?_⟩, cs ++ [97 + dn], by rw [upd_same, List.map_append, List.map_append]; rfl, by simp [el], fun c hc => ?_⟩
        · obtain ⟨a1, a2, a3, e⟩ := tk3.1
          exact ⟨a1, a2, a3, by rw [upd_ne nDp.symm]; exact e⟩
        · rw [upd_ne (fun z => by subst z; rw [hD] at e; cases e)]
          exact (tk3.2 q n).trans (k2.2 q o n e)
        · rcases List.mem_append.mp hc with hc | hc
          · exact hcs c hc
          · rw [List.mem_singleton.mp hc]
            omega
    · rintro H2 ⟨k2, cs, d2, el, hcs⟩
      have el4 : cs.length = 4 := el
      have okS1 : okS cs := ⟨el4, hcs⟩
      have hone : ∀ y ∈ cs.map (fun c => mkS [c]), y.length = 1 := fun y hy => by
        obtain ⟨c, _, rfl⟩ := List.mem_map.mp hy
        rfl
      have hsum := sum_len _ hone
      rw [List.length_map] at hsum
      refine ⟨_, _, _, rfl, rfl, .inl (SqL.of d2), by rw [hsum, List.length_map]; show cs.length + cs.length * 0 ≤ 16777216; omega, ?_⟩
      rw [eq_mkS (join_list cs)]
      refine ⟨_, rfl, p, 3, rfl, k2.1, by decide, by decide, fun way H3 _ _ tk3 => ⟨_, rfl, p, 26, rfl, tk3.1, by decide, by decide, fun at_ H4 at0 at1 tk4 => ⟨_, rfl, p, 4, rfl, tk4.1, by decide, by decide, fun sp H5 sp0 sp1 tk5 => ⟨by show 3 ≤ sizeLine; decide, fun t nt => ?_⟩⟩⟩⟩
      refine ⟨t, _, rfl, SqT.of upd_same, rfl, ?_⟩
      obtain ⟨an, rfl⟩ := Int.eq_ofNat_of_zero_le at0
      obtain ⟨sn, rfl⟩ := Int.eq_ofNat_of_zero_le sp0
      have hsn : sn < 4 := by omega
      obtain ⟨mn, rfl⟩ := Int.eq_ofNat_of_zero_le hm0
      have hmn : mn ≤ 20 := by omega
      have al6 : Al p H (upd H5 t (.tup [.int way, .int (an : Int), .int (sn : Int)])) := k2.trans (tk3.al.trans (tk4.al.trans (tk5.al.trans (Al.up tk5.1 nt))))
      generalize upd H5 t (.tup [.int way, .int (an : Int), .int (sn : Int)]) = H6 at al6
      have sl : (mkS cs).length = 4 := by rw [len_list, mkS_list]; exact el4
      -- the end of each way: a new list of the words of g
      have fin : ∀ (g : Nat → List Nat), (∀ k, k < 20 → okw (g k)) → (∀ i j, i < j → j < 20 → g i ≠ g j) → ∀ (B : Addr) (H' : Hp), H6 B = none → Al p H6 H' → H' B = some (.lst (((List.range mn).map fun k => mkS (g k)).map V.str)) → Q (.ref B) H' := by
        intro g hg hinj B H' hB k' d'
        refine hQ B _ H' (al6.trans k') (al6.free B0 hB) (al6.1.ne hB).symm d' (by rw [List.length_map, List.length_range]) (fun y hy => ?_) (nodup_of fun i j hij hj => hinj i j hij (by omega))
        obtain ⟨k, hk, rfl⟩ := List.mem_map.mp hy
        exact word_of (hg k (by have := List.mem_range.mp hk; omega))
      have grow : ∀ (g : Nat → List Nat) (B : Addr) (i : Nat) (H' : Hp), H6 B = none → i < 20 → (Al p H6 H' ∧ H' B = some (.lst (((List.range i).map fun k => mkS (g k)).map V.str))) →
          ∃ acc, H' B = some (.lst acc) ∧ acc.length < sizeLine ∧ (Al p H6 (upd H' B (.lst (acc ++ [.str (mkS (g i))]))) ∧ upd H' B (.lst (acc ++ [.str (mkS (g i))])) B = some (.lst (((List.range (i + 1)).map fun k => mkS (g k)).map V.str))) := by
        intro g B i H' hB hi ⟨k', d'⟩
        have nBp : B ≠ p := (al6.1.ne hB).symm
        refine ⟨_, d', ?_, ⟨?_, fun q o n e => ?_⟩, ?_⟩
        · rw [List.length_map, List.length_map, List.length_range]
          exact Nat.lt_of_lt_of_le hi (by decide)
        · obtain ⟨a1, a2, a3, e⟩ := k'.1
          exact ⟨a1, a2, a3, by rw [upd_ne nBp.symm]; exact e⟩
        · rw [upd_ne (fun z => by subst z; rw [hB] at e; cases e)]
          exact k'.2 q o n e
        · rw [upd_same, List.range_succ, List.map_append, List.map_append]
          rfl
      have first : ∀ (g : Nat → List Nat) (B : Addr), H6 B = none → Al p H6 (upd H6 B (.lst [])) ∧ upd H6 B (.lst []) B = some (.lst (((List.range 0).map fun k => mkS (g k)).map V.str)) := fun g B hB => ⟨Al.up al6.1 hB, upd_same⟩
      have bnd : -(2 ^ 62) ≤ ((mn : Nat) : Int) ∧ ((mn : Nat) : Int) < 2 ^ 62 := by omega
      refine ⟨_, _, rfl, _, _, rfl, _, _, rfl, rfl, ?_⟩
      refine ⟨_, rfl, rfl, _, rfl, ?_⟩
      refine ite2 (fun _ => ?_) (fun _ => ?_)
      · refine ⟨_, rfl, _, rfl, bnd.1, bnd.2, fun B hB => ?_⟩
        refine lc_range (lo := 0) (n := _) (fun i H' => Al p H6 H' ∧ H' B = some (.lst (((List.range i).map fun k => mkS (g0 cs an k)).map V.str))) (first (g0 cs an) B hB) ?_ (fun H' k' => fin (g0 cs an) (fun k _ => g0_ok okS1 an k) (fun i j => g0_inj okS1 an) B H' hB k'.1 k'.2)
        intro i H' hi k'
        have hi' : i < mn := hi
        refine ⟨rfl, yes_of ?_⟩
        have gr := grow (g0 cs an) B i H' hB (by omega) k'
        refine ⟨_, rfl, _, _, rfl, rfl, _, rfl, ?_⟩
        refine ite2 (fun h => ?_) (fun h => ?_)
        · have h4 : i < 4 := by
            have := of_decide_eq_true h
            omega
          have e : cutS (mkS cs) none (some (4 - (0 + (i : Int)))) = mkS (g0 cs an i) := by
            refine eq_mkS ?_
            rw [cut_hi _ (by omega), mkS_list, g0, if_pos h4]
            congr 1
            omega
          refine ⟨_, rfl, _, rfl, _, _, rfl, rfl, _, rfl, _, rfl, line (by omega), ?_⟩
          rw [e]
          exact gr
        · have h4 : ¬ i < 4 := fun z => h (decide_eq_true (by omega))
          refine ⟨_, rfl, _, rfl, _, rfl, _, rfl, _, _, rfl, rfl, _, _, rfl, rfl, by show (0 : Int) < 26; decide, _, _, 97 + (an + i) % 26, rfl, rfl, by decide +kernel, letter_at (Nat.mod_lt _ (by decide)) (by omega), _, _, rfl, rfl, ?_, ?_⟩
          · have h1 : (⟨#[97 + (an + i) % 26]⟩ : Str).length = 1 := rfl
            exact line (by omega)
          · have e : mkS cs ++ ⟨#[97 + (an + i) % 26]⟩ = mkS (g0 cs an i) := by
              refine eq_mkS ?_
              rw [toList_app, mkS_list, g0, if_neg h4]
            rw [e]
            exact gr
      refine ⟨_, rfl, rfl, _, rfl, ?_⟩
      refine ite2 (fun _ => ?_) (fun _ => ?_)
      · refine ⟨_, rfl, _, rfl, bnd.1, bnd.2, fun B hB => ?_⟩
        refine lc_range (lo := 0) (n := _) (fun i H' => Al p H6 H' ∧ H' B = some (.lst (((List.range i).map fun k => mkS (g1 cs an sn k)).map V.str))) (first (g1 cs an sn) B hB) ?_ (fun H' k' => fin (g1 cs an sn) (fun k _ => g1_ok okS1 an sn k hsn) (fun i j => g1_inj okS1 an sn hsn) B H' hB k'.1 k'.2)
        intro i H' hi k'
        have hi' : i < mn := hi
        refine ⟨rfl, yes_of ?_⟩
        have gr := grow (g1 cs an sn) B i H' hB (by omega) k'
        have c1 := cutS_length (mkS cs) (none : Option Int) (some ((sn : Nat) : Int))
        have c2 := cutS_length (mkS cs) (some ((sn : Nat) : Int)) (some 3)
        have h1 : (⟨#[97 + (an + 7 * i) % 26]⟩ : Str).length = 1 := rfl
        have l1 := len_app (cutS (mkS cs) none (some ((sn : Nat) : Int))) ⟨#[97 + (an + 7 * i) % 26]⟩
        refine ⟨_, rfl, _, rfl, _, rfl, _, rfl, line (by omega), _, rfl, _, rfl, _, rfl, _, _, rfl, rfl, .inl ⟨by decide, by decide⟩, _, _, rfl, rfl, _, _, rfl, rfl, by show (0 : Int) < 26; decide,
          _, _, 97 + (an + 7 * i) % 26, rfl, rfl, by decide +kernel, letter_at (Nat.mod_lt _ (by decide)) (by omega), _, _, rfl, rfl, line (by omega), _, rfl, _, rfl, _, rfl, _, rfl, _, rfl, line (by omega), _, _, rfl, rfl, line (by omega), ?_⟩
        have e : (cutS (mkS cs) none (some ((sn : Nat) : Int)) ++ ⟨#[97 + (an + 7 * i) % 26]⟩) ++ cutS (mkS cs) (some ((sn : Nat) : Int)) (some 3) = mkS (g1 cs an sn i) := by
          refine eq_mkS ?_
          have e3 := cut_mid (mkS cs) (a := sn) (b := 3) (by omega) (by omega)
          rw [toList_app, toList_app, cut_hi _ (by omega), mkS_list, g1]
          rw [mkS_list] at e3
          have e4 : (cutS (mkS cs) (some ((sn : Nat) : Int)) (some 3)).cps.toList = (cs.drop sn).take (3 - sn) := e3
          rw [e4]
          rfl
        rw [e]
        exact gr
      · refine ⟨_, rfl, _, rfl, bnd.1, bnd.2, fun B hB => ?_⟩
        refine lc_range (lo := 0) (n := _) (fun i H' => Al p H6 H' ∧ H' B = some (.lst (((List.range i).map fun k => mkS (g2 an k)).map V.str))) (first (g2 an) B hB) ?_ (fun H' k' => fin (g2 an) (fun k _ => g2_ok an k) (fun i j => g2_inj an) B H' hB k'.1 k'.2)
        intro i H' hi k'
        have hi' : i < mn := hi
        refine ⟨rfl, yes_of ?_⟩
        have gr := grow (g2 an) B i H' hB (by omega) k'
        obtain ⟨m1, m2⟩ := mul_one (97 + (an + 5 * i) % 26) (n := 6 - (0 + (i : Int)) % 6) (by omega) (by omega)
        refine ⟨_, rfl, _, rfl, _, rfl, _, _, rfl, rfl, .inl ⟨by decide, by decide⟩, _, _, rfl, rfl, _, _, rfl, rfl, by show (0 : Int) < 26; decide,
          _, _, 97 + (an + 5 * i) % 26, rfl, rfl, by decide +kernel, letter_at (Nat.mod_lt _ (by decide)) (by omega), _, rfl, _, _, rfl, rfl, by show (0 : Int) < 6; decide, _, _, rfl, rfl, _, _, rfl, rfl, m1, ?_⟩
        have e : PySem.Txt.mul ⟨#[97 + (an + 5 * i) % 26]⟩ (6 - (0 + (i : Int)) % 6) = mkS (g2 an i) := by
          refine eq_mkS ?_
          rw [m2, g2]
          congr 1
          omega
        rw [e]
        exact gr
end
end Bxs
namespace Bxs
open PySem L2
def rowS (i : Nat) : List Str := (List.range 26).map fun j => mkS [97 + i, 97 + j]
def singles : List Str := (List.range 26).map fun i => mkS [97 + i]
def cands : List Str := singles ++ (List.range 26).flatMap rowS
/-- left.pop(take(box, len(left))), the box in slot 0, the list in slot 2 -/
def tPop : TE := fun σ H Q => ∃ (p l : Addr) (xs : List V), σ[0]? = some (some (.ref p)) ∧ σ[2]? = some (some (.ref l)) ∧ l ≠ p ∧ Bx H p ∧ H l = some (.lst xs) ∧ 0 < xs.length ∧ xs.length < 1000 ∧
  ∀ (d : Nat) (y : V) (H3 : Hp), Tk p H H3 → xs[d]? = some y → Q y (upd H3 l (.lst (xs.eraseIdx d)))
def spRanked : Sp := fun vs H Q _ => vs = [] ∧ ∀ (l : Addr) (H' : Hp), Same H H' → H l = none → H' l = some (.lst (cands.map V.str)) → Q (.ref l) H'
def spMixed : Sp := fun vs H Q _ => ∃ (p a : Addr) (ys : List Str), vs = [.ref p, .ref a] ∧ Bx H p ∧ a ≠ p ∧ H a = some (.lst (ys.map V.str)) ∧ ys.length ≤ 200 ∧
  ∀ (l : Addr) (zs : List Str) (H' : Hp), Al p H H' → H l = none → l ≠ p → H' l = some (.lst (zs.map V.str)) → zs.length = ys.length → (∀ z ∈ zs, z ∈ ys) → Q (.ref l) H'
theorem abc_at {i : Nat} {c : Nat} (h : abc.cps[i]? = some c) : i < 26 ∧ c = 97 + i := by
  have h2 : abc.cps.toList[i]? = some c := by simpa using h
  rw [abc_list] at h2
  have hi : i < 26 := by
    have := (List.getElem?_eq_some_iff.mp h2).1
    simpa using this
  rw [List.getElem?_range' hi] at h2
  injection h2 with h2
  exact ⟨hi, by omega⟩
theorem seq_ix {n : Nat} {i : Int} (h0 : 0 ≤ i) (h1 : i < (n : Int)) : seqIndex? i n = some i.toNat := by
  unfold seqIndex?
  have e1 : (if i < 0 then i + (n : Int) else i) = i := if_neg (by omega)
  simp [e1]
  omega
theorem erase_map {α β : Type} (f : α → β) : ∀ (l : List α) (n : Nat), (l.map f).eraseIdx n = (l.eraseIdx n).map f
  | [], _ => rfl
  | _ :: _, 0 => rfl
  | a :: l, n + 1 => by
    show f a :: (l.map f).eraseIdx n = f a :: (l.eraseIdx n).map f
    rw [erase_map f l n]
theorem popAt {X : Cx} : MtR X "list.pop" rPopAt := mt_popAt
section
variable {P : Program} {w : World} {K : PySem.W.Frag} {mg : Str → Option Value} {base : Heap}
theorem scRanked : FnScope ["_law_letters", "_law_one", "_law_found", "_law_other"] [] (defScope sRanked) := ⟨rfl, rfl, rfl, by decide +kernel, rfl, by decide +kernel, by decide +kernel⟩
theorem ok_ranked {f : Addr} {fd : FuncData} (F : Fun K "_law_ranked" "_law_ranked" sRanked f fd) : FnOk P w K mg base CX0 1 f fd [] spRanked := by
  refine F.ok scRanked (fun vs H Q E h => ?_) (fun cdv A outer s H vs Q E hr h => ?_)
  · obtain ⟨rfl, _⟩ := h
    rfl
  · obtain ⟨rfl, hQ⟩ := h
    have nd := scRanked.nd
    refine ⟨_, (pss_cons (ps_set (i := 0) nd rfl (Or.inl rfl) pe_str) <|
      pss_cons (ps_setLc (i := 2) (own := [("_law_one", 1)]) (g := gName 1) (tt := tYes) (by rfl) nd rfl rfl (sw_true rfl rfl rfl (by decide +kernel)) (pi_str (pv 0))
        (blkOk_by (own := [("_law_one", 1)]) (N := ["_law_letters", "_law_one", "_law_found", "_law_other"]) (sc := defScope sRanked) (by decide +kernel)) (fun _ _ _ _ _ => pg_name (i := 1) nd rfl (Or.inl rfl)) (fun _ _ _ _ _ => pts_nil) (fun _ _ _ _ _ => pv 1)) <|
      pss_cons (ps_for PassesOwn.never rfl (pi_str (pv 0)) (pg_name (i := 1) nd rfl (Or.inr rfl)) (pss_one (ps_set (i := 2) nd rfl (Or.inl rfl) (pe_op op_cat (pv 2)
        (pe_lc (own := [("_law_other", 3)]) (g := gName 3) (tt := tYes) rfl nd (pi_str (pv 0))
          (blkOk_by (own := [("_law_other", 3)]) (N := ["_law_letters", "_law_one", "_law_found", "_law_other"]) (sc := defScope sRanked) (by decide +kernel)) (fun _ _ _ _ _ => pg_name (i := 3) nd rfl (Or.inl rfl)) (fun _ _ _ _ _ => pts_nil)
          (fun _ _ _ _ _ => pe_op op_add_str (pv 1) (pv 3))))))) <|
      pss_one (ps_ret (pv 2))), ?_⟩
    refine ⟨_, rfl, _, rfl, fun D hD => ?_⟩
    refine lc_it walk_str (fun i H' => Same H H' ∧ H' D = some (.lst (((List.range i).map fun i => mkS [97 + i]).map V.str))) ⟨fun q o e => by rw [upd_ne (ne_of_none e hD)]; exact e, upd_same⟩ (fun _ _ _ _ => trivial) ?_ ?_
    · rintro i x H1 H2 hi ⟨s1, d1⟩ ⟨rfl, c, hc, rfl⟩
      obtain ⟨hi', rfl⟩ := abc_at hc
      refine ⟨rfl, yes_of ⟨_, rfl, _, d1, ?_, fun q o e => ?_, ?_⟩⟩
      · rw [List.length_map, List.length_map, List.length_range]
        exact Nat.lt_of_lt_of_le hi' (by decide)
      · rw [upd_ne (fun z => by subst z; rw [hD] at e; cases e)]
        exact s1 _ _ e
      · rw [upd_same, List.range_succ, List.map_append, List.map_append]
        rfl
    · rintro H1 ⟨s1, d1⟩
      have e26 : abc.cps.size = 26 := by decide +kernel
      rw [e26] at d1
      refine ⟨_, rfl, _, rfl, ?_⟩
      refine for_it walk_str (fun i σ H' => ∃ (w1 w3 : Option V) (a : Addr), σ = [some (.str abc), w1, some (.ref a), w3] ∧ Same H H' ∧ H a = none ∧ H' a = some (.lst ((singles ++ (List.range i).flatMap rowS).map V.str)))
        ⟨_, _, D, rfl, s1, hD, by rw [d1]; simp [singles]⟩ (fun _ _ _ _ _ => trivial) ?_ ?_
      · rintro i x _ H2 H3 hi ⟨w1, w3, a, rfl, s3, ha, hL⟩ ⟨rfl, c, hc, rfl⟩
        obtain ⟨hi', rfl⟩ := abc_at hc
        refine ⟨_, rfl, _, rfl, _, rfl, fun B hB => ?_⟩
        refine lc_it walk_str (fun j H' => Same H3 H' ∧ H' B = some (.lst (((List.range j).map fun j => mkS [97 + i, 97 + j]).map V.str))) ⟨fun q o e => by rw [upd_ne (ne_of_none e hB)]; exact e, upd_same⟩ (fun _ _ _ _ => trivial) ?_ ?_
        · rintro j x H4 H5 hj ⟨s5, d5⟩ ⟨rfl, c, hc, rfl⟩
          obtain ⟨hj', rfl⟩ := abc_at hc
          refine ⟨rfl, yes_of ?_⟩
          refine ⟨_, rfl, _, rfl, _, _, rfl, rfl, (by show 1 + 1 ≤ sizeLine; decide), _, d5, ?_, fun q o e => ?_, ?_⟩
          · rw [List.length_map, List.length_map, List.length_range]
            exact Nat.lt_of_lt_of_le hj' (by decide)
          · rw [upd_ne (fun z => by subst z; rw [hB] at e; cases e)]
            exact s5 _ _ e
          · rw [upd_same, List.range_succ, List.map_append, List.map_append]
            rfl
        · rintro H5 ⟨s5, d5⟩
          rw [e26] at d5
          have hl1 : ((singles ++ (List.range i).flatMap rowS).map V.str).length ≤ 900 := by
            rw [List.length_map, List.length_append]
            have h1 : singles.length = 26 := by simp [singles]
            have h2 : ((List.range i).flatMap rowS).length ≤ 26 * i := by
              have : ∀ n, ((List.range n).flatMap rowS).length = 26 * n := by
                intro n
                induction n with
                | zero => rfl
                | succ n ih =>
                  rw [List.range_succ, List.flatMap_append, List.length_append, ih]
                  simp [rowS]
                  omega
              rw [this]
              omega
            omega
          have hl2 : (((List.range 26).map fun j => mkS [97 + i, 97 + j]).map V.str).length = 26 := by simp
          refine ⟨a, B, _, _, rfl, rfl, s5 _ _ hL, d5, by rw [hl2]; exact line (by omega), fun r nr => ?_⟩
          have s6 : Same H (upd H5 r (.lst (((singles ++ (List.range i).flatMap rowS).map V.str) ++ (((List.range 26).map fun j => mkS [97 + i, 97 + j]).map V.str)))) := fun q o e => by
            rw [upd_ne (ne_of_none (s5 _ _ (s3 _ _ e)) nr)]
            exact s5 _ _ (s3 _ _ e)
          refine ⟨_, _, r, rfl, s6, s3.free (s5.free nr), ?_⟩
          have er : List.range (i + 1) = List.range i ++ [i] := List.range_succ
          rw [upd_same, er, List.flatMap_append, ← List.append_assoc, List.map_append (l₂ := List.flatMap rowS [i])]
          simp [rowS]
      · rintro _ H2 ⟨w1, w3, a, rfl, s3, ha, hL⟩
        rw [e26] at hL
        exact ⟨_, rfl, hQ a H2 s3 ha hL⟩
theorem scMixed : FnScope ["_law_box_here", "_law_some", "_law_left", "_law_k"] ["_law_box_here", "_law_some"] (defScope sMixed) := ⟨rfl, rfl, rfl, by decide +kernel, rfl, by decide +kernel, by decide +kernel⟩
theorem ok_mixed {f g : Addr} {fd gd : FuncData} (F : Fun K "_law_mixed" "_law_mixed" sMixed f fd) (G : Fun K "_law_take" "_law_take" sTake g gd) (b : Binds K gd ["_law_box_here", "_law_size"] []) (gT : mg "_law_take" = some (.ref g)) (T : Blt mg) :
    FnOk P w K mg base CX0 2 f fd ["_law_box_here", "_law_some"] spMixed := by
  refine F.ok scMixed (fun vs H Q E h => ?_) (fun cdv A outer s H vs Q E hr h => ?_)
  · obtain ⟨_, _, _, rfl, _⟩ := h
    rfl
  · obtain ⟨p, a, ys, rfl, B0, nap, hA, hl, hQ⟩ := h
    have nd := scMixed.nd
    have GT := ok_take (P := P) (w := w) (base := base) G T.int
    refine ⟨_, (pss_cons (ps_set (i := 2) nd rfl (Or.inr rfl) (pe_callTy call_list_of (by rfl) T.list (by decide +kernel) (pa_cons (pv 1) pa_nil))) <|
      pss_one (ps_ret (pe_lc (own := [("_law_k", 3)]) (g := gName 3) (tt := tYes) rfl nd (pi_range1 (by rfl) T.rng (pa_cons (pe_callB call_len_seq (by rfl) T.len PySem.boot_len (pa_cons (pv 1) pa_nil)) pa_nil))
        (blkOk_by (own := [("_law_k", 3)]) (N := ["_law_box_here", "_law_some", "_law_left", "_law_k"]) (sc := defScope sMixed) (by decide +kernel)) (fun _ _ _ _ _ => pg_name (i := 3) nd rfl (Or.inl rfl)) (fun _ _ _ _ _ => pts_nil)
        (fun _ _ _ _ _ => pe_as (t' := tPop) (pe_bm PySem.F.plainAttrs_list PySem.F.slot_list_pop PySem.F.type_list_pop popAt (pv 2) (pa_cons (pe_call GT hr (by rfl) gT G.kp b .nil pass0 (pa_cons (pv 0) (pa_cons (pe_callB call_len_seq (by rfl) T.len PySem.boot_len (pa_cons (pv 2) pa_nil)) pa_nil))) pa_nil)) ?e1)))), ?_⟩
    case e1 =>
      rintro σ H Q ⟨p, l, xs, e0, e2, nlp, bx, hl, h0, h1, hq⟩
      refine ⟨_, e2, .inl ⟨rfl, _, SqL.of hl⟩, _, e0, _, e2, l, _, rfl, .inl (SqL.of hl), p, _, rfl, bx, by omega, by omega, fun d H3 d0 d1 tk => ?_⟩
      obtain ⟨dn, rfl⟩ := Int.eq_ofNat_of_zero_le d0
      have hdn : dn < xs.length := by omega
      refine ⟨l, _, _, dn, xs[dn], rfl, rfl, (tk.2 l nlp).trans hl, by omega, by omega, ?_, by simp [hdn], hq dn _ H3 tk (by simp [hdn])⟩
      rw [seq_ix d0 d1]
      simp
    refine ⟨_, rfl, a, _, rfl, .inl (SqL.of hA), fun l nl => ?_⟩
    have hA1 : upd H l (.lst (ys.map V.str)) a = some (.lst (ys.map V.str)) := by rw [upd_ne (ne_of_none hA nl)]; exact hA
    have nlp : l ≠ p := (B0.ne nl).symm
    have len1 : (ys.map V.str).length = ys.length := List.length_map ..
    refine ⟨_, rfl, a, _, rfl, .inl (SqL.of hA1), _, rfl, by rw [len1]; omega, by rw [len1]; omega, fun D hD => ?_⟩
    have nDp : D ≠ p := ((B0.up nl).ne hD).symm
    have nDl : D ≠ l := fun z => by subst z; rw [upd_same] at hD; cases hD
    refine lc_range (lo := 0) (n := _) (fun i H' => Al p H H' ∧ ∃ rest zs : List Str, H' l = some (.lst (rest.map V.str)) ∧ H' D = some (.lst (zs.map V.str)) ∧ rest.length + i = ys.length ∧ zs.length = i ∧ (∀ z ∈ rest, z ∈ ys) ∧ (∀ z ∈ zs, z ∈ ys))
      ⟨(Al.up B0 nl).trans (Al.up (B0.up nl) hD), ys, [], by rw [upd_ne nDl.symm, upd_same], upd_same, rfl, rfl, fun z h => h, fun z h => nomatch h⟩ ?_ ?_
    · rintro i H2 hi ⟨k2, rest, zs, hR, hZ, e1, e2, m1, m2⟩
      have hi' : i < ys.length := by
        have : i < ((ys.map V.str).length : Int).toNat := hi
        rw [len1] at this
        omega
      refine ⟨rfl, yes_of ?_⟩
      have len2 : (rest.map V.str).length = rest.length := List.length_map ..
      refine ⟨p, l, _, rfl, rfl, nlp, k2.1, hR, by rw [len2]; omega, by rw [len2]; omega, fun dn y H3 tk hy => ?_⟩
      have hdn : dn < rest.length := by
        have := (List.getElem?_eq_some_iff.mp hy).1
        rw [len2] at this
        exact this
      obtain rfl : y = .str rest[dn] := by
        have : (rest.map V.str)[dn]? = some (.str rest[dn]) := by simp [hdn]
        rw [this] at hy
        injection hy with hy
        exact hy.symm
      refine ⟨zs.map V.str, ?_, ?_, ⟨?_, fun q o n e => ?_⟩, rest.eraseIdx dn, zs ++ [rest[dn]], ?_, ?_, ?_, ?_, ?_, ?_⟩
      · rw [upd_ne nDl]
        exact (tk.2 D nDp).trans hZ
      · rw [List.length_map, e2]
        exact Nat.lt_of_lt_of_le (show i < 201 by omega) (by decide)
      · obtain ⟨a1, a2, a3, e⟩ := tk.1
        exact ⟨a1, a2, a3, by rw [upd_ne nDp.symm, upd_ne nlp.symm]; exact e⟩
      · have q1 : q ≠ D := fun z => by subst z; rw [upd_ne nDl] at hD; rw [hD] at e; cases e
        have q2 : q ≠ l := fun z => by subst z; rw [nl] at e; cases e
        rw [upd_ne q1, upd_ne q2]
        exact (tk.2 q n).trans (k2.2 q o n e)
      · rw [upd_ne nDl.symm, upd_same, erase_map]
      · rw [upd_same, List.map_append]
        rfl
      · rw [List.length_eraseIdx_of_lt hdn]
        omega
      · simp [e2]
      · exact fun z hz => m1 z (List.mem_of_mem_eraseIdx hz)
      · intro z hz
        rcases List.mem_append.mp hz with hz | hz
        · exact m2 z hz
        · rw [List.mem_singleton.mp hz]
          exact m1 _ (List.getElem_mem hdn)
    · rintro H2 ⟨k2, rest, zs, hR, hZ, e1, e2, m1, m2⟩
      refine hQ D zs H2 k2 ?_ nDp hZ ?_ m2
      · have := hD
        rw [upd_ne nDl] at this
        exact this
      · rw [e2, len1]
        omega
end
end Bxs
namespace Bxs
open PySem L2
theorem ps_as {X : Cx} {st : Stmt} {t t' : TS} (h : PS X st t) (k : ∀ D σ H, t' D σ H → t D σ H) : PS X st t' := ⟨fun pins s σ H D I q => h.run pins s σ H D I (k D σ H q)⟩
theorem dp_strs {K : PySem.W.Frag} {H : Hp} : ∀ ys : List Str, DpAll K H (ys.map V.str) (ys.map PyData.str)
  | [] => .nil
  | _ :: ys => .cons (.str _) (dp_strs ys)
theorem can_strs : ∀ ys : List Str, (∀ y ∈ ys, Gd y) → PyData.canLayAll0 (ys.map PyData.str) = true
  | [], _ => rfl
  | y :: ys, h => by
    have h1 := h y (List.mem_cons_self ..)
    have h2 : PyData.canLay0 (.str y) = true := by
      rw [PyData.canLay0, PyData.strOk, ← Array.all_toList, List.all_eq_true]
      intro c hc
      have := h1.2 c hc
      simp
      omega
    rw [List.map_cons, PyData.canLayAll0, can_strs ys fun z hz => h z (List.mem_cons_of_mem _ hz), h2]
    rfl
theorem deep_strs : ∀ ys : List Str, PyData.depthAll (ys.map PyData.str) ≤ 1
  | [] => by simp [PyData.depthAll]
  | _ :: ys => by
    have := deep_strs ys
    rw [List.map_cons, PyData.depthAll, PyData.depth]
    omega
theorem shaped_strs (ys : List Str) (h : ∀ y ∈ ys, Gd y) : SeqAt.shaped (.list (ys.map PyData.str)) = true := by
  have h1 := deep_strs ys
  unfold SeqAt.shaped
  rw [PyData.canLay0, can_strs ys h]
  have h2 : PyData.depth (.list (ys.map PyData.str)) ≤ 64 := by
    rw [PyData.depth]
    omega
  simp [h2]
theorem eqv_nil (ys : List Str) : PyData.eqv (.list (ys.map PyData.str)) (.list []) = ys.isEmpty := by
  cases ys <;> simp [PyData.eqv, PyData.eqvAll]
theorem cut_front {xs : List V} {v : Int} (h : 0 ≤ v) : cutV xs none (some v) = xs.take v.toNat := by
  obtain ⟨k, rfl⟩ := Int.eq_ofNat_of_zero_le h
  unfold cutV
  rw [HT.sIx_nat, HT.sIx_none]
  simp only [List.drop_zero, Nat.sub_zero, Int.toNat_natCast]
  rcases Nat.le_total k xs.length with hk | hk
  · rw [Nat.min_eq_left hk]
  · rw [Nat.min_eq_right hk, List.take_of_length_le (by omega), List.take_of_length_le (by omega)]
theorem cands_word : ∀ y ∈ cands, word (.str y) = true := by
  intro y hy
  unfold cands singles rowS at hy
  rcases List.mem_append.mp hy with hy | hy
  · obtain ⟨i, hi, rfl⟩ := List.mem_map.mp hy
    have := List.mem_range.mp hi
    exact word_of ⟨by simp, by simp, fun c hc => by rw [List.mem_singleton.mp hc]; omega⟩
  · obtain ⟨i, hi, hy⟩ := List.mem_flatMap.mp hy
    obtain ⟨j, hj, rfl⟩ := List.mem_map.mp hy
    have h1 := List.mem_range.mp hi
    have h2 := List.mem_range.mp hj
    refine word_of ⟨by simp, by simp, fun c hc => ?_⟩
    simp only [List.mem_cons, List.not_mem_nil, or_false] at hc
    omega
def tPopIf : TS := fun D σ H => ∃ (p a : Addr) (ys : List Str), σ[0]? = some (some (.ref p)) ∧ σ[3]? = some (some (.ref a)) ∧ a ≠ p ∧ Bx H p ∧ H a = some (.lst (ys.map V.str)) ∧ (∀ y ∈ ys, Gd y) ∧ ys.length ≤ 200 ∧
  ∀ (zs : List Str) (H' : Hp), Bx H' p → (∀ q o, q ≠ p → q ≠ a → H q = some o → H' q = some o) → H' a = some (.lst (zs.map V.str)) → zs.length ≤ ys.length → (∀ z ∈ zs, z ∈ ys) → D.nx σ H'
def spList : Sp := fun vs H Q _ => ∃ (p r : Addr), vs = [.ref p, .ref r] ∧ Bx H p ∧ r ≠ p ∧ H r = some (.lst (cands.map V.str)) ∧
  ∀ (l : Addr) (zs : List Str) (H' : Hp), Al p H H' → H l = none → l ≠ p → H' l = some (.lst (zs.map V.str)) → zs.length ≤ 100 → (∀ z ∈ zs, word (.str z) = true) → Q (.ref l) H'
section
variable {P : Program} {w : World} {K : PySem.W.Frag} {mg : Str → Option Value} {base : Heap}
theorem scList : FnScope ["_law_box_here", "_law_ranked_here", "_law_many", "_law_some"] ["_law_box_here", "_law_ranked_here"] (defScope sList) := ⟨rfl, rfl, rfl, by decide +kernel, rfl, by decide +kernel, by decide +kernel⟩
theorem ok_list {f g gw gm : Addr} {fd gd wd md : FuncData} (F : Fun K "_law_list" "_law_list" sList f fd) (G : Fun K "_law_take" "_law_take" sTake g gd) (b : Binds K gd ["_law_box_here", "_law_size"] []) (gT : mg "_law_take" = some (.ref g))
    (W : Fun K "_law_words" "_law_words" sWords gw wd) (bw : Binds K wd ["_law_box_here", "_law_many"] []) (gW : mg "_law_words" = some (.ref gw)) (M : Fun K "_law_mixed" "_law_mixed" sMixed gm md) (bm : Binds K md ["_law_box_here", "_law_some"] []) (gM : mg "_law_mixed" = some (.ref gm)) (T : Blt mg) :
    FnOk P w K mg base CX0 3 f fd ["_law_box_here", "_law_ranked_here"] spList := by
  refine F.ok scList (fun vs H Q E h => ?_) (fun cdv A outer s H vs Q E hr h => ?_)
  · obtain ⟨_, _, rfl, _⟩ := h
    rfl
  · obtain ⟨p, r, rfl, B0, nrp, hR, hQ⟩ := h
    have nd := scList.nd
    have hr1 : Room 1 _ := hr.mono (by decide)
    have GT := ok_take (P := P) (w := w) (base := base) G T.int
    have GW := ok_words (P := P) (w := w) (base := base) W G b gT T
    have GM := ok_mixed (P := P) (w := w) (base := base) M G b gT T
    refine ⟨_, (pss_cons (ps_set (i := 2) nd rfl (Or.inl rfl) (pe_ix ix_list (pe_lst (pa_cons pe_int (pa_cons (pe_call GT hr1 (by rfl) gT G.kp b .nil pass0 (pa_cons (pv 0) (pa_cons pe_int pa_nil)))
          (pa_cons (pe_op op_add pe_int (pe_call GT hr1 (by rfl) gT G.kp b .nil pass0 (pa_cons (pv 0) (pa_cons pe_int pa_nil)))) (pa_cons (pe_call GT hr1 (by rfl) gT G.kp b .nil pass0 (pa_cons (pv 0) (pa_cons pe_int pa_nil))) pa_nil)))))
        (pe_call GT hr1 (by rfl) gT G.kp b .nil pass0 (pa_cons (pv 0) (pa_cons pe_int pa_nil))) (fun _ _ => rfl))) <|
      pss_cons (ps_set (i := 3) nd rfl (Or.inl rfl) (pe_slice sl_list (pv 1) po_none (po_some (pv 2)))) <|
      pss_cons (ps_as (t' := tPopIf) (ps_if (PW.pt (pw_and (pt_cmpR (op_neD hr.units) (pv 3) (pe_lst pa_nil) (nomark _)) (pw_and1 (pt_cmpR op_eq (pe_call GT hr1 (by rfl) gT G.kp b .nil pass0 (pa_cons (pv 0) (pa_cons pe_int pa_nil))) pe_int (nomark _)))))
        (pss_one (ps_expr (pe_bm PySem.F.plainAttrs_list PySem.F.slot_list_pop PySem.F.type_list_pop popAt (pv 3) (pa_cons (pe_call GT hr1 (by rfl) gT G.kp b .nil pass0 (pa_cons (pv 0) (pa_cons (pe_callB call_len_seq (by rfl) T.len PySem.boot_len (pa_cons (pv 3) pa_nil)) pa_nil))) pa_nil)))) pss_nil) ?e1) <|
      pss_cons (ps_set (i := 3) nd rfl (Or.inl rfl) (pe_op op_cat (pv 3) (pe_call GW hr (by rfl) gW W.kp bw .nil pass0 (pa_cons (pv 0) (pa_cons (pe_call GT hr1 (by rfl) gT G.kp b .nil pass0 (pa_cons (pv 0) (pa_cons pe_int pa_nil))) pa_nil))))) <|
      pss_one (ps_ret (pe_call GM hr (by rfl) gM M.kp bm .nil pass0 (pa_cons (pv 0) (pa_cons (pe_slice sl_list (pv 3) po_none (po_some pe_int)) pa_nil))))), ?_⟩
    case e1 =>
      rintro D σ H ⟨p, a, ys, e0, e3, nap, bx, hA, hg, hl, hk⟩
      have len1 : (ys.map V.str).length = ys.length := List.length_map ..
      refine ⟨_, e3, Nat.zero_le _, fun e ne => ?_⟩
      have nae := ne_of_none hA ne
      have k0 : ∀ q o, H q = some o → upd H e (.lst []) q = some o := fun q o h => by rw [upd_ne (ne_of_none h ne)]; exact h
      refine ⟨.list _, .list [], .lst (SqL.of (k0 _ _ hA)) (dp_strs ys), .lst (SqL.of upd_same) .nil, shaped_strs ys hg, by rfl, _, rfl, ?_⟩
      rw [eqv_nil]
      cases hE : ys.isEmpty with
      | true => exact hk ys _ (bx.up ne) (fun q o _ _ h => k0 q o h) (k0 _ _ hA) (Nat.le_refl _) fun z h => h
      | false =>
        have hpos : 0 < ys.length := List.length_pos_iff.mpr (by intro z; rw [z] at hE; cases hE)
        refine iteT ⟨_, e0, p, 2, rfl, bx.up ne, by decide, by decide, fun d H2 _ _ tk => ⟨rfl, _, rfl, ?_⟩⟩
        have hA2 : H2 a = some (.lst (ys.map V.str)) := (tk.2 a nap).trans (k0 _ _ hA)
        have k2 : ∀ q o, q ≠ p → H q = some o → H2 q = some o := fun q o n h => (tk.2 q n).trans (k0 q o h)
        refine ite2 (fun _ => ?_) (fun _ => ?_)
        · refine ⟨_, e3, .inl ⟨rfl, _, SqL.of hA2⟩, _, e0, _, e3, a, _, rfl, .inl (SqL.of hA2), p, _, rfl, tk.1, by rw [len1]; omega, by rw [len1]; omega, fun d3 H3 d0 d1 tk3 => ?_⟩
          rw [len1] at d1
          obtain ⟨dn, rfl⟩ := Int.eq_ofNat_of_zero_le d0
          have hdn : dn < ys.length := by omega
          have hA3 := (tk3.2 a nap).trans hA2
          refine ⟨a, _, _, dn, .str ys[dn], rfl, rfl, hA3, by omega, by omega, by rw [seq_ix d0 (by rw [len1]; exact d1)]; simp, by simp [hdn], ?_⟩
          refine hk (ys.eraseIdx dn) _ ?_ (fun q o n1 n2 h => by rw [upd_ne n2]; exact (tk3.2 q n1).trans (k2 q o n1 h)) (by rw [upd_same, erase_map]) (by rw [List.length_eraseIdx_of_lt hdn]; omega) (fun z hz => List.mem_of_mem_eraseIdx hz)
          obtain ⟨a1, a2, a3, e⟩ := tk3.1
          exact ⟨a1, a2, a3, by rw [upd_ne nap.symm]; exact e⟩
        · exact hk ys H2 tk.1 (fun q o n1 _ h => k2 q o n1 h) hA2 (Nat.le_refl _) fun z h => h
    refine ⟨_, rfl, p, 27, rfl, B0, by decide, by decide, fun x1 H1 x10 x11 tk1 => ⟨_, rfl, p, 73, rfl, tk1.1, by decide, by decide, fun x2 H2 x20 x21 tk2 => ⟨_, _, rfl, rfl, _, rfl, p, 99, rfl, tk2.1, by decide, by decide, fun x3 H3 x30 x31 tk3 =>
      ⟨by show 4 ≤ sizeLine; decide, fun l4 n4 => ?_⟩⟩⟩⟩
    refine ⟨_, rfl, p, 4, rfl, tk3.1.up n4, by decide, by decide, fun d5 H5 h50 h51 tk5 => ?_⟩
    have hL5 := (tk5.2 l4 (tk3.1.ne n4).symm).trans upd_same
    obtain ⟨m, hmm, hm⟩ := at_intM (ns := [26, x1, 26 + x2, x3]) h50 (by simpa using h51)
    have hb : 0 ≤ m ∧ m ≤ 99 := by
      simp only [List.mem_cons, List.not_mem_nil, or_false] at hmm
      omega
    refine ⟨l4, _, d5, .int m, rfl, rfl, SqL.of hL5, hm, ?_⟩
    have k5 : Al p H H5 := tk1.al.trans (tk2.al.trans (tk3.al.trans ((Al.up tk3.1 n4).trans tk5.al)))
    have hR5 := k5.2 r _ nrp hR
    refine ⟨_, rfl, _, rfl, _, rfl, r, _, rfl, SqL.of hR5, fun a na => ?_⟩
    rw [cut_front hb.1]
    have nap : a ≠ p := (k5.1.ne na).symm
    have em : (cands.map V.str).take m.toNat = (cands.take m.toNat).map V.str := by rw [List.map_take]
    have lm : (cands.take m.toNat).length ≤ 99 := by rw [List.length_take]; omega
    refine ⟨p, a, cands.take m.toNat, rfl, rfl, nap, k5.1.up na, by rw [upd_same, em], fun y hy => word_gd (cands_word y (List.mem_of_mem_take hy)), by omega, fun zs H6 b6 k6 hA6 lz mz => ?_⟩
    have k56 : Al p H H6 := ⟨b6, fun q o n e => by
      have e5 := k5.2 q o n e
      have n2 : q ≠ a := fun z => by subst z; rw [na] at e5; cases e5
      exact k6 q o n n2 (by rw [upd_ne n2]; exact e5)⟩
    refine ⟨_, rfl, _, rfl, _, rfl, p, 3, rfl, b6, by decide, by decide, fun m7 H7 h70 h71 tk7 => ⟨p, m7, rfl, tk7.1, h70, by omega, fun l8 ys8 H8 k8 n8 nl8 hL8 e8 w8 _ => ?_⟩⟩
    have hA8 := k8.2 a _ nap ((tk7.2 a nap).trans hA6)
    have l8' : ys8.length ≤ 2 := by omega
    refine ⟨a, l8, _, _, rfl, rfl, hA8, hL8, line (by rw [List.length_map, List.length_map]; omega), fun r9 n9 => ?_⟩
    have k59 := (tk7.al.trans k8).trans (Al.up (o := .lst (zs.map V.str ++ ys8.map V.str)) k8.1 n9)
    refine ⟨_, rfl, _, rfl, _, rfl, r9, _, rfl, SqL.of upd_same, fun c nc => ?_⟩
    rw [cut_front (by decide)]
    have ec : (zs.map V.str ++ ys8.map V.str).take (100 : Int).toNat = ((zs ++ ys8).take 100).map V.str := by
      rw [List.map_take, List.map_append]
      rfl
    have kc := Al.up (o := .lst ((zs.map V.str ++ ys8.map V.str).take (100 : Int).toNat)) k59.1 nc
    refine ⟨p, c, (zs ++ ys8).take 100, rfl, kc.1, (k59.1.ne nc).symm, by rw [upd_same, ec], by rw [List.length_take]; omega, fun l ws H' k n1 n2 hl el ml => ?_⟩
    have kall := k56.trans (k59.trans kc)
    refine hQ l ws H' (kall.trans k) (kall.free B0 n1) n2 hl (by rw [el, List.length_take]; omega) fun z hz => ?_
    rcases List.mem_append.mp (List.mem_of_mem_take (ml z hz)) with hz | hz
    · exact cands_word z (List.mem_of_mem_take (mz z hz))
    · exact w8 z hz
end
end Bxs
namespace Bxs
open PySem L2
theorem callR_or {X : Cx} {f : Value} {r1 r2 : List V → Hp → VK → Prop} (h1 : CallR X f r1) (h2 : CallR X f r2) : CallR X f (fun xs H Q => r1 xs H Q ∨ r2 xs H Q) :=
  fun pins s σ H xs us Q I r h => h.elim (h1 pins s σ H xs us Q I r) (h2 pins s σ H xs us Q I r)
theorem gd_sign {z : Str} (h : Gd z) : ∀ c ∈ z.cps.toList, c < 16 ^ 8 := fun c hc => Nat.lt_trans (h.2 c hc) (by decide)
/-- an item of a list at a, and its data -/
inductive It (p a : Addr) (H : Hp) : V → PyData → Prop where
  | non : It p a H .non .none
  | bl (b : Bool) : It p a H (.bl b) (.bool b)
  | int (i : Int) (h : i.natAbs < 10 ^ 30) : It p a H (.int i) (.int i)
  | str (z : Str) (h : Gd z) : It p a H (.str z) (.str z)
  | lst {b : Addr} {ys : List Str} (n1 : b ≠ a) (n2 : b ≠ p) (e : H b = some (.lst (ys.map V.str))) (g : ∀ y ∈ ys, Gd y) (l : ys.length ≤ 3) : It p a H (.ref b) (.list (ys.map PyData.str))
  | tup {b : Addr} {ys : List Str} (n1 : b ≠ a) (n2 : b ≠ p) (e : H b = some (.tup (ys.map V.str))) (g : ∀ y ∈ ys, Gd y) (l : ys.length ≤ 3) : It p a H (.ref b) (.tuple (ys.map PyData.str))
inductive Its (p a : Addr) (H : Hp) : List V → List PyData → Prop where
  | nil : Its p a H [] []
  | cons {v : V} {d : PyData} {vs : List V} {ds : List PyData} : It p a H v d → Its p a H vs ds → Its p a H (v :: vs) (d :: ds)
theorem It.dp {K : PySem.W.Frag} {p a : Addr} {H : Hp} {v : V} {d : PyData} (h : It p a H v d) : Dp K H v d := by
  cases h with
  | non => exact .non
  | bl b => exact .bl b
  | int i _ => exact .int i
  | str z _ => exact .str z
  | lst n1 n2 e g l => exact .lst (SqL.of e) (dp_strs _)
  | tup n1 n2 e g l => exact .tup (SqT.of e) (dp_strs _)
theorem Its.dp {K : PySem.W.Frag} {p a : Addr} {H : Hp} {vs : List V} {ds : List PyData} (h : Its p a H vs ds) : DpAll K H vs ds := by
  induction h with
  | nil => exact .nil
  | cons h _ ih => exact .cons h.dp ih
theorem It.ov {p a : Addr} {H : Hp} {v : V} {d : PyData} (h : It p a H v d) : Ov p H v := by
  cases h with
  | non => exact .non
  | bl b => exact .bl b
  | int i _ => exact .int i
  | str z h => exact .str z h
  | lst n1 n2 e g l => exact .lst n2 e
  | tup n1 n2 e g l => exact .tup n2 e
theorem Its.ov {p a : Addr} {H : Hp} {vs : List V} {ds : List PyData} (h : Its p a H vs ds) : ∀ v ∈ vs, Ov p H v := by
  induction h with
  | nil => exact fun v hv => nomatch hv
  | cons h _ ih =>
    intro v hv
    rcases List.mem_cons.mp hv with rfl | hv
    · exact h.ov
    · exact ih v hv
theorem It.keep {p a : Addr} {H H' : Hp} {v : V} {d : PyData} (h : It p a H v d) (k : ∀ q o, q ≠ p → q ≠ a → H q = some o → H' q = some o) : It p a H' v d := by
  cases h with
  | non => exact .non
  | bl b => exact .bl b
  | int i h => exact .int i h
  | str z h => exact .str z h
  | lst n1 n2 e g l => exact .lst n1 n2 (k _ _ n2 n1 e) g l
  | tup n1 n2 e g l => exact .tup n1 n2 (k _ _ n2 n1 e) g l
theorem Its.keep {p a : Addr} {H H' : Hp} {vs : List V} {ds : List PyData} (h : Its p a H vs ds) (k : ∀ q o, q ≠ p → q ≠ a → H q = some o → H' q = some o) : Its p a H' vs ds := by
  induction h with
  | nil => exact .nil
  | cons h _ ih => exact .cons (h.keep k) ih
theorem Its.snoc {p a : Addr} {H : Hp} {vs : List V} {ds : List PyData} {v : V} {d : PyData} (h : Its p a H vs ds) (k : It p a H v d) : Its p a H (vs ++ [v]) (ds ++ [d]) := by
  induction h with
  | nil => exact .cons k .nil
  | cons h _ ih => exact .cons h ih
theorem Its.len {p a : Addr} {H : Hp} {vs : List V} {ds : List PyData} (h : Its p a H vs ds) : vs.length = ds.length := by
  induction h with
  | nil => rfl
  | cons h _ ih => simp [ih]
/-- data that is shown in few signs -/
def Sm (n : Nat) (d : PyData) : Prop := d.showable = true ∧ d.hasDict = false ∧ d.depth ≤ 3 ∧ d.shown.length ≤ n
theorem sm_strs (ys : List Str) (g : ∀ y ∈ ys, Gd y) : PyData.showableAll (ys.map PyData.str) = true ∧ PyData.hasDictAll (ys.map PyData.str) = false ∧ ((PyData.shownAll (ys.map PyData.str)).map (·.length)).sum ≤ 10002 * ys.length ∧ (PyData.shownAll (ys.map PyData.str)).length = ys.length := by
  induction ys with
  | nil => simp [PyData.showableAll, PyData.hasDictAll, PyData.shownAll]
  | cons y ys ih =>
    obtain ⟨h1, h2, h3, h4⟩ := ih fun z hz => g z (List.mem_cons_of_mem _ hz)
    have gy := g y (List.mem_cons_self ..)
    have := PySem.StrLaws.reprText_len y (gd_sign gy)
    have := gy.1
    simp only [List.map_cons, PyData.showableAll, PyData.hasDictAll, PyData.shownAll, PyData.showable, PyData.hasDict, PyData.shown, h1, h2, List.sum_cons, List.length_cons, h4]
    refine ⟨rfl, rfl, ?_, trivial⟩
    omega
theorem tuple_len (ts : List Str) : (PySem.tupleText ts).length ≤ (ts.map (·.length)).sum + 2 * ts.length + 3 := by
  have e : (PySem.tupleText ts).length = 1 + (Str.join ", " ts).length + ((if ts.length == 1 then ",)" else ")" : String) : Str).length := by
    unfold PySem.tupleText
    rw [PySem.strLen_append, PySem.strLen_append]
    rfl
  have h3 : ((if ts.length == 1 then ",)" else ")" : String) : Str).length ≤ 2 := by split <;> decide
  by_cases h : ts = []
  · subst h
    rw [e]
    have : (Str.join ", " ([] : List Str)).length = 0 := rfl
    omega
  · have h1 := PySem.join_length_add ts h
    have h2 : ∀ l : List Str, PySem.piled l = (l.map (·.length)).sum + 2 * l.length := by
      intro l
      induction l with
      | nil => rfl
      | cons x l ih =>
        rw [PySem.piled_cons, ih]
        simp only [List.map_cons, List.sum_cons, List.length_cons]
        omega
    rw [h2] at h1
    omega
theorem It.sm {p a : Addr} {H : Hp} {v : V} {d : PyData} (h : It p a H v d) : Sm 40000 d := by
  cases h with
  | non => exact ⟨rfl, rfl, by decide, by decide +kernel⟩
  | bl b => exact ⟨rfl, rfl, by cases b <;> decide, by cases b <;> decide +kernel⟩
  | int i h =>
    refine ⟨?_, rfl, by simp [PyData.depth], ?_⟩
    · have : i.natAbs.log2 < 1920 := by
        by_cases z : i.natAbs = 0
        · rw [z]; decide
        · exact (Nat.log2_lt z).mpr (Nat.lt_of_lt_of_le h (by decide +kernel))
      simp [PyData.showable, this]
    · rw [PyData.shown]
      have := PySem.int_text_length_le10 (a := i) (k := 30) (by decide) h
      show (Str.ofString (toString i)).length ≤ 40000
      have e : (Str.ofString (toString i)).length = (toString i).length := by
        rw [len_list]
        simp only [Str.ofString_eq_toList, List.toList_toArray, List.length_map, String.length_toList]
      omega
  | str z h =>
    refine ⟨rfl, rfl, by simp [PyData.depth], ?_⟩
    rw [PyData.shown]
    have h1 := PySem.StrLaws.reprText_len z (gd_sign h)
    have := h.1
    omega
  | @lst b ys n1 n2 e g l =>
    obtain ⟨h1, h2, h3, h4⟩ := sm_strs ys g
    have h5 := deep_strs ys
    refine ⟨by rw [PyData.showable]; exact h1, by rw [PyData.hasDict]; exact h2, by rw [PyData.depth]; omega, ?_⟩
    rw [PyData.shown]
    have := PySem.listText_len_le (PyData.shownAll (ys.map PyData.str))
    omega
  | @tup b ys n1 n2 e g l =>
    obtain ⟨h1, h2, h3, h4⟩ := sm_strs ys g
    have h5 := deep_strs ys
    refine ⟨by rw [PyData.showable]; exact h1, by rw [PyData.hasDict]; exact h2, by rw [PyData.depth]; omega, ?_⟩
    rw [PyData.shown]
    have := tuple_len (PyData.shownAll (ys.map PyData.str))
    omega
theorem sm_all {ds : List PyData} {n : Nat} (h : ∀ d ∈ ds, Sm n d) : PyData.showableAll ds = true ∧ PyData.hasDictAll ds = false ∧ PyData.depthAll ds ≤ 3 ∧ ((PyData.shownAll ds).map (·.length)).sum ≤ n * ds.length ∧ (PyData.shownAll ds).length = ds.length := by
  induction ds with
  | nil => simp [PyData.showableAll, PyData.hasDictAll, PyData.shownAll, PyData.depthAll]
  | cons d ds ih =>
    obtain ⟨h1, h2, h3, h4, h5⟩ := ih fun z hz => h z (List.mem_cons_of_mem _ hz)
    obtain ⟨g1, g2, g3, g4⟩ := h d (List.mem_cons_self ..)
    simp only [PyData.showableAll, PyData.hasDictAll, PyData.shownAll, PyData.depthAll, h1, h2, g1, g2, List.map_cons, List.sum_cons, List.length_cons, h5]
    refine ⟨rfl, rfl, by omega, ?_, trivial⟩
    rw [Nat.mul_succ]
    omega
theorem Its.mem {p a : Addr} {H : Hp} {vs : List V} {ds : List PyData} (h : Its p a H vs ds) : ∀ d ∈ ds, Sm 40000 d := by
  induction h with
  | nil => exact fun v hv => nomatch hv
  | cons h _ ih =>
    intro v hv
    rcases List.mem_cons.mp hv with rfl | hv
    · exact h.sm
    · exact ih v hv
end Bxs
namespace Bxs
open PySem L2
theorem un_upd {H : Hp} {a b : Addr} {o : HO} (h : upd H a o b = none) : H b = none := by
  by_cases z : b = a
  · subst z
    rw [upd_same] at h
    cases h
  · rw [upd_ne z] at h
    exact h
/-- what a refused call may be given -/
inductive Th (p : Addr) (H : Hp) : V → Prop where
  | lst {a : Addr} {xs : List V} {ds : List PyData} (n : a ≠ p) (e : H a = some (.lst xs)) (h : Its p a H xs ds) (l : xs.length ≤ 102) : Th p H (.ref a)
  | tup {a : Addr} {xs : List V} {ds : List PyData} (n : a ≠ p) (e : H a = some (.tup xs)) (h : Its p a H xs ds) (l : xs.length ≤ 102) : Th p H (.ref a)
  | non : Th p H .non
  | bl (b : Bool) : Th p H (.bl b)
  | int (i : Int) (h : i.natAbs < 10 ^ 30) : Th p H (.int i)
  | str (z : Str) (h : Gd z) : Th p H (.str z)
  | dct {a : Addr} {kvs : List (Key × V)} {ds : List (PyData × PyData)} (n : a ≠ p) (e : H a = some (.dK kvs)) (d : Rp.Di kvs ds) (s : PyData.showableKv ds = true) (dp : (PyData.list [.str "words", .dict ds]).depth ≤ 60)
      (l : (PyData.list [.str "words", .dict ds]).shown.length ≤ sizeLine) : Th p H (.ref a)
theorem Th.ov {p : Addr} {H : Hp} {v : V} (h : Th p H v) : Ov p H v := by
  cases h with
  | lst n e _ _ => exact .lst n e
  | tup n e _ _ => exact .tup n e
  | non => exact .non
  | bl b => exact .bl b
  | int i _ => exact .int i
  | str z h => exact .str z h
  | dct n e _ _ _ _ => exact .dct n e
theorem Th.items {p : Addr} {H : Hp} {v : V} (h : Th p H v) : ∀ xs, Sq H v xs → xs.length ≤ 1000 ∧ ∀ x ∈ xs, Ov p H x := by
  intro xs hx
  cases h with
  | lst n e h l =>
    have := hx.one (.lst e)
    subst this
    exact ⟨by omega, h.ov⟩
  | tup n e h l =>
    have := hx.one (.tup e)
    subst this
    exact ⟨by omega, h.ov⟩
  | dct n e _ _ _ _ =>
    cases hx with
    | lst e2 => rw [e] at e2; cases e2
    | tup e2 => rw [e] at e2; cases e2
  | _ => cases hx
theorem tag_ok {d : PyData} (h : d.showable = true) (h2 : d.hasDict = false) (h3 : d.depth ≤ 50) (h4 : d.shown.length ≤ 10000000) :
    (PyData.list [.str "words", d]).showable = true ∧ (PyData.list [.str "words", d]).hasDict = false ∧ (PyData.list [.str "words", d]).depth ≤ 60 ∧ (PyData.list [.str "words", d]).shown.length ≤ sizeLine := by
  have hw : (PyData.str "words").shown.length = 7 := by decide +kernel
  refine ⟨by simp [PyData.showable, PyData.showableAll, h], by simp [PyData.hasDict, PyData.hasDictAll, h2], by simp [PyData.depth, PyData.depthAll]; omega, ?_⟩
  rw [PyData.shown]
  have := PySem.listText_len_le (PyData.shownAll [.str "words", d])
  simp only [PyData.shownAll, List.map_cons, List.map_nil, List.sum_cons, List.sum_nil, List.length_cons, List.length_nil, hw] at this
  exact Nat.le_trans this (Nat.le_trans (show 7 + (d.shown.length + 0) + 2 * (0 + 1 + 1) + 3 ≤ 10000100 by omega) (by decide))
theorem many_ok {ds : List PyData} (h : ∀ d ∈ ds, Sm 40000 d) (l : ds.length ≤ 103) : ((PyData.list ds).showable = true ∧ (PyData.list ds).hasDict = false ∧ (PyData.list ds).depth ≤ 50 ∧ (PyData.list ds).shown.length ≤ 10000000) ∧
    ((PyData.tuple ds).showable = true ∧ (PyData.tuple ds).hasDict = false ∧ (PyData.tuple ds).depth ≤ 50 ∧ (PyData.tuple ds).shown.length ≤ 10000000) := by
  obtain ⟨h1, h2, h3, h4, h5⟩ := sm_all h
  have a1 := PySem.listText_len_le (PyData.shownAll ds)
  have a2 := tuple_len (PyData.shownAll ds)
  have : 40000 * ds.length ≤ 40000 * 103 := Nat.mul_le_mul_left _ l
  refine ⟨⟨by rw [PyData.showable]; exact h1, by rw [PyData.hasDict]; exact h2, by rw [PyData.depth]; omega, ?_⟩, ⟨by rw [PyData.showable]; exact h1, by rw [PyData.hasDict]; exact h2, by rw [PyData.depth]; omega, ?_⟩⟩
  · rw [PyData.shown]
    omega
  · rw [PyData.shown]
    omega
def bad (H : Hp) (v : V) : Prop := ¬ ∃ xs, Sq H v xs ∧ xs.length ≤ 100 ∧ xs.all word = true
/-- the first word of the ranked ones that is not there -/
def firstO (ys : List Str) : Str := (cands.filter fun c => decide (c ∉ ys)).headD ""
def spFirst (C : Addr) : Sp := fun vs H Q E => ∃ (p : Addr) (v : V), vs = [v] ∧ Ov p H v ∧ (∀ xs, Sq H v xs → xs.length ≤ 1000 ∧ ∀ x ∈ xs, Ov p H x) ∧
  (∀ ys : List Str, Sq H v (ys.map V.str) → ys.length ≤ 100 → (∀ y ∈ ys, word (.str y) = true) → ∀ H', Same H H' → Q (.str (firstO ys)) H') ∧
  (bad H v → ∀ (H' : Hp) (d : Addr), Same H H' → H' d = none → E (.ref C) (some d) (upd H' d (.xd [(("value" : Str), v)])))
def spCaught : Sp := fun vs H Q _ => ∃ (p : Addr) (v : V), vs = [v] ∧ Ov p H v ∧ (∀ xs, Sq H v xs → xs.length ≤ 1000 ∧ ∀ x ∈ xs, Ov p H x) ∧ bad H v ∧
  ∀ (l : Addr) (H' : Hp), Same H H' → H l = none → H' l = some (.lst [.str "words", v]) → Q (.ref l) H'
def spRefused : Sp := fun vs H Q _ => ∃ (p : Addr) (v : V), vs = [v] ∧ Bx H p ∧ Th p H v ∧ bad H v ∧
  ∀ H', Bx H' p → (∀ q o, q ≠ p → v ≠ .ref q → H q = some o → H' q = some o) → Q (.bl true) H'
theorem words_of_all {xs : List V} (h : xs.all word = true) : ∃ ys : List Str, xs = ys.map V.str ∧ ∀ y ∈ ys, word (.str y) = true := by
  induction xs with
  | nil => exact ⟨[], rfl, fun y hy => nomatch hy⟩
  | cons x xs ih =>
    rw [List.all_cons, Bool.and_eq_true] at h
    obtain ⟨ys, rfl, hy⟩ := ih h.2
    cases x with
    | str z =>
      refine ⟨z :: ys, rfl, fun y hy' => ?_⟩
      rcases List.mem_cons.mp hy' with rfl | hy'
      · exact h.1
      · exact hy y hy'
    | _ => exact absurd h.1 (by simp [word])
theorem all_words {ys : List Str} (h : ∀ y ∈ ys, word (.str y) = true) : (ys.map V.str).all word = true := by
  rw [List.all_eq_true]
  intro x hx
  obtain ⟨y, hy, rfl⟩ := List.mem_map.mp hx
  exact h y hy
section
variable {P : Program} {w : World} {K : PySem.W.Frag} {mg : Str → Option Value} {base : Heap}
theorem scCaught : FnScope ["_law_thing", "e"] ["_law_thing"] (defScope sCaught) := ⟨rfl, rfl, rfl, by decide +kernel, rfl, by decide +kernel, by decide +kernel⟩
theorem ok_caught {f g C fI : Addr} {fd gd : FuncData} {k : Nat} (F : Fun K "_law_caught" "_law_caught" sCaught f fd) (GF : FnOk P w K mg base (L2.CX P w) k g gd ["words"] (spFirst C)) (gF : mg "first_other" = some (.ref g)) (kF : PySem.W.keepIn K (.ref g) = true) (bF : Binds K gd ["words"] [])
    (T : PySem.ValX.ValTxt "InvalidWords" "InvalidWords.__init__" K mg C fI) : FnOk P w K mg base CX0 (k + 1) f fd ["_law_thing"] spCaught := by
  refine F.ok scCaught (fun vs H Q E h => ?_) (fun cdv A outer s H vs Q E hr h => ?_)
  · obtain ⟨_, _, rfl, _⟩ := h
    rfl
  · obtain ⟨p, v, rfl, hv, hit, hbad, hQ⟩ := h
    have nd := scCaught.nd
    refine ⟨_, pss_one (Tf.ps_first (i := 1) (tb := fun W => tRet (tLst (tCons (tC (.str "told")) (tCons (tCallS (spFirst C) (WE W) (tCons (tVar 0) tNil)) tNil)))) (ts := fun a cls d => tRet (tLst (tCons (tC (.str "words")) (tCons (tByLow C a cls d (tVar 1)) tNil))))
      rfl rfl nd rfl rfl ⟨rfl, by decide, Or.inl T.gC⟩ (fun W pn xe tk _ => pss_one (ps_ret (by exact (pe_lst (pa_cons pe_str (pa_cons (pe_callS GF hr rfl gF kF bF (fun σ => passAt tk σ) (by exact (pa_cons (pv 0) pa_nil))) pa_nil))))))
      (fun a oe cls d pn hz hf => pss_one (ps_ret (by exact (pe_lst (pa_cons pe_str (pa_cons (pe_byLow T hz hf (pv 1)) pa_nil))))))), ?_⟩
    refine ⟨_, rfl, p, v, rfl, hv, hit, fun ys h1 h2 h3 => absurd ⟨_, h1, by rw [List.length_map]; exact h2, all_words h3⟩ hbad, fun _ H1 d s1 nd1 => ⟨T.te, fun a ha => ?_⟩⟩
    refine ⟨_, rfl, rfl, rfl, d, v, rfl, upd_same, by show 2 ≤ sizeLine; decide, fun l nl => ?_⟩
    have s2 : Same H (upd (upd H1 d (.xd [(("value" : Str), v)])) l (.lst [.str "words", v])) := fun q o e => by
      have e1 := s1 _ _ e
      have e2 : upd H1 d (.xd [(("value" : Str), v)]) q = some o := by rw [upd_ne (ne_of_none e1 nd1)]; exact e1
      rw [upd_ne (ne_of_none e2 nl)]
      exact e2
    exact hQ l _ s2 (s1.free (un_upd nl)) upd_same
theorem scRefused : FnScope ["_law_thing", "_law_found"] ["_law_thing"] (defScope sRefused) := ⟨rfl, rfl, rfl, by decide +kernel, rfl, by decide +kernel, by decide +kernel⟩
theorem ok_refused {f g : Addr} {fd gd : FuncData} {k : Nat} (F : Fun K "_law_refused_right" "_law_refused_right" sRefused f fd) (GC : FnOk P w K mg base CX0 k g gd ["_law_thing"] spCaught) (gC : mg "_law_caught" = some (.ref g)) (kC : PySem.W.keepIn K (.ref g) = true) (bC : Binds K gd ["_law_thing"] [])
    (T : Blt mg) : Rp.FnG P w K mg base (k + 1) f fd ["_law_thing"] spRefused := by
  refine Rp.fnG F scRefused (fun vs H Q E h => ?_) (fun cdv A outer s H vs Q E hg hr h => ?_)
  · obtain ⟨_, _, rfl, _⟩ := h
    rfl
  · obtain ⟨p, v, rfl, B0, hT, hbad, hQ⟩ := h
    have nd := scRefused.nd
    have hu := hr.units
    have REP := callR_or (Rp.reprR (X := (cxOf CX0 P w K mg base ["_law_thing", "_law_found"] "_law_refused_right" (defScope sRefused) f cdv A outer s H E).nox) hg hu) (Rp.reprTag hg hu)
    refine ⟨_, (pss_cons (ps_set (i := 1) nd rfl (Or.inl rfl) (pe_call GC hr (by rfl) gC kC bC .nil pass0 (pa_cons (pv 0) pa_nil))) <|
      pss_cons (ps_if (pt_val (pe_callB call_isi (by rfl) T.isi (by decide +kernel) (pa_cons (pv 0) (pa_cons (pe_bltn (v := .ty "list") (by rfl) T.list (by decide +kernel) rfl) pa_nil))))
        (pss_one (ps_expr (pe_bm PySem.F.plainAttrs_list PySem.F.slot_list_append PySem.F.type_list_append mt_append (pv 0) (pa_cons pe_str pa_nil)))) pss_nil) <|
      pss_one (ps_ret (pe_cmpR op_eq (pe_callB REP (by rfl) T.rep (by decide +kernel) (pa_cons (pv 1) pa_nil))
        (pe_callB REP (by rfl) T.rep (by decide +kernel) (pa_cons (pe_lst (pa_cons pe_str (pa_cons (pv 0) pa_nil))) pa_nil)) (nomark _)))), ?_⟩
    refine ⟨_, rfl, p, v, rfl, hT.ov, hT.items, hbad, fun l H1 s1 nl hl => ?_⟩
    have nlp : l ≠ p := (B0.ne nl).symm
    have b1 : Bx H1 p := by
      obtain ⟨c1, c2, c3, e⟩ := B0
      exact ⟨c1, c2, c3, s1 _ _ e⟩
    cases hT with
    | @lst a xs ds n e h hl2 =>
      have nla : l ≠ a := fun z => by subst z; rw [nl] at e; cases e
      have e1 := s1 _ _ e
      refine ⟨_, rfl, _, _, _, _, _, rfl, .ty _, .base (.lst e1), kit_ty (by show kitB "list" "list" = some true; decide +kernel), _, rfl, ?_⟩
      refine iteT ⟨_, rfl, .inl ⟨rfl, _, SqL.of e1⟩, a, _, _, rfl, rfl, e1, Nat.lt_of_le_of_lt hl2 (by decide), ?_⟩
      have hl3 : upd H1 a (.lst (xs ++ [.str "more"])) l = some (.lst [.str "words", .ref a]) := by rw [upd_ne nla]; exact hl
      have its : Its p a (upd H1 a (.lst (xs ++ [.str "more"]))) (xs ++ [.str "more"]) (ds ++ [.str "more"]) :=
        (h.keep fun q o n1 n2 e => by rw [upd_ne n2]; exact s1 _ _ e).snoc (.str "more" ⟨by decide, by decide +kernel⟩)
      have ld := h.len
      obtain ⟨⟨m1, m2, m3, m4⟩, _⟩ := many_ok its.mem (by rw [List.length_append, List.length_singleton]; omega)
      obtain ⟨q1, q2, q3, q4⟩ := tag_ok m1 m2 m3 m4
      refine ⟨_, rfl, .inl ⟨l, _, rfl, .lst (SqL.of hl3) (.cons (.str _) (.cons (.lst (SqL.of upd_same) its.dp) .nil)), q1, q2, q3, q4, _, rfl, by show 2 ≤ sizeLine; decide, fun m nm => ?_⟩⟩
      have nam : a ≠ m := ne_of_none upd_same nm
      have its2 : Its p a (upd (upd H1 a (.lst (xs ++ [.str "more"]))) m (.lst [.str "words", .ref a])) (xs ++ [.str "more"]) (ds ++ [.str "more"]) := its.keep fun q o _ _ e => by rw [upd_ne (ne_of_none e nm)]; exact e
      refine .inl ⟨m, _, rfl, .lst (SqL.of upd_same) (.cons (.str _) (.cons (.lst (SqL.of ((upd_ne nam).trans upd_same)) its2.dp) .nil)), q1, q2, q3, q4, rfl, ?_⟩
      rw [decide_eq_true rfl]
      refine hQ _ ?_ fun q o n1 n2 e => ?_
      · obtain ⟨c1, c2, c3, e⟩ := b1
        have e2 : upd H1 a (.lst (xs ++ [.str "more"])) p = some (.lst [.int c1, .int c2, .int c3]) := by rw [upd_ne n.symm]; exact e
        exact ⟨c1, c2, c3, by rw [upd_ne (ne_of_none e2 nm)]; exact e2⟩
      · have n3 : q ≠ a := fun z => n2 (by rw [z])
        have e2 : upd H1 a (.lst (xs ++ [.str "more"])) q = some o := by rw [upd_ne n3]; exact s1 _ _ e
        rw [upd_ne (ne_of_none e2 nm)]
        exact e2
    | @dct a kvs ds n e d ss dp sl =>
      have e1 := s1 _ _ e
      refine ⟨_, rfl, _, _, _, _, _, rfl, .ty _, .base (.dK e1), kit_ty (by show kitB "dict" "list" = some false; decide +kernel), _, rfl, ?_⟩
      refine iteF ⟨_, rfl, .inr ⟨l, a, _, kvs, ds, rfl, hl, e1, d, ss, dp, sl, _, rfl, by show 2 ≤ sizeLine; decide, fun m nm => .inr ⟨m, a, _, kvs, ds, rfl, upd_same, by rw [upd_ne (ne_of_none e1 nm)]; exact e1, d, ss, dp, sl, rfl, ?_⟩⟩⟩
      rw [decide_eq_true rfl]
      exact hQ _ (b1.up nm) fun q o _ _ e => by rw [upd_ne (ne_of_none (s1 _ _ e) nm)]; exact s1 _ _ e
    | @tup a xs ds n e h hl2 =>
      have e1 := s1 _ _ e
      have nla : l ≠ a := fun z => by subst z; rw [nl] at e; cases e
      have its : Its p a H1 xs ds := h.keep fun q o _ _ e => s1 _ _ e
      have ld := h.len
      obtain ⟨_, m1, m2, m3, m4⟩ := many_ok its.mem (by omega)
      obtain ⟨q1, q2, q3, q4⟩ := tag_ok m1 m2 m3 m4
      refine ⟨_, rfl, _, _, _, _, _, rfl, .ty _, .base (.tup e1), kit_ty (by show kitB "tuple" "list" = some false; decide +kernel), _, rfl, ?_⟩
      refine iteF ⟨_, rfl, .inl ⟨l, _, rfl, .lst (SqL.of hl) (.cons (.str _) (.cons (.tup (SqT.of e1) its.dp) .nil)), q1, q2, q3, q4, _, rfl, by show 2 ≤ sizeLine; decide, fun m nm => ?_⟩⟩
      have its2 := its.keep (H' := upd H1 m (.lst [.str "words", .ref a])) fun q o _ _ e => by rw [upd_ne (ne_of_none e nm)]; exact e
      refine .inl ⟨m, _, rfl, .lst (SqL.of upd_same) (.cons (.str _) (.cons (.tup (SqT.of (by rw [upd_ne (ne_of_none e1 nm)]; exact e1)) its2.dp) .nil)), q1, q2, q3, q4, rfl, ?_⟩
      rw [decide_eq_true rfl]
      exact hQ _ (b1.up nm) fun q o _ _ e => by rw [upd_ne (ne_of_none (s1 _ _ e) nm)]; exact s1 _ _ e
    | non =>
      obtain ⟨q1, q2, q3, q4⟩ := tag_ok (d := .none) rfl rfl (by decide) (by decide +kernel)
      refine ⟨_, rfl, _, _, _, _, _, rfl, .ty _, .base .non, kit_ty (by show kitB "NoneType" "list" = some false; decide +kernel), _, rfl, ?_⟩
      refine iteF ⟨_, rfl, .inl ⟨l, _, rfl, .lst (SqL.of hl) (.cons (.str _) (.cons .non .nil)), q1, q2, q3, q4, _, rfl, by show 2 ≤ sizeLine; decide, fun m nm => .inl ⟨m, _, rfl, .lst (SqL.of upd_same) (.cons (.str _) (.cons .non .nil)), q1, q2, q3, q4, rfl, ?_⟩⟩⟩
      rw [decide_eq_true rfl]
      exact hQ _ (b1.up nm) fun q o _ _ e => by rw [upd_ne (ne_of_none (s1 _ _ e) nm)]; exact s1 _ _ e
    | bl b =>
      have sm := (It.bl (p := p) (a := p) (H := H) b).sm
      obtain ⟨q1, q2, q3, q4⟩ := tag_ok sm.1 sm.2.1 (by have := sm.2.2.1; omega) (by have := sm.2.2.2; omega)
      refine ⟨_, rfl, _, _, _, _, _, rfl, .ty _, .base (.bl b), kit_ty (by show kitB "bool" "list" = some false; decide +kernel), _, rfl, ?_⟩
      refine iteF ⟨_, rfl, .inl ⟨l, _, rfl, .lst (SqL.of hl) (.cons (.str _) (.cons (.bl b) .nil)), q1, q2, q3, q4, _, rfl, by show 2 ≤ sizeLine; decide, fun m nm => .inl ⟨m, _, rfl, .lst (SqL.of upd_same) (.cons (.str _) (.cons (.bl b) .nil)), q1, q2, q3, q4, rfl, ?_⟩⟩⟩
      rw [decide_eq_true rfl]
      exact hQ _ (b1.up nm) fun q o _ _ e => by rw [upd_ne (ne_of_none (s1 _ _ e) nm)]; exact s1 _ _ e
    | int i hi =>
      have sm := (It.int (p := p) (a := p) (H := H) i hi).sm
      obtain ⟨q1, q2, q3, q4⟩ := tag_ok sm.1 sm.2.1 (by have := sm.2.2.1; omega) (by have := sm.2.2.2; omega)
      refine ⟨_, rfl, _, _, _, _, _, rfl, .ty _, .base (.int i), kit_ty (by show kitB "int" "list" = some false; decide +kernel), _, rfl, ?_⟩
      refine iteF ⟨_, rfl, .inl ⟨l, _, rfl, .lst (SqL.of hl) (.cons (.str _) (.cons (.int i) .nil)), q1, q2, q3, q4, _, rfl, by show 2 ≤ sizeLine; decide, fun m nm => .inl ⟨m, _, rfl, .lst (SqL.of upd_same) (.cons (.str _) (.cons (.int i) .nil)), q1, q2, q3, q4, rfl, ?_⟩⟩⟩
      rw [decide_eq_true rfl]
      exact hQ _ (b1.up nm) fun q o _ _ e => by rw [upd_ne (ne_of_none (s1 _ _ e) nm)]; exact s1 _ _ e
    | str z hz =>
      have sm := (It.str (p := p) (a := p) (H := H) z hz).sm
      obtain ⟨q1, q2, q3, q4⟩ := tag_ok sm.1 sm.2.1 (by have := sm.2.2.1; omega) (by have := sm.2.2.2; omega)
      refine ⟨_, rfl, _, _, _, _, _, rfl, .ty _, .base (.str z), kit_ty (by show kitB "str" "list" = some false; decide +kernel), _, rfl, ?_⟩
      refine iteF ⟨_, rfl, .inl ⟨l, _, rfl, .lst (SqL.of hl) (.cons (.str _) (.cons (.str z) .nil)), q1, q2, q3, q4, _, rfl, by show 2 ≤ sizeLine; decide, fun m nm => .inl ⟨m, _, rfl, .lst (SqL.of upd_same) (.cons (.str _) (.cons (.str z) .nil)), q1, q2, q3, q4, rfl, ?_⟩⟩⟩
      rw [decide_eq_true rfl]
      exact hQ _ (b1.up nm) fun q o _ _ e => by rw [upd_ne (ne_of_none (s1 _ _ e) nm)]; exact s1 _ _ e
end
end Bxs
/-! ### a call of a def that asks repr, where none is under way -/
namespace Rp
open PySem PySem.Spec PyProof.Rows L2
theorem pass_none {X : Cx} : Passes (L2.CX X.prog X.w) X E0 := by
  intro pins σ H s e s' I c
  obtain ⟨_, _, _, _, _, _, _, _, _, _, _, _, z⟩ := c
  exact z.elim
theorem pe_callG {X : Cx} {k : Nat} {f : Addr} {fd : FuncData} {ps : List Str} {sp : Sp} {x : Str} {p pos : Pos} {e : Expr} {es : List Expr} {t : TA} (F : FnG X.prog X.w X.K X.mg X.base k f fd ps sp)
    (hg : X.A.guards = some []) (hr : Room k X.A) (gl : Gl X x) (hm : X.mg x = some (.ref f)) (hk : PySem.W.keepIn X.K (.ref f) = true) (hb : Binds X.K fd ps []) (ha : PA X (e :: es) t)
    (hdb : (x == ("__debug__" : Str)) = false := by decide) (he : starEach (e :: es) X.env = (false, eval e X.env) :: starEach es X.env := by rfl) (hpl : (backTo pos (starEach es X.env)).any (·.1) = false := by rfl) :
    PE X (.Call (.Name x p) (e :: es) [] pos) (tCall sp [] E0 t) := by
  constructor
  intro pins s σ H Q I h
  refine wpAny_Call_Name_kw (ld_glob I gl hm ?_ hdb)
  refine PySem.W.callWith_K (h₀ := X.base) I.ok.mod.kin hk (thn (ha.run pos pins s σ H _ I h) ?_) he hpl
  rintro us s1 ⟨vs, H1, I1, r, q⟩
  refine ⟨I1.kIn, ?_⟩
  have q' : sp vs H1 Q E0 := by
    have := q
    rw [List.append_nil] at this
    exact this
  have hl : (us ++ []).length = ps.length := by
    rw [List.append_nil, ← r.length]
    exact F.many _ _ _ _ q'
  have hbind := hb s1 us I1.kIn hl
  rw [List.append_nil] at hbind
  refine wpAny_call (codeAny_mono (F.go X.A X.stack s1 H1 ⟨us, []⟩ us vs Q E0 hg hr I1.env0 hbind r q') ?_)
  rintro (er | fl) s' hq
  · exact hq.elim
  · cases fl
    case ret u => exact I1.after hq
    all_goals exact False.elim hq
end Rp
namespace Bxs
open PySem L2
theorem pt_as {X : Cx} {c : Expr} {t t' : TT} (h : PT X c t) (k : ∀ σ H Q, t' σ H Q → t σ H Q) : PT X c t' := ⟨fun pins s σ H Q I q => h.run pins s σ H Q I (k σ H Q q)⟩
/-- the text in slot i is not in the list in slot j -/
def tNotIn (i j : Nat) : TT := fun σ H Q => ∃ (x : Str) (a : Addr) (ys : List Str), σ[i]? = some (some (.str x)) ∧ σ[j]? = some (some (.ref a)) ∧ H a = some (.lst (ys.map V.str)) ∧ Q (decide (x ∉ ys)) H
theorem inV_strs (x : Str) : ∀ ys : List Str, inV (.str x) (ys.map V.str) = decide (x ∈ ys)
  | [] => by simp [inV]
  | y :: ys => by
    have ih := inV_strs x ys
    unfold inV at ih ⊢
    rw [List.map_cons, List.any_cons, ih]
    have e : eqV (.str y) (.str x) = decide (y = x) := by
      show (y == x) = _
      rw [Bool.eq_iff_iff]
      simp
    rw [e]
    by_cases h : y = x
    · simp [h]
    · simp [h, Ne.symm h]
theorem flat_strs (ys : List Str) : (ys.map V.str).all flatV = true := by
  rw [List.all_eq_true]
  intro x hx
  obtain ⟨y, _, rfl⟩ := List.mem_map.mp hx
  rfl
theorem subset_len {l ys : List Str} (nd : l.Nodup) (h : ∀ c ∈ l, c ∈ ys) : l.length ≤ ys.length := by
  induction l generalizing ys with
  | nil => exact Nat.zero_le _
  | cons c l ih =>
    have hc := h c (List.mem_cons_self ..)
    have nd' := List.nodup_cons.mp nd
    have := ih (ys := ys.erase c) nd'.2 fun d hd => (List.mem_erase_of_ne (fun e => nd'.1 (by rw [← e]; exact hd))).mpr (h d (List.mem_cons_of_mem _ hd))
    rw [List.length_erase_of_mem hc] at this
    have hp := List.length_pos_of_mem hc
    rw [List.length_cons]
    omega
theorem first101 : (cands.take 101).Nodup := by decide +kernel
theorem cands_len : cands.length = 702 := by decide +kernel
theorem some_left {ys : List Str} (h : ys.length ≤ 100) : ∃ r, (cands.filter fun c => decide (c ∉ ys)) = firstO ys :: r := by
  cases e : cands.filter fun c => decide (c ∉ ys) with
  | cons c r =>
    refine ⟨r, ?_⟩
    unfold firstO
    rw [e]
    rfl
  | nil =>
    exfalso
    have all : ∀ c ∈ cands.take 101, c ∈ ys := fun c hc => by
      have hm := List.mem_of_mem_take hc
      by_cases z : c ∈ ys
      · exact z
      · have : c ∈ cands.filter fun c => decide (c ∉ ys) := List.mem_filter.mpr ⟨hm, decide_eq_true z⟩
        rw [e] at this
        cases this
    have := subset_len first101 all
    rw [List.length_take, cands_len] at this
    omega
theorem Its.strs (p a : Addr) (H : Hp) : ∀ ys : List Str, (∀ y ∈ ys, Gd y) → Its p a H (ys.map V.str) (ys.map PyData.str)
  | [], _ => .nil
  | y :: ys, h => .cons (.str y (h y (List.mem_cons_self ..))) (Its.strs p a H ys fun z hz => h z (List.mem_cons_of_mem _ hz))
theorem Its.app {p a : Addr} {H : Hp} {vs ws : List V} {ds es : List PyData} (h : Its p a H vs ds) (k : Its p a H ws es) : Its p a H (vs ++ ws) (ds ++ es) := by
  induction h with
  | nil => exact k
  | cons h _ ih => exact .cons h ih
theorem bad_item {H : Hp} {v : V} {xs : List V} {x : V} (h : Sq H v xs) (hx : x ∈ xs) (hw : word x = false) : bad H v := by
  rintro ⟨ys, h2, _, h3⟩
  have := h.one h2
  subst this
  have := List.all_eq_true.mp h3 x hx
  rw [hw] at this
  cases this
theorem bad_len {H : Hp} {v : V} {xs : List V} (h : Sq H v xs) (hl : 100 < xs.length) : bad H v := by
  rintro ⟨ys, h2, h3, _⟩
  have := h.one h2
  subst this
  omega
theorem bad_no {H : Hp} {v : V} (h : ∀ xs, ¬ Sq H v xs) : bad H v := fun ⟨xs, hx, _⟩ => h xs hx
theorem cut_two {xs : List V} {a b : Nat} (ha : a ≤ xs.length) : cutV xs (some (a : Int)) (some (b : Int)) = (xs.drop a).take (min b xs.length - a) := by
  unfold cutV
  rw [HT.sIx_nat, HT.sIx_nat, Nat.min_eq_left ha]
def spLaw (K : PySem.W.Frag) : Sp := fun vs H Q _ => ∃ (a : Addr) (ns : List Int), vs = [.ref a] ∧ SqL K H a (ns.map V.int) ∧ ns.length ≤ 63 ∧ ∀ H', Q (.bl true) H'
abbrev lawN : List Str := ["_law_script", "_law_ranked_here", "_law_k", "_law_box_here", "_law_turn", "_law_some", "_law_due", "_law_kept", "_law_thing", "_law_at", "_law_odd", "_law_wrong", "_law_none", "_law_word"]
theorem scLaw : FnScope lawN ["_law_script"] (defScope sLaw) := ⟨rfl, rfl, rfl, by decide +kernel, rfl, by decide +kernel, by decide +kernel⟩
end Bxs
namespace Bxs
open PySem L2
theorem if0 {b : Bool} {A B : Prop} (h : b = false) (k : B) : if b = true then A else B := by
  subst h
  exact iteF k
theorem if1 {b : Bool} {A B : Prop} (h : b = true) (k : A) : if b = true then A else B := by
  subst h
  exact iteT k
theorem scFirst : FnScope ["words", "known", "start", "letter"] ["words"] (defScope sFirst) := ⟨rfl, rfl, rfl, by decide +kernel, rfl, by decide +kernel, by decide +kernel⟩
abbrev abcS : Str := "abcdefghijklmnopqrstuvwxyz"
/-- the starts: none, and each letter -/
def starts : List Str := "" :: singles
theorem starts_row {i : Nat} {z : Str} (h : starts[i]? = some z) : ((List.range 26).map fun j => z ++ mkS [97 + j]) = (cands.drop (26 * i)).take 26 ∧ i < 27 ∧ z.length ≤ 1 := by
  have hl : i < 27 := by
    have := (List.getElem?_eq_some_iff.mp h).1
    simpa [starts, singles] using this
  have all : ∀ i < 27, ((List.range 26).map fun j => (starts.getD i "") ++ mkS [97 + j]) = (cands.drop (26 * i)).take 26 ∧ (starts.getD i "").length ≤ 1 := by decide +kernel
  have e : starts.getD i "" = z := by simp [h]
  obtain ⟨a, b⟩ := all i hl
  rw [e] at a b
  exact ⟨a, hl, b⟩
theorem firstO_at {ys : List Str} {n : Nat} {c : Str} (hn : ∀ k < n, ∀ d, cands[k]? = some d → d ∈ ys) (hc : cands[n]? = some c) (h : c ∉ ys) : firstO ys = c := by
  have hlt := (List.getElem?_eq_some_iff.mp hc).1
  have e : cands = cands.take n ++ c :: cands.drop (n + 1) := by
    have e2 : cands[n] = c := (List.getElem?_eq_some_iff.mp hc).2
    rw [← e2, List.getElem_cons_drop, List.take_append_drop]
  unfold firstO
  rw [e, List.filter_append]
  have e0 : (cands.take n).filter (fun c => decide (c ∉ ys)) = [] := by
    rw [List.filter_eq_nil_iff]
    intro d hd
    obtain ⟨k, hk, rfl⟩ := List.mem_iff_getElem.mp hd
    have hk2 : k < n := by
      rw [List.length_take] at hk
      omega
    have := hn k hk2 (cands.take n)[k] (by rw [← List.getElem?_eq_getElem hk, List.getElem?_take_of_lt hk2])
    rw [decide_not, decide_eq_true this]
    simp
  rw [e0, List.nil_append, List.filter_cons_of_pos (by simpa using h)]
  rfl
section
variable {P : Program} {w : World} {K : PySem.W.Frag} {mg : Str → Option Value} {base : Heap}
theorem ok_first {f g C fI : Addr} {fd gd : FuncData} {t1 t2 : Tok} (F : Fun K "first_other" "first_other" sFirst f fd) (GA : FnOk P w K mg base CX0 2 g gd ["value", "least", "most"] spAre) (gA : mg "are_words" = some (.ref g)) (kA : PySem.W.keepIn K (.ref g) = true)
    (bA : Binds K gd ["value", "least", "most"] []) (gM : mg "MOST_WORDS" = some (.int 100 t1)) (gL : mg "LETTERS" = some (.str "abcdefghijklmnopqrstuvwxyz" t2)) (hset : mg "set" = none) (T : PySem.ValX.ValTxt "InvalidWords" "InvalidWords.__init__" K mg C fI) :
    FnOk P w K mg base (L2.CX P w) 4 f fd ["words"] (spFirst C) := by
  refine F.okX scFirst (fun vs H Q E h => ?_) (fun cdv A outer s H vs Q E hr h => ?_)
  · obtain ⟨_, _, rfl, _⟩ := h
    rfl
  · obtain ⟨p, v, rfl, hv, hit, hQ, hE⟩ := h
    have nd := scFirst.nd
    have hr2 : Room 2 _ := hr.mono (by decide)
    refine ⟨_, pss_cons (ps_if (pt_not (pt_val (pe_call GA hr2 (by rfl) gA kA bA .nil pass0 (pa_cons (pv 0) (pa_cons pe_int (pa_cons (pe_glob (v := .int 100) (by rfl) gM ⟨_, rfl⟩) pa_nil))))))
        (pss_one (ps_raiseLow rfl T hr2 (takes_of rfl rfl rfl rfl) (by exact (pa_cons (pv 0) pa_nil)))) pss_nil) <| PSs.nox <|
      pss_cons (ps_set (i := 1) nd rfl (Or.inl rfl) (pe_callTy (DS.cr_setS rfl) (by rfl) hset (by decide +kernel) (pa_cons (pv 0) pa_nil))) <|
      pss_one (ps_for PassesOwn.never rfl (pi_list (pe_lst (pa_cons pe_str (DS.pa_starT rfl (pe_glob (v := .str abcS) (by rfl) gL ⟨_, rfl⟩) pa_nil)))) (pg_name (i := 2) nd rfl (Or.inl rfl))
        (pss_one (ps_for PassesOwn.never rfl (pi_str (pe_glob (v := .str abcS) (by rfl) gL ⟨_, rfl⟩)) (pg_name (i := 3) nd rfl (Or.inl rfl))
          (pss_one (ps_if (pt_cmpR DS.op_notin_setS (pe_op op_add_str (pv 2) (pv 3)) (pv 1) (by rfl)) (pss_one (ps_ret (pe_op op_add_str (pv 2) (pv 3)))) pss_nil))))), ?_⟩
    refine ⟨_, rfl, p, v, 0, 100, rfl, hv, hit, fun xs hx H1 s1 => ?_, fun hno H1 s1 => ?_⟩
    · refine ⟨_, rfl, ?_⟩
      cases e : ((decide ((0 : Int) ≤ (xs.length : Int)) && decide ((xs.length : Int) ≤ 100)) && xs.all word) with
      | false =>
        have hb : bad H v := by
          rintro ⟨zs, hz, hl, hw⟩
          have := hx.one hz
          subst this
          rw [hw, decide_eq_true (show (0 : Int) ≤ (xs.length : Int) by omega), decide_eq_true (show (xs.length : Int) ≤ 100 by omega)] at e
          cases e
        exact iteT ⟨_, rfl, _, rfl, fun d nd => hE hb H1 d s1 nd⟩
      | true =>
        rw [Bool.and_eq_true, Bool.and_eq_true] at e
        obtain ⟨⟨_, hl⟩, hw⟩ := e
        have hl := of_decide_eq_true hl
        obtain ⟨ys, rfl, hys⟩ := words_of_all hw
        rw [List.length_map] at hl
        have hlen : ys.length ≤ 100 := by omega
        have hQ2 := hQ ys hx hlen hys
        refine iteF ?_
        obtain ⟨a, rfl, hsq⟩ : ∃ a, v = .ref a ∧ (SqL K H1 a (ys.map V.str) ∨ SqT K H1 a (ys.map V.str)) := by
          cases hx with
          | lst e => exact ⟨_, rfl, .inl (SqL.of (s1 _ _ e))⟩
          | tup e => exact ⟨_, rfl, .inr (SqT.of (s1 _ _ e))⟩
        refine ⟨_, rfl, a, ys, rfl, hsq, by unfold scanBound; omega, fun q nq => ?_⟩
        have s2 : Same H (upd H1 q (DS.SetS P w q ys)) := fun b o e => by rw [upd_ne (ne_of_none (s1 _ _ e) nq)]; exact s1 _ _ e
        refine ⟨abcS, rfl, by decide, ?_⟩
        refine ⟨by show 27 ≤ sizeLine; decide, fun L nL => ?_⟩
        have eL : V.str "" :: (abcS.cps.toList.map (fun c => V.str ⟨#[c]⟩) ++ []) = starts.map V.str := by
          have : abcS.cps.toList = List.range' 97 26 := by decide +kernel
          rw [this]
          rfl
        rw [eL]
        have s3 : Same H (upd (upd H1 q (DS.SetS P w q ys)) L (.lst (starts.map V.str))) := fun b o e => by rw [upd_ne (ne_of_none (s2 _ _ e) nL)]; exact s2 _ _ e
        have hq : upd (upd H1 q (DS.SetS P w q ys)) L (.lst (starts.map V.str)) q = some (DS.SetS P w q ys) := by rw [upd_ne (ne_of_none upd_same nL), upd_same]
        refine ⟨L, rfl, ⟨_, SqL.of upd_same⟩, for_list (K := K) (a := L) (xs := starts.map V.str) (fun i σ H' => ∃ (w2 w3 : Option V), σ = [some (.ref a), some (.ref q), w2, w3] ∧ Same (upd (upd H1 q (DS.SetS P w q ys)) L (.lst (starts.map V.str))) H' ∧
          ∀ k < 26 * i, ∀ d, cands[k]? = some d → d ∈ ys) ⟨_, _, rfl, Same.refl _, fun k hk => by omega⟩ (fun i σ H' _ ⟨_, _, _, k, _⟩ => SqL.of (k _ _ upd_same)) ?_ ?_⟩
        · rintro i x _ H2 hi ⟨w2, w3, rfl, k2, hin⟩
          rw [List.getElem?_map, Option.map_eq_some_iff] at hi
          obtain ⟨z, hz, rfl⟩ := hi
          obtain ⟨row, hi27, hz1⟩ := starts_row hz
          refine ⟨_, rfl, for_it walk_str (fun j σ H' => ∃ w3 : Option V, σ = [some (.ref a), some (.ref q), some (.str z), w3] ∧ Same (upd (upd H1 q (DS.SetS P w q ys)) L (.lst (starts.map V.str))) H' ∧
            ∀ k < 26 * i + j, ∀ d, cands[k]? = some d → d ∈ ys) ⟨_, rfl, k2, fun k hk => hin k (by omega)⟩ (fun _ _ _ _ _ => trivial) ?_ ?_⟩
          · rintro j x _ H3 H4 hj ⟨w3, rfl, k3, hin3⟩ ⟨rfl, c, hc, rfl⟩
            obtain ⟨hj', rfl⟩ := abc_at hc
            have hcand : cands[26 * i + j]? = some (z ++ mkS [97 + j]) := by
              have : ((List.range 26).map fun j => z ++ mkS [97 + j])[j]? = ((cands.drop (26 * i)).take 26)[j]? := by rw [row]
              rw [List.getElem?_map, List.getElem?_range hj', List.getElem?_take_of_lt hj', List.getElem?_drop] at this
              exact this.symm
            refine ⟨_, rfl, _, rfl, _, _, rfl, rfl, (by show z.length + 1 ≤ sizeLine; exact Nat.le_trans (show z.length + 1 ≤ 2 by omega) (by decide)), _, rfl, _, q, ys, rfl, rfl, k3 _ _ hq, ?_⟩
            refine ⟨_, rfl, ?_⟩
            cases hmem : decide (z ++ mkS [97 + j] ∈ ys) with
            | true =>
              refine if0 (by show (!decide (z ++ mkS [97 + j] ∈ ys)) = false; rw [hmem]; rfl) ⟨_, rfl, k3, fun k hk d hd => ?_⟩
              by_cases hk2 : k < 26 * i + j
              · exact hin3 k hk2 d hd
              · have : k = 26 * i + j := by omega
                subst this
                rw [hcand] at hd
                cases hd
                exact of_decide_eq_true hmem
            | false =>
              refine if1 (by show (!decide (z ++ mkS [97 + j] ∈ ys)) = true; rw [hmem]; rfl) ⟨_, rfl, _, rfl, _, _, rfl, rfl, ?_, ?_⟩
              · show z.length + 1 ≤ sizeLine
                exact Nat.le_trans (show z.length + 1 ≤ 2 by omega) (by decide)
              · have := hQ2 _ (s3.trans k3)
                rw [firstO_at hin3 hcand (of_decide_eq_false hmem)] at this
                exact this
          · rintro _ H3 ⟨w3, rfl, k3, hin3⟩
            refine ⟨_, _, rfl, k3, fun k hk => hin3 k ?_⟩
            have : abc.cps.size = 26 := by decide +kernel
            have e2 : abcS.cps.size = 26 := by decide +kernel
            omega
        · rintro _ H2 ⟨w2, w3, rfl, k2, hin⟩
          exfalso
          obtain ⟨r, hr⟩ := some_left hlen
          have hm : firstO ys ∈ cands.filter fun c => decide (c ∉ ys) := by rw [hr]; exact List.mem_cons_self ..
          obtain ⟨h1, h2⟩ := List.mem_filter.mp hm
          obtain ⟨k, hk, e⟩ := List.mem_iff_getElem.mp h1
          refine of_decide_eq_true h2 (hin k ?_ _ (by rw [List.getElem?_eq_getElem hk, e]))
          have e3 : (starts.map V.str).length = 27 := by decide +kernel
          rw [cands_len] at hk
          omega
    · exact ⟨_, rfl, iteT ⟨_, rfl, _, rfl, fun d nd => hE (bad_no (fun xs hx => hno xs hx)) H1 d s1 nd⟩⟩
end
end Bxs
namespace Bxs
open PySem L2
section
variable {P : Program} {w : World} {K : PySem.W.Frag} {mg : Str → Option Value} {base : Heap}
/-- the odd item of a refused list -/
def tOdd : TE := fun σ H Q => ∃ p : Addr, σ[3]? = some (some (.ref p)) ∧ Bx H p ∧ ∀ (v : V) (d : PyData) (H' : Hp), Al p H H' → word v = false → (∀ a, H' a = none → It p a H' v d) → Q v H'
/-- the refused list -/
def tWrong : TE := fun σ H Q => ∃ (p sa : Addr) (ys : List Str) (at_ : Nat) (v : V) (d : PyData), σ[5]? = some (some (.ref sa)) ∧ σ[9]? = some (some (.int (at_ : Int))) ∧ σ[10]? = some (some v) ∧ Bx H p ∧ sa ≠ p ∧ H sa = some (.lst (ys.map V.str)) ∧
  (∀ y ∈ ys, Gd y) ∧ at_ ≤ ys.length ∧ ys.length ≤ 100 ∧ (∀ a, H a = none → It p a H v d) ∧
  ∀ (c : Addr) (xs : List V) (ds : List PyData) (H' : Hp), Al p H H' → H c = none → c ≠ p → H' c = some (.lst xs) → v ∈ xs → xs.length ≤ 101 → (∀ a, H a = none → Its p a H' xs ds) → Q (.ref c) H'
/-- what is no list of words at all -/
def tNone : TE := fun σ H Q => ∃ (p sa r : Addr) (ys : List Str), σ[1]? = some (some (.ref r)) ∧ σ[3]? = some (some (.ref p)) ∧ σ[5]? = some (some (.ref sa)) ∧ Bx H p ∧ sa ≠ p ∧ r ≠ p ∧ H sa = some (.lst (ys.map V.str)) ∧ H r = some (.lst (cands.map V.str)) ∧
  (∀ y ∈ ys, word (.str y) = true) ∧ ys.length ≤ 100 ∧ ∀ (v : V) (H' : Hp), Al p H H' → (∀ H'' : Hp, (∀ q o, H q = none → q ≠ p → H' q = some o → H'' q = some o) → Th p H'' v ∧ bad H'' v) → (∀ q, v = .ref q → H q = none) → Q v H'
theorem strs_inj : ∀ {a b : List Str}, a.map V.str = b.map V.str → a = b
  | [], [], _ => rfl
  | [], _ :: _, h => by cases h
  | _ :: _, [], h => by cases h
  | x :: a, y :: b, h => by
    rw [List.map_cons, List.map_cons] at h
    injection h with h1 h2
    injection h1 with h1
    rw [h1, strs_inj h2]
theorem eqv_strs (ys : List Str) : PyData.eqv (.list (ys.map PyData.str)) (.list (ys.map PyData.str)) = true := by
  rw [PyData.eqv]
  induction ys with
  | nil => rfl
  | cons y ys ih => simp [PyData.eqvAll, PyData.eqv, ih]
abbrev oneA : List Str := ["a"]
theorem keep_up {p c : Addr} {H H' : Hp} {o : HO} (k : Al p H H') (n : H' c = none) : Al p H (upd H' c o) := k.trans (Al.up k.1 n)
theorem ok_law {f aF aC aB aT aR aL aM aW aX aQ aD C fI : Addr} {fd dF dC dB dT dR dL dM dW dX dQ : FuncData} (F : Fun K "law" "law" sLaw f fd) (T : Blt mg)
    (GF : FnOk P w K mg base (L2.CX P w) 4 aF dF ["words"] (spFirst C)) (gF : mg "first_other" = some (.ref aF)) (kF : PySem.W.keepIn K (.ref aF) = true) (bF : Binds K dF ["words"] [])
    (FC : Fun K "_law_cell" "_law_cell" sCell aC dC) (gC : mg "_law_cell" = some (.ref aC)) (bC : Binds K dC ["_law_script", "_law_k"] [])
    (FB : Fun K "_law_box" "_law_box" sBox aB dB) (gB : mg "_law_box" = some (.ref aB)) (bB : Binds K dB ["_law_cell_here"] [])
    (FT : Fun K "_law_take" "_law_take" sTake aT dT) (gT : mg "_law_take" = some (.ref aT)) (bT : Binds K dT ["_law_box_here", "_law_size"] [])
    (FR : Fun K "_law_ranked" "_law_ranked" sRanked aR dR) (gR : mg "_law_ranked" = some (.ref aR)) (bR : Binds K dR [] [])
    (FL : Fun K "_law_list" "_law_list" sList aL dL) (gL : mg "_law_list" = some (.ref aL)) (bL : Binds K dL ["_law_box_here", "_law_ranked_here"] [])
    (FM : Fun K "_law_mixed" "_law_mixed" sMixed aM dM) (gM : mg "_law_mixed" = some (.ref aM)) (bM : Binds K dM ["_law_box_here", "_law_some"] [])
    (FW : Fun K "_law_words" "_law_words" sWords aW dW) (gW : mg "_law_words" = some (.ref aW)) (bW : Binds K dW ["_law_box_here", "_law_many"] [])
    (FX : Fun K "_law_caught" "_law_caught" sCaught aX dX) (gX : mg "_law_caught" = some (.ref aX)) (bX : Binds K dX ["_law_thing"] [])
    (FQ : Fun K "_law_refused_right" "_law_refused_right" sRefused aQ dQ) (gQ : mg "_law_refused_right" = some (.ref aQ)) (bQ : Binds K dQ ["_law_thing"] [])
    (TX : PySem.ValX.ValTxt "InvalidWords" "InvalidWords.__init__" K mg C fI) : Rp.FnG P w K mg base 8 f fd ["_law_script"] (spLaw K) := by
  have GC : FnOk P w K mg base CX0 1 aC dC ["_law_script", "_law_k"] (spCell K) := ok_cell FC T.len
  have GB : FnOk P w K mg base CX0 1 aB dB ["_law_cell_here"] spBox := ok_box FB T.max T.int
  have GT : FnOk P w K mg base CX0 1 aT dT ["_law_box_here", "_law_size"] spTake := ok_take FT T.int
  have GR : FnOk P w K mg base CX0 1 aR dR [] spRanked := ok_ranked FR
  have GL : FnOk P w K mg base CX0 3 aL dL ["_law_box_here", "_law_ranked_here"] spList := ok_list FL FT bT gT FW bW gW FM bM gM T
  have GX : FnOk P w K mg base CX0 5 aX dX ["_law_thing"] spCaught := ok_caught FX GF gF kF bF TX
  have GQ : Rp.FnG P w K mg base 6 aQ dQ ["_law_thing"] spRefused := ok_refused FQ GX gX FX.kp bX T
  refine Rp.fnG F scLaw (fun vs H Q E h => ?_) (fun cdv A outer s H vs Q E hg hr h => ?_)
  · obtain ⟨a, ns, rfl, _⟩ := h
    rfl
  · obtain ⟨a, ns, rfl, hS, hlen, hQ⟩ := h
    have nd := scLaw.nd
    have hr1 : Room 1 _ := hr.mono (by decide)
    have hr3 : Room 3 _ := hr.mono (by decide)
    have hr4 : Room 4 _ := hr.mono (by decide)
    have hr6 : Room 6 _ := hr.mono (by decide)
    refine ⟨_, (pss_cons (ps_set (i := 1) nd rfl (Or.inl rfl) (pe_call0 GR hr1 (by rfl) gR FR.kp bR .nil pass0)) <|
      pss_cons (ps_for PassesOwn.never rfl (pi_range1 (by rfl) T.rng (pa_cons (pe_callB (call_max2 rfl) (by rfl) T.max (by decide +kernel) (pa_cons pe_int (pa_cons
          (pe_callB (call_min2 rfl) (by rfl) T.min (by decide +kernel) (pa_cons pe_int (pa_cons (pe_callB call_len_seq (by rfl) T.len PySem.boot_len (pa_cons (pv 0) pa_nil)) pa_nil))) pa_nil))) pa_nil))
        (pg_name (i := 2) nd rfl (Or.inl rfl)) <|
        pss_cons (ps_set (i := 3) nd rfl (Or.inl rfl) (pe_call GB hr1 (by rfl) gB FB.kp bB .nil pass0 (pa_cons (pe_call GC hr1 (by rfl) gC FC.kp bC .nil pass0 (pa_cons (pv 0) (pa_cons (pv 2) pa_nil))) pa_nil))) <|
        pss_one (ps_for PassesOwn.never rfl (pi_range1 (by rfl) T.rng (pa_cons pe_int pa_nil)) (pg_name (i := 4) nd rfl (Or.inl rfl)) <|
          pss_cons (ps_set (i := 5) nd rfl (Or.inr rfl) (pe_call GL hr3 (by rfl) gL FL.kp bL .nil pass0 (pa_cons (pv 3) (pa_cons (pv 1) pa_nil)))) <|
          pss_cons (ps_set (i := 6) nd rfl (Or.inl rfl) (pe_ix ix_list (pe_lc (own := [("_law_word", 13)]) (g := gName 13) (tt := tNotIn 13 5) rfl nd (pi_list (pv 1))
              (blkOk_by (own := [("_law_word", 13)]) (N := lawN) (sc := defScope sLaw) (by decide +kernel)) (fun _ _ _ _ _ => pg_name (i := 13) nd rfl (Or.inl rfl))
              (fun _ _ _ _ _ => pts_one (pt_as (t' := tNotIn 13 5) (pt_cmpR op_notIn_seq (pv 13) (pv 5) (by rfl)) ?e1)) (fun _ _ _ _ _ => pv 13)) pe_int (fun _ _ => rfl))) <|
          pss_cons (ps_set (i := 7) nd rfl (Or.inl rfl) (pe_callTy call_list_of (by rfl) T.list (by decide +kernel) (pa_cons (pv 5) pa_nil))) <|
          pss_cons (ps_for PassesOwn.never rfl (pi_list (pe_lst (pa_cons (pv 5) (pa_cons (pe_callTy call_tuple_of (by rfl) T.tuple (by decide +kernel) (pa_cons (pv 5) pa_nil)) pa_nil)))) (pg_name (i := 8) nd rfl (Or.inl rfl)) <|
            pss_one (ps_if (PW.pt (pw_or (pt_cmpR op_ne (pe_call GF hr4 (by rfl) gF kF bF .nil Rp.pass_none (pa_cons (pv 8) pa_nil)) (pv 6) (nomark _)) (pw_or1 (pt_cmpR (op_neD hr.units) (pv 5) (pv 7) (nomark _))))) (pss_one (ps_ret pe_bl)) pss_nil)) <|
          pss_cons (ps_set (i := 9) nd rfl (Or.inl rfl) (pe_call GT hr1 (by rfl) gT FT.kp bT .nil pass0 (pa_cons (pv 3) (pa_cons (pe_op op_add (pe_callB call_len_seq (by rfl) T.len PySem.boot_len (pa_cons (pv 5) pa_nil)) pe_int) pa_nil)))) <|
          pss_cons (ps_set (i := 10) nd rfl (Or.inl rfl) (pe_as (t' := tOdd) (pe_ix ix_list (pe_lst (pa_cons pe_str (pa_cons pe_str (pa_cons pe_str (pa_cons pe_str (pa_cons pe_non (pa_cons pe_int (pa_cons pe_bl (pa_cons (pe_lst (pa_cons pe_str pa_nil)) (pa_cons (pe_tup (pa_cons pe_str pa_nil)) (pa_cons pe_str pa_nil)))))))))))
              (pe_call GT hr1 (by rfl) gT FT.kp bT .nil pass0 (pa_cons (pv 3) (pa_cons pe_int pa_nil))) (fun _ _ => rfl)) ?e2)) <|
          pss_cons (ps_set (i := 11) nd rfl (Or.inl rfl) (pe_as (t' := tWrong) (pe_op op_cat (pe_op op_cat (pe_slice sl_list (pv 5) po_none (po_some (pv 9))) (pe_lst (pa_cons (pv 10) pa_nil))) (pe_slice sl_list (pv 5) (po_some (pv 9)) (po_some pe_int))) ?e3)) <|
          pss_cons (ps_set (i := 12) nd rfl (Or.inl rfl) (pe_as (t' := tNone) (pe_ix ix_list (pe_lst (pa_cons pe_non (pa_cons pe_int (pa_cons pe_str (pa_cons pe_dnewK (pa_cons (pe_disp (pps_cons pe_str pe_int pps_nil) (by rfl) (by rfl) (fun z => by cases z) (by decide)) (pa_cons pe_bl (pa_cons pe_str
              (pa_cons (pe_op op_cat (pv 5) (pe_slice sl_list (pv 1) po_none (po_some (pe_op op_sub pe_int (pe_callB call_len_seq (by rfl) T.len PySem.boot_len (pa_cons (pv 5) pa_nil)))))) pa_nil)))))))))
              (pe_call GT hr1 (by rfl) gT FT.kp bT .nil pass0 (pa_cons (pv 3) (pa_cons pe_int pa_nil))) (fun _ _ => rfl)) ?e4)) <|
          pss_cons (ps_if (PW.pt (pw_or (pt_not (pt_val (Rp.pe_callG GQ hg hr6 (by rfl) gQ FQ.kp bQ (pa_cons (pv 11) pa_nil)))) (pw_or1 (pt_not (pt_val (Rp.pe_callG GQ hg hr6 (by rfl) gQ FQ.kp bQ (pa_cons (pv 12) pa_nil))))))) (pss_one (ps_ret pe_bl)) pss_nil) <|
          pss_one (ps_if (pt_not (pt_val (Rp.pe_callG GQ hg hr6 (by rfl) gQ FQ.kp bQ (pa_cons (pe_callTy call_tuple_of (by rfl) T.tuple (by decide +kernel) (pa_cons
              (pe_as (t' := tWrong) (pe_op op_cat (pe_op op_cat (pe_slice sl_list (pv 5) po_none (po_some (pv 9))) (pe_lst (pa_cons (pv 10) pa_nil))) (pe_slice sl_list (pv 5) (po_some (pv 9)) (po_some pe_int))) ?e5) pa_nil)) pa_nil)))) (pss_one (ps_ret pe_bl)) pss_nil)))
      <| pss_one (ps_ret pe_bl)), ?_⟩
    case e1 =>
      rintro σ H Q ⟨x, a, ys, e1, e2, hA, hq⟩
      refine ⟨_, e1, _, e2, a, _, rfl, .inl (SqL.of hA), rfl, flat_strs ys, _, rfl, ?_⟩
      rw [inV_strs]
      have : (!decide (x ∈ ys)) = decide (x ∉ ys) := by simp
      rw [if_pos rfl, this]
      exact hq
    case e2 =>
      rintro σ H Q ⟨p, e3, bx, hq⟩
      refine ⟨by show 1 ≤ sizeLine; decide, fun l1 n1 => ⟨by show 1 ≤ sizeLine; decide, fun l2 n2 => ⟨by show 10 ≤ sizeLine; decide, fun l3 n3 => ⟨_, e3, p, 10, rfl, (bx.up n1 |>.up n2).up n3, by decide, by decide, fun d H' h0 h1 tk => ?_⟩⟩⟩⟩
      have k1 := Al.up (o := .lst [.str "a"]) bx n1
      have k2 := keep_up (o := .tup [.str "a"]) k1 n2
      have k3 := keep_up (o := .lst [.str "", .str "A", .str "abcdefg", .str "a b", .non, .int 7, .bl true, .ref l1, .ref l2, .str "a1"]) k2 n3
      have kk := k3.trans tk.al
      have hL := (tk.2 l3 (k2.1.ne n3).symm).trans upd_same
      have np1 := (bx.ne n1).symm
      have np2 := (k1.1.ne n2).symm
      have h12 : l1 ≠ l2 := fun z => by subst z; rw [upd_same] at n2; cases n2
      have n13 : l1 ≠ l3 := fun z => by subst z; rw [upd_ne h12, upd_same] at n3; cases n3
      have n23 : l2 ≠ l3 := fun z => by subst z; rw [upd_same] at n3; cases n3
      have H1 : H' l1 = some (.lst (oneA.map V.str)) := (tk.2 l1 np1).trans (by rw [upd_ne n13, upd_ne h12, upd_same]; rfl)
      have H2 : H' l2 = some (.tup (oneA.map V.str)) := (tk.2 l2 np2).trans (by rw [upd_ne n23, upd_same]; rfl)
      have ga : ∀ y ∈ oneA, Gd y := fun y hy => by
        rw [List.mem_singleton.mp hy]
        exact ⟨by decide, by decide +kernel⟩
      obtain ⟨v, hv, hm⟩ := at_mem (xs := [V.str "", V.str "A", V.str "abcdefg", V.str "a b", V.non, V.int 7, V.bl true, V.ref l1, V.ref l2, V.str "a1"]) h0 (by simpa using h1)
      refine ⟨l3, _, d, v, rfl, rfl, SqL.of hL, hv, ?_⟩
      simp only [List.mem_cons, List.not_mem_nil, or_false] at hm
      rcases hm with rfl | rfl | rfl | rfl | rfl | rfl | rfl | rfl | rfl | rfl
      · exact hq _ (.str "") H' kk (by decide +kernel) fun a _ => .str _ ⟨by decide, by decide +kernel⟩
      · exact hq _ (.str "A") H' kk (by decide +kernel) fun a _ => .str _ ⟨by decide, by decide +kernel⟩
      · exact hq _ (.str "abcdefg") H' kk (by decide +kernel) fun a _ => .str _ ⟨by decide, by decide +kernel⟩
      · exact hq _ (.str "a b") H' kk (by decide +kernel) fun a _ => .str _ ⟨by decide, by decide +kernel⟩
      · exact hq _ .none H' kk rfl fun a _ => .non
      · exact hq _ (.int 7) H' kk rfl fun a _ => .int 7 (by decide +kernel)
      · exact hq _ (.bool true) H' kk rfl fun a _ => .bl true
      · exact hq _ (.list (oneA.map PyData.str)) H' kk rfl fun a ha => .lst (fun z => by subst z; rw [H1] at ha; cases ha) np1 H1 ga (by decide)
      · exact hq _ (.tuple (oneA.map PyData.str)) H' kk rfl fun a ha => .tup (fun z => by subst z; rw [H2] at ha; cases ha) np2 H2 ga (by decide)
      · exact hq _ (.str "a1") H' kk (by decide +kernel) fun a _ => .str _ ⟨by decide, by decide +kernel⟩
    case e3 =>
      rintro σ H Q ⟨p, sa, ys, n, v, d, e5, e9, e10, bx, nsp, hsa, hg, hn, hl, hv, hq⟩
      have ly : (ys.map V.str).length = ys.length := List.length_map ..
      refine ⟨_, e5, _, e9, _, rfl, sa, _, rfl, SqL.of hsa, fun c1 m1 => ?_⟩
      have k1 : Al p H (upd H c1 _) := Al.up (o := .lst (cutV (ys.map V.str) none (some (n : Int)))) bx m1
      refine ⟨_, e10, by show 1 ≤ sizeLine; decide, fun c2 m2 => ?_⟩
      have k2 := keep_up (o := .lst [v]) k1 m2
      have n12 : c1 ≠ c2 := fun z => by subst z; rw [upd_same] at m2; cases m2
      rw [cut_front (by omega)] at m2 k2 ⊢
      have hc1 : upd (upd H c1 (.lst ((ys.map V.str).take ((n : Int)).toNat))) c2 (.lst [v]) c1 = some (.lst ((ys.map V.str).take n)) := by rw [upd_ne n12, upd_same]; rfl
      refine ⟨c1, c2, _, _, rfl, rfl, hc1, upd_same, line (by rw [List.length_take, ly]; show min n ys.length + 1 ≤ 1000; omega), fun c3 m3 => ?_⟩
      have k3 := keep_up (o := .lst ((ys.map V.str).take n ++ [v])) k2 m3
      refine ⟨_, e5, _, e9, _, rfl, _, rfl, sa, _, rfl, SqL.of (k3.2 _ _ nsp hsa), fun c4 m4 => ?_⟩
      have hcut : cutV (ys.map V.str) (some (n : Int)) (some 99) = ((ys.map V.str).drop n).take (min 99 (ys.map V.str).length - n) := cut_two (by rw [ly]; exact hn)
      rw [hcut] at *
      have k4 := keep_up (o := .lst (((ys.map V.str).drop n).take (min 99 (ys.map V.str).length - n))) k3 m4
      have n34 : c3 ≠ c4 := fun z => by subst z; rw [upd_same] at m4; cases m4
      refine ⟨c3, c4, _, _, rfl, rfl, by rw [upd_ne n34, upd_same], upd_same, line (by simp only [List.length_append, List.length_take, List.length_drop, ly, List.length_singleton]; omega), fun c5 m5 => ?_⟩
      have k5 := keep_up (o := .lst (((ys.map V.str).take n ++ [v]) ++ ((ys.map V.str).drop n).take (min 99 (ys.map V.str).length - n))) k4 m5
      have fin : ∀ H5 : Hp, Al p H H5 → H5 c5 = some (.lst (((ys.map V.str).take n ++ [v]) ++ ((ys.map V.str).drop n).take (min 99 (ys.map V.str).length - n))) → Q (.ref c5) H5 := by
        intro H5 k h5
        refine hq c5 _ (((ys.take n).map PyData.str ++ [d]) ++ ((ys.drop n).take (min 99 (ys.map V.str).length - n)).map PyData.str) H5 k (k4.free bx m5) (k4.1.ne m5).symm h5 (by simp) (by simp only [List.length_append, List.length_take, List.length_drop, ly, List.length_singleton]; omega) fun a ha => ?_
        have iv : It p a H5 v d := (hv a ha).keep fun q o n1 n2 e => k.2 q o n1 e
        have e1 : (ys.map V.str).take n = (ys.take n).map V.str := by rw [List.map_take]
        have e2 : ∀ m, ((ys.map V.str).drop n).take m = ((ys.drop n).take m).map V.str := fun m => by rw [List.map_take, List.map_drop]
        rw [e1, e2]
        exact ((Its.strs p a _ _ fun y hy => hg y (List.mem_of_mem_take hy)).app (.cons iv .nil)).app (Its.strs p a _ _ fun y hy => hg y (List.mem_of_mem_drop (List.mem_of_mem_take hy)))
      exact fin _ k5 upd_same
    case e5 =>
      rintro σ H Q ⟨p, sa, ys, n, v, d, e5, e9, e10, bx, nsp, hsa, hg, hn, hl, hv, hq⟩
      have ly : (ys.map V.str).length = ys.length := List.length_map ..
      refine ⟨_, e5, _, e9, _, rfl, sa, _, rfl, SqL.of hsa, fun c1 m1 => ?_⟩
      have k1 : Al p H (upd H c1 _) := Al.up (o := .lst (cutV (ys.map V.str) none (some (n : Int)))) bx m1
      refine ⟨_, e10, by show 1 ≤ sizeLine; decide, fun c2 m2 => ?_⟩
      have k2 := keep_up (o := .lst [v]) k1 m2
      have n12 : c1 ≠ c2 := fun z => by subst z; rw [upd_same] at m2; cases m2
      rw [cut_front (by omega)] at m2 k2 ⊢
      have hc1 : upd (upd H c1 (.lst ((ys.map V.str).take ((n : Int)).toNat))) c2 (.lst [v]) c1 = some (.lst ((ys.map V.str).take n)) := by rw [upd_ne n12, upd_same]; rfl
      refine ⟨c1, c2, _, _, rfl, rfl, hc1, upd_same, line (by rw [List.length_take, ly]; show min n ys.length + 1 ≤ 1000; omega), fun c3 m3 => ?_⟩
      have k3 := keep_up (o := .lst ((ys.map V.str).take n ++ [v])) k2 m3
      refine ⟨_, e5, _, e9, _, rfl, _, rfl, sa, _, rfl, SqL.of (k3.2 _ _ nsp hsa), fun c4 m4 => ?_⟩
      have hcut : cutV (ys.map V.str) (some (n : Int)) (some 99) = ((ys.map V.str).drop n).take (min 99 (ys.map V.str).length - n) := cut_two (by rw [ly]; exact hn)
      rw [hcut] at *
      have k4 := keep_up (o := .lst (((ys.map V.str).drop n).take (min 99 (ys.map V.str).length - n))) k3 m4
      have n34 : c3 ≠ c4 := fun z => by subst z; rw [upd_same] at m4; cases m4
      refine ⟨c3, c4, _, _, rfl, rfl, by rw [upd_ne n34, upd_same], upd_same, line (by simp only [List.length_append, List.length_take, List.length_drop, ly, List.length_singleton]; omega), fun c5 m5 => ?_⟩
      have k5 := keep_up (o := .lst (((ys.map V.str).take n ++ [v]) ++ ((ys.map V.str).drop n).take (min 99 (ys.map V.str).length - n))) k4 m5
      have fin : ∀ H5 : Hp, Al p H H5 → H5 c5 = some (.lst (((ys.map V.str).take n ++ [v]) ++ ((ys.map V.str).drop n).take (min 99 (ys.map V.str).length - n))) → Q (.ref c5) H5 := by
        intro H5 k h5
        refine hq c5 _ (((ys.take n).map PyData.str ++ [d]) ++ ((ys.drop n).take (min 99 (ys.map V.str).length - n)).map PyData.str) H5 k (k4.free bx m5) (k4.1.ne m5).symm h5 (by simp) (by simp only [List.length_append, List.length_take, List.length_drop, ly, List.length_singleton]; omega) fun a ha => ?_
        have iv : It p a H5 v d := (hv a ha).keep fun q o n1 n2 e => k.2 q o n1 e
        have e1 : (ys.map V.str).take n = (ys.take n).map V.str := by rw [List.map_take]
        have e2 : ∀ m, ((ys.map V.str).drop n).take m = ((ys.drop n).take m).map V.str := fun m => by rw [List.map_take, List.map_drop]
        rw [e1, e2]
        exact ((Its.strs p a _ _ fun y hy => hg y (List.mem_of_mem_take hy)).app (.cons iv .nil)).app (Its.strs p a _ _ fun y hy => hg y (List.mem_of_mem_drop (List.mem_of_mem_take hy)))
      exact fin _ k5 upd_same
    case e4 =>
      rintro σ H Q ⟨p, sa, r, ys, e1, e3, e5, bx, nsp, nrp, hsa, hR, hw, hl, hq⟩
      have lenY : (ys.map V.str).length = ys.length := List.length_map ..
      have lenC : (cands.map V.str).length = 702 := by rw [List.length_map, cands_len]
      refine fun l1 n1 => fun l2 n2 => ⟨upd_same, [(Sum.inr "a", .int 1)], rfl, by decide, ?_⟩
      rw [upd_upd]
      have k1 := Al.up (o := .dK []) bx n1
      have k2 := keep_up (o := .dK (mergeK [] [(Sum.inr "a", .int 1)])) k1 n2
      have np1 := (bx.ne n1).symm
      have np2 := (k1.1.ne n2).symm
      have hsa2 := k2.2 _ _ nsp hsa
      refine ⟨_, e5, _, e1, _, e5, sa, _, rfl, .inl (SqL.of hsa2), _, _, rfl, rfl, _, rfl, r, _, rfl, SqL.of (k2.2 _ _ nrp hR), fun l3 n3 => ?_⟩
      rw [lenY, cut_front (by omega)]
      have k3 := keep_up (o := .lst ((cands.map V.str).take (101 - (ys.length : Int)).toNat)) k2 n3
      refine ⟨sa, l3, _, _, rfl, rfl, k3.2 _ _ nsp hsa, upd_same, line (by rw [lenY, List.length_take, lenC]; omega), fun l4 n4 => ⟨by show 8 ≤ sizeLine; decide, fun l5 n5 => ?_⟩⟩
      have k4 := keep_up (o := .lst (ys.map V.str ++ (cands.map V.str).take (101 - (ys.length : Int)).toNat)) k3 n4
      have np4 := (k3.1.ne n4).symm
      have k5 := keep_up (o := .lst [.non, .int 7, .str "abc", .ref l1, .ref l2, .bl true, .str "", .ref l4]) k4 n5
      refine ⟨_, e3, p, 8, rfl, k5.1, by decide, by decide, fun d H' h0 h1 tk => ?_⟩
      have a2 := Al.up (o := .dK (mergeK [] [(Sum.inr "a", .int 1)])) k1.1 n2
      have a3 := Al.up (o := .lst ((cands.map V.str).take (101 - (ys.length : Int)).toNat)) k2.1 n3
      have a4 := Al.up (o := .lst (ys.map V.str ++ (cands.map V.str).take (101 - (ys.length : Int)).toNat)) k3.1 n4
      have a5 := Al.up (o := .lst [.non, .int 7, .str "abc", .ref l1, .ref l2, .bl true, .str "", .ref l4]) k4.1 n5
      have hL := (tk.2 l5 (k4.1.ne n5).symm).trans upd_same
      have h1' := (a2.trans (a3.trans (a4.trans (a5.trans tk.al)))).2 l1 _ np1 upd_same
      have h2' := (a3.trans (a4.trans (a5.trans tk.al))).2 l2 _ np2 upd_same
      have h4' := (a5.trans tk.al).2 l4 _ np4 upd_same
      have f2 : H l2 = none := k1.free bx n2
      have f4 : H l4 = none := k3.free bx n4
      have all := k5.trans tk.al
      have noD : ∀ (H'' : Hp) (a : Addr) (kvs : List (Key × V)), H'' a = some (.dK kvs) → ∀ xs, ¬ Sq H'' (.ref a) xs := by
        intro H'' a kvs e xs z
        cases z with
        | lst e2 => rw [e] at e2; cases e2
        | tup e2 => rw [e] at e2; cases e2
      obtain ⟨v, hv, hm⟩ := at_mem (xs := [V.non, V.int 7, V.str "abc", V.ref l1, V.ref l2, V.bl true, V.str "", V.ref l4]) h0 (by simpa using h1)
      refine ⟨l5, _, d, v, rfl, rfl, SqL.of hL, hv, ?_⟩
      simp only [List.mem_cons, List.not_mem_nil, or_false] at hm
      rcases hm with rfl | rfl | rfl | rfl | rfl | rfl | rfl | rfl
      · exact hq _ H' all (fun H'' _ => ⟨.non, bad_no fun xs z => by cases z⟩) fun q z => by cases z
      · exact hq _ H' all (fun H'' _ => ⟨.int 7 (by decide +kernel), bad_no fun xs z => by cases z⟩) fun q z => by cases z
      · exact hq _ H' all (fun H'' _ => ⟨.str "abc" ⟨by decide, by decide +kernel⟩, bad_no fun xs z => by cases z⟩) fun q z => by cases z
      · refine hq _ H' all (fun H'' k => ?_) fun q z => by cases z; exact n1
        have e := k l1 _ n1 np1 h1'
        exact ⟨.dct np1 e .none rfl (by decide) (Nat.le_trans (m := 100) (by decide +kernel) (by decide)), bad_no (noD _ _ _ e)⟩
      · refine hq _ H' all (fun H'' k => ?_) fun q z => by cases z; exact f2
        have e := k l2 _ f2 np2 h2'
        exact ⟨.dct (kvs := [(Sum.inr "a", .int 1)]) np2 e (.one "a" 1) (by decide +kernel) (by decide) (Nat.le_trans (m := 100) (by decide +kernel) (by decide)), bad_no (noD _ _ _ e)⟩
      · exact hq _ H' all (fun H'' _ => ⟨.bl true, bad_no fun xs z => by cases z⟩) fun q z => by cases z
      · exact hq _ H' all (fun H'' _ => ⟨.str "" ⟨by decide, by decide +kernel⟩, bad_no fun xs z => by cases z⟩) fun q z => by cases z
      · refine hq _ H' all (fun H'' k => ?_) fun q z => by cases z; exact f4
        have e := k l4 _ f4 np4 h4'
        have ee : ys.map V.str ++ (cands.map V.str).take (101 - (ys.length : Int)).toNat = (ys ++ cands.take (101 - (ys.length : Int)).toNat).map V.str := by rw [List.map_append, List.map_take]
        have len : (ys.map V.str ++ (cands.map V.str).take (101 - (ys.length : Int)).toNat).length = 101 := by
          rw [List.length_append, lenY, List.length_take, lenC]
          omega
        refine ⟨?_, bad_len (.lst e) (by rw [len]; decide)⟩
        refine .lst (ds := (ys ++ cands.take (101 - (ys.length : Int)).toNat).map PyData.str) np4 e ?_ (by rw [len]; decide)
        rw [ee]
        refine Its.strs _ _ _ _ fun y hy => ?_
        rcases List.mem_append.mp hy with hy | hy
        · exact word_gd (hw y hy)
        · exact word_gd (cands_word y (List.mem_of_mem_take hy))
    have hl : (ns.map V.int).length ≤ 63 := by rw [List.length_map]; exact hlen
    refine ⟨rfl, fun r H0 sr nr hr0 => ?_⟩
    refine ⟨_, rfl, a, _, rfl, .inl (sr.seq hS), _, _, rfl, _, _, rfl, _, rfl, (by split <;> (try split) <;> omega), (by split <;> (try split) <;> omega), ?_⟩
    refine for_range (lo := 0) (n := _) (fun _ σ H' => ∃ w2 w3 w4 w5 w6 w7 w8 w9 w10 w11 w12 w13, σ = [some (.ref a), some (.ref r), w2, w3, w4, w5, w6, w7, w8, w9, w10, w11, w12, w13] ∧ Same H0 H') ⟨_, _, _, _, _, _, _, _, _, _, _, _, rfl, Same.refl H0⟩ ?_ ?_
    · rintro i _ H1 _ ⟨w2, w3, w4, w5, w6, w7, w8, w9, w10, w11, w12, w13, rfl, s1⟩
      refine ⟨_, rfl, _, rfl, a, ns, _, rfl, (sr.trans s1).seq hS, (by omega), fun c => ⟨c, rfl, fun p H2 np sm bx off => ?_⟩⟩
      have hp : H0 p = none := s1.free np
      have nrp : r ≠ p := ne_of_none hr0 hp
      refine ⟨_, rfl, by decide, by decide, for_range (lo := 0) (n := _) (fun _ σ H' => ∃ w2 w4 w5 w6 w7 w8 w9 w10 w11 w12 w13, σ = [some (.ref a), some (.ref r), w2, some (.ref p), w4, w5, w6, w7, w8, w9, w10, w11, w12, w13] ∧ Bx H' p ∧ Same H0 H')
        ⟨_, _, _, _, _, _, _, _, _, _, _, rfl, bx, s1.trans sm⟩ ?_ ?_⟩
      · rintro j _ H3 _ ⟨w2, w4, w5, w6, w7, w8, w9, w10, w11, w12, w13, rfl, b3, s3⟩
        refine ⟨_, rfl, _, rfl, p, r, rfl, b3, nrp, s3 _ _ hr0, fun sa ys H4 k4 nsa nsp hsa lys wys => ?_⟩
        have hr4 : H4 r = some (.lst (cands.map V.str)) := k4.2 _ _ nrp (s3 _ _ hr0)
        obtain ⟨rest, hfirst⟩ := some_left lys
        refine ⟨_, rfl, r, rfl, ⟨_, SqL.of hr4⟩, fun D hD => ?_⟩
        refine lc_list (K := K) (a := r) (xs := cands.map V.str) (fun i H' => Same H4 H' ∧ H' D = some (.lst (((cands.take i).filter fun c => decide (c ∉ ys)).map V.str))) ⟨fun q o e => by rw [upd_ne (ne_of_none e hD)]; exact e, upd_same⟩ (fun i H' _ k => SqL.of (k.1 _ _ hr4)) ?_ ?_
        · intro i x H5 hx ⟨s5, d5⟩
          obtain ⟨c, hc, rfl⟩ : ∃ c, cands[i]? = some c ∧ x = .str c := by
            rw [List.getElem?_map] at hx
            cases e : cands[i]? with
            | none => rw [e] at hx; cases hx
            | some c => rw [e] at hx; exact ⟨c, rfl, (Option.some.inj hx).symm⟩
          refine ⟨rfl, c, sa, ys, rfl, rfl, s5 _ _ hsa, ?_⟩
          refine ite2 (fun h => ?_) (fun h => ?_)
          · have hm : c ∉ ys := of_decide_eq_true h
            refine ⟨_, rfl, _, d5, ?_, fun q o e => ?_, ?_⟩
            · rw [List.length_map]
              have h1 := List.length_filter_le (fun c => decide (c ∉ ys)) (cands.take i)
              have h2 : (cands.take i).length ≤ 702 := by rw [List.length_take, cands_len]; omega
              exact Nat.lt_of_le_of_lt (Nat.le_trans h1 h2) (by decide)
            · rw [upd_ne (fun z => by subst z; rw [hD] at e; cases e)]
              exact s5 _ _ e
            · rw [upd_same, List.take_add_one, hc]
              simp [List.filter_append, List.filter_cons, hm]
          · have hm : c ∈ ys := by
              by_cases z : c ∈ ys
              · exact z
              · exact absurd (decide_eq_true z) h
            refine ⟨s5, ?_⟩
            rw [d5, List.take_add_one, hc]
            simp [List.filter_append, List.filter_cons, hm]
        · rintro H5 ⟨s5, d5⟩
          rw [List.length_map, List.take_length, hfirst] at d5
          refine ⟨D, _, 0, .str (firstO ys), rfl, rfl, SqL.of d5, atI_nat (j := 0) (by simp), ?_⟩
          have b5 : Bx H5 p := by
            obtain ⟨c1, c2, c3, e⟩ := k4.1
            exact ⟨c1, c2, c3, s5 _ _ e⟩
          have k5 : Al p H4 H5 := ⟨b5, fun q o _ e => s5 _ _ e⟩
          refine ⟨_, rfl, sa, _, rfl, .inl (SqL.of (k5.2 _ _ nsp hsa)), fun kp nkp => ?_⟩
          have k6 := keep_up (o := .lst (ys.map V.str)) k5 nkp
          refine ⟨_, rfl, _, rfl, sa, _, rfl, .inl ⟨SqL.of (k6.2 _ _ nsp hsa), fun tp ntp => ⟨by show 2 ≤ sizeLine; decide, fun L nL => ?_⟩⟩⟩
          have k7 := keep_up (o := .tup (ys.map V.str)) k6 ntp
          have k8 := keep_up (o := .lst [.ref sa, .ref tp]) k7 nL
          have nkp' : kp ≠ p := (b5.ne nkp).symm
          have ntp' : tp ≠ p := (k6.1.ne ntp).symm
          have nLp : L ≠ p := (k7.1.ne nL).symm
          have a67 := Al.up (o := .tup (ys.map V.str)) k6.1 ntp
          have a78 := Al.up (o := .lst [.ref sa, .ref tp]) k7.1 nL
          have hkp8 := (a67.trans a78).2 kp _ nkp' upd_same
          have htp8 := a78.2 tp _ ntp' upd_same
          refine ⟨_, rfl, ⟨_, SqL.of upd_same⟩, ?_⟩
          generalize hH8 : upd (upd (upd H5 kp (.lst (ys.map V.str))) tp (.tup (ys.map V.str))) L (.lst [.ref sa, .ref tp]) = H8 at k8 hkp8 htp8 a78
          have hL8 : H8 L = some (.lst [.ref sa, .ref tp]) := by rw [← hH8]; exact upd_same
          have hsa8 := k8.2 _ _ nsp hsa
          refine for_list (K := K) (a := L) (xs := [.ref sa, .ref tp]) (fun _ σ H' => ∃ u8 u9 u10 u11 u12 u13, σ = [some (.ref a), some (.ref r), w2, some (.ref p), some (.int (0 + (j : Int))), some (.ref sa), some (.str (firstO ys)), some (.ref kp), u8, u9, u10, u11, u12, u13] ∧ Same H8 H')
            ⟨_, _, _, _, _, _, rfl, Same.refl H8⟩ (fun i σ H' _ ⟨_, _, _, _, _, _, _, k⟩ => SqL.of (k _ _ hL8)) ?_ ?_
          · rintro m x _ H9 hx ⟨u8, u9, u10, u11, u12, u13, rfl, s9⟩
            have hxs : Ov p H9 x ∧ Sq H9 x (ys.map V.str) := by
              have hm := List.mem_of_getElem? hx
              simp only [List.mem_cons, List.not_mem_nil, or_false] at hm
              rcases hm with rfl | rfl
              · exact ⟨.lst nsp (s9 _ _ hsa8), .lst (s9 _ _ hsa8)⟩
              · exact ⟨.tup ntp' (s9 _ _ htp8), .tup (s9 _ _ htp8)⟩
            have items : ∀ xs, Sq H9 x xs → xs.length ≤ 1000 ∧ ∀ y ∈ xs, Ov p H9 y := by
              intro xs h
              have := h.one hxs.2
              subst this
              refine ⟨by rw [List.length_map]; omega, fun y hy => ?_⟩
              obtain ⟨z, hz, rfl⟩ := List.mem_map.mp hy
              exact .str z (word_gd (wys z hz))
            refine ⟨_, rfl, p, x, rfl, hxs.1, items, fun ys' h1 _ _ H10 s10 => ?_, fun hb => absurd ⟨_, hxs.2, by rw [List.length_map]; exact lys, all_words wys⟩ hb⟩
            have ey : ys' = ys := by
              have := h1.one hxs.2
              exact strs_inj this
            subst ey
            refine ⟨_, rfl, rfl, _, rfl, ?_⟩
            have e0 : (!decide (V.str (firstO ys') = V.str (firstO ys'))) = false := by simp
            rw [e0]
            refine iteF ⟨_, rfl, _, rfl, .list (ys'.map PyData.str), .list (ys'.map PyData.str), .lst (SqL.of (s10 _ _ (s9 _ _ hsa8))) (dp_strs _), .lst (SqL.of (s10 _ _ (s9 _ _ hkp8))) (dp_strs _), shaped_strs _ fun y hy => word_gd (wys y hy), shaped_strs _ fun y hy => word_gd (wys y hy), _, rfl, ?_⟩
            rw [eqv_strs]
            exact ⟨_, _, _, _, _, _, rfl, s9.trans s10⟩
          · rintro _ H9 ⟨u8, u9, u10, u11, u12, u13, rfl, s9⟩
            have b9 : Bx H9 p := by
              obtain ⟨c1, c2, c3, e⟩ := k8.1
              exact ⟨c1, c2, c3, s9 _ _ e⟩
            have k9 : Al p H4 H9 := k8.trans ⟨b9, fun q o _ e => s9 q o e⟩
            have lenY : (ys.map V.str).length = ys.length := List.length_map ..
            have gys : ∀ y ∈ ys, Gd y := fun y hy => word_gd (wys y hy)
            refine ⟨_, rfl, _, rfl, sa, _, rfl, .inl (SqL.of (k9.2 _ _ nsp hsa)), _, _, rfl, rfl, p, _, rfl, b9, by omega, by rw [lenY]; omega, fun at_ H10 a0 a1 tk10 => ?_⟩
            rw [lenY] at a1
            obtain ⟨n, rfl⟩ := Int.eq_ofNat_of_zero_le a0
            have hn : n ≤ ys.length := by omega
            have k10 := k9.trans tk10.al
            refine ⟨p, rfl, tk10.1, fun v d H11 k11 wv it11 => ?_⟩
            have k11' := k10.trans k11
            refine ⟨p, sa, ys, n, v, d, rfl, rfl, rfl, k11.1, nsp, k11'.2 _ _ nsp hsa, gys, hn, lys, it11, fun c xs ds H12 k12 nc ncp hc hvm hlx its12 => ?_⟩
            have k12' := k11'.trans k12
            refine ⟨p, sa, r, ys, rfl, rfl, rfl, k12.1, nsp, nrp, k12'.2 _ _ nsp hsa, k12'.2 _ _ nrp hr4, wys, lys, fun vn H13 k13 hth hnew => ?_⟩
            have hc13 := k13.2 c _ ncp hc
            refine ⟨_, rfl, p, .ref c, rfl, k13.1, .lst ncp hc13 ((its12 c nc).keep fun q o n1 _ e => k13.2 q o n1 e) (by omega), bad_item (.lst hc13) hvm wv, fun H14 b14 k14 => ⟨_, rfl, ?_⟩⟩
            have kk : ∀ q o, H12 q = none → q ≠ p → H13 q = some o → H14 q = some o := fun q o e n1 e2 => k14 q o n1 (fun z => by injection z with z; rw [← z, hc] at e; cases e) e2
            refine iteF ⟨_, rfl, p, vn, rfl, b14, (hth H14 kk).1, (hth H14 kk).2, fun H15 b15 k15 => ⟨_, rfl, ?_⟩⟩
            have k1115 : Al p H11 H15 := ⟨b15, fun q o n1 e => by
              have e12 := k12.2 q o n1 e
              have e13 := k13.2 q o n1 e12
              have e14 := k14 q o n1 (fun z => by injection z with z; rw [z, e] at nc; cases nc) e13
              exact k15 q o n1 (fun z => by have := hnew q z; rw [e12] at this; cases this) e14⟩
            have k15' := k11'.trans k1115
            have it15 : ∀ a, H15 a = none → It p a H15 v d := fun a ha => (it11 a (k1115.free k11.1 ha)).keep fun q o n1 _ e => k1115.2 q o n1 e
            refine iteF ?_
            refine ⟨p, sa, ys, n, v, d, rfl, rfl, rfl, b15, nsp, k15'.2 _ _ nsp hsa, gys, hn, lys, it15, fun c2 xs2 ds2 H16 k16 nc2 ncp2 hc2 hv2 hl2 its16 => ⟨c2, _, rfl, .inl ⟨SqL.of hc2, fun t nt => ?_⟩⟩⟩
            have ntp2 : t ≠ p := (k16.1.ne nt).symm
            have kt := Al.up (o := .tup xs2) k16.1 nt
            refine ⟨p, .ref t, rfl, kt.1, .tup ntp2 upd_same ((its16 t (k16.free b15 nt)).keep fun q o n1 n2 e => by rw [upd_ne n2]; exact e) (by omega), bad_item (.tup upd_same) hv2 wv, fun H17 b17 k17 => ⟨_, rfl, ?_⟩⟩
            have k17' : Al p H15 H17 := ⟨b17, fun q o n1 e => by
              have e16 := k16.2 q o n1 e
              have ne : q ≠ t := ne_of_none e16 nt
              exact k17 q o n1 (fun z => by injection z with z; exact ne z.symm) (by rw [upd_ne ne]; exact e16)⟩
            refine iteF ?_
            exact ⟨_, _, _, _, _, _, _, _, _, _, _, rfl, b17, same_al hp s3 (k4.trans (k15'.trans k17'))⟩
      · rintro _ H3 ⟨w2, w4, w5, w6, w7, w8, w9, w10, w11, w12, w13, rfl, b3, s3⟩
        exact ⟨_, _, _, _, _, _, _, _, _, _, _, _, rfl, s3⟩
    · rintro _ H1 ⟨w2, w3, w4, w5, w6, w7, w8, w9, w10, w11, w12, w13, rfl, s1⟩
      exact hQ H1
end
end Bxs
namespace Bxs
open PySem L2
/-- an error of the class at S is what «except S» names -/
theorem exm_self {K : PySem.W.Frag} {S : Addr} (h1 : PySem.W.subIn K (.ref S) (.type "BaseException") = some true) (h2 : PySem.W.isClsIn K S = true) (h3 : PySem.W.typeIn K (.ref S) = some (.type "type")) (h4 : PySem.W.subIn K (.ref S) (.ref S) = some true) :
    PySem.W.exmOne K (.ref S) (.ref S) = some true := by
  have e1 : (PySem.W.subIn K (.ref S) (.type "BaseException") == some true) = true := by rw [h1] <;> rfl
  have e2 : ((PySem.W.clsIn K S).isSome && PySem.W.typeIn K (.ref S) == some (.type "type")) = true := by
    have h2' : (PySem.W.clsIn K S).isSome = true := h2
    rw [h2', h3] <;> rfl
  show (if (PySem.W.subIn K (.ref S) (.type "BaseException") == some true) = true then (if ((PySem.W.clsIn K S).isSome && PySem.W.typeIn K (.ref S) == some (.type "type")) = true then PySem.W.subIn K (.ref S) (.ref S) else none) else none) = some true
  rw [if_pos e1, if_pos e2]
  exact h4
end Bxs
namespace Bxs
open PySem L2
theorem all_mk {l : PySem.W.OpenLaw} {w : World} {K : PySem.W.Frag} {h : Heap} {mg : Str → Option Value} {fa : Addr} (X : K.In h) (G : h.Ns mainGlobals mg) (hfa : mg "law" = some (.ref fa))
    {od an : Option Addr} {sl : Array (Option Value)} {oc kV dc pm cd ct : Value} {f0 : Addr}
    {od0 an0 : Option Addr} {sl0 : Array (Option Value)} {oc0 kV0 dc0 pm0 cd0 ct0 : Value} {f0' : Addr}
    {od1 an1 : Option Addr} {sl1 : Array (Option Value)} {oc1 kV1 dc1 pm1 cd1 ct1 : Value} {f1' : Addr}
    {od2 an2 : Option Addr} {sl2 : Array (Option Value)} {oc2 kV2 dc2 pm2 cd2 ct2 : Value} {f2' : Addr}
    {od3 an3 : Option Addr} {sl3 : Array (Option Value)} {oc3 kV3 dc3 pm3 cd3 ct3 : Value} {f3' : Addr}
    {od4 an4 : Option Addr} {sl4 : Array (Option Value)} {oc4 kV4 dc4 pm4 cd4 ct4 : Value} {f4' : Addr}
    {od5 an5 : Option Addr} {sl5 : Array (Option Value)} {oc5 kV5 dc5 pm5 cd5 ct5 : Value} {f5' : Addr}
    {od6 an6 : Option Addr} {sl6 : Array (Option Value)} {oc6 kV6 dc6 pm6 cd6 ct6 : Value} {f6' : Addr}
    {od7 an7 : Option Addr} {sl7 : Array (Option Value)} {oc7 kV7 dc7 pm7 cd7 ct7 : Value} {f7' : Addr}
    {od8 an8 : Option Addr} {sl8 : Array (Option Value)} {oc8 kV8 dc8 pm8 cd8 ct8 : Value} {f8' : Addr}
    {od9 an9 : Option Addr} {sl9 : Array (Option Value)} {oc9 kV9 dc9 pm9 cd9 ct9 : Value} {f9' : Addr}
    {od10 an10 : Option Addr} {sl10 : Array (Option Value)} {oc10 kV10 dc10 pm10 cd10 ct10 : Value} {f10' : Addr}
    {od11 an11 : Option Addr} {sl11 : Array (Option Value)} {oc11 kV11 dc11 pm11 cd11 ct11 : Value} {f11' : Addr}
    {od12 an12 : Option Addr} {sl12 : Array (Option Value)} {oc12 kV12 dc12 pm12 cd12 ct12 : Value} {f12' : Addr}
    (a0 : PySem.W.nsIn K mainGlobals "is_word" = some (some (.ref f0'))) (l0 : K.lookup f0' = some ⟨oc0, od0, .func (PySem.W.fnOf "is_word" "is_word" (defArgs sIsWord) (defBody sIsWord) (defScope sIsWord) .none kV0 dc0 pm0 an0 cd0 ct0), sl0⟩) (c0 : PySem.W.codeIn K cd0 "is_word" = true) (k0 : PySem.W.keepIn K (.ref f0') = true)
    (a1 : PySem.W.nsIn K mainGlobals "is_list" = some (some (.ref f1'))) (l1 : K.lookup f1' = some ⟨oc1, od1, .func (PySem.W.fnOf "is_list" "is_list" (defArgs sIsL) (defBody sIsL) (defScope sIsL) .none kV1 dc1 pm1 an1 cd1 ct1), sl1⟩) (c1 : PySem.W.codeIn K cd1 "is_list" = true) (k1 : PySem.W.keepIn K (.ref f1') = true)
    (a2 : PySem.W.nsIn K mainGlobals "are_words" = some (some (.ref f2'))) (l2 : K.lookup f2' = some ⟨oc2, od2, .func (PySem.W.fnOf "are_words" "are_words" (defArgs sAre) (defBody sAre) (defScope sAre) .none kV2 dc2 pm2 an2 cd2 ct2), sl2⟩) (c2 : PySem.W.codeIn K cd2 "are_words" = true) (k2 : PySem.W.keepIn K (.ref f2') = true)
    (a3 : PySem.W.nsIn K mainGlobals "first_other" = some (some (.ref f3'))) (l3 : K.lookup f3' = some ⟨oc3, od3, .func (PySem.W.fnOf "first_other" "first_other" (defArgs sFirst) (defBody sFirst) (defScope sFirst) .none kV3 dc3 pm3 an3 cd3 ct3), sl3⟩) (c3 : PySem.W.codeIn K cd3 "first_other" = true) (k3 : PySem.W.keepIn K (.ref f3') = true)
    (a4 : PySem.W.nsIn K mainGlobals "_law_cell" = some (some (.ref f4'))) (l4 : K.lookup f4' = some ⟨oc4, od4, .func (PySem.W.fnOf "_law_cell" "_law_cell" (defArgs sCell) (defBody sCell) (defScope sCell) .none kV4 dc4 pm4 an4 cd4 ct4), sl4⟩) (c4 : PySem.W.codeIn K cd4 "_law_cell" = true) (k4 : PySem.W.keepIn K (.ref f4') = true)
    (a5 : PySem.W.nsIn K mainGlobals "_law_box" = some (some (.ref f5'))) (l5 : K.lookup f5' = some ⟨oc5, od5, .func (PySem.W.fnOf "_law_box" "_law_box" (defArgs sBox) (defBody sBox) (defScope sBox) .none kV5 dc5 pm5 an5 cd5 ct5), sl5⟩) (c5 : PySem.W.codeIn K cd5 "_law_box" = true) (k5 : PySem.W.keepIn K (.ref f5') = true)
    (a6 : PySem.W.nsIn K mainGlobals "_law_take" = some (some (.ref f6'))) (l6 : K.lookup f6' = some ⟨oc6, od6, .func (PySem.W.fnOf "_law_take" "_law_take" (defArgs sTake) (defBody sTake) (defScope sTake) .none kV6 dc6 pm6 an6 cd6 ct6), sl6⟩) (c6 : PySem.W.codeIn K cd6 "_law_take" = true) (k6 : PySem.W.keepIn K (.ref f6') = true)
    (a7 : PySem.W.nsIn K mainGlobals "_law_words" = some (some (.ref f7'))) (l7 : K.lookup f7' = some ⟨oc7, od7, .func (PySem.W.fnOf "_law_words" "_law_words" (defArgs sWords) (defBody sWords) (defScope sWords) .none kV7 dc7 pm7 an7 cd7 ct7), sl7⟩) (c7 : PySem.W.codeIn K cd7 "_law_words" = true) (k7 : PySem.W.keepIn K (.ref f7') = true)
    (a8 : PySem.W.nsIn K mainGlobals "_law_ranked" = some (some (.ref f8'))) (l8 : K.lookup f8' = some ⟨oc8, od8, .func (PySem.W.fnOf "_law_ranked" "_law_ranked" (defArgs sRanked) (defBody sRanked) (defScope sRanked) .none kV8 dc8 pm8 an8 cd8 ct8), sl8⟩) (c8 : PySem.W.codeIn K cd8 "_law_ranked" = true) (k8 : PySem.W.keepIn K (.ref f8') = true)
    (a9 : PySem.W.nsIn K mainGlobals "_law_mixed" = some (some (.ref f9'))) (l9 : K.lookup f9' = some ⟨oc9, od9, .func (PySem.W.fnOf "_law_mixed" "_law_mixed" (defArgs sMixed) (defBody sMixed) (defScope sMixed) .none kV9 dc9 pm9 an9 cd9 ct9), sl9⟩) (c9 : PySem.W.codeIn K cd9 "_law_mixed" = true) (k9 : PySem.W.keepIn K (.ref f9') = true)
    (a10 : PySem.W.nsIn K mainGlobals "_law_list" = some (some (.ref f10'))) (l10 : K.lookup f10' = some ⟨oc10, od10, .func (PySem.W.fnOf "_law_list" "_law_list" (defArgs sList) (defBody sList) (defScope sList) .none kV10 dc10 pm10 an10 cd10 ct10), sl10⟩) (c10 : PySem.W.codeIn K cd10 "_law_list" = true) (k10 : PySem.W.keepIn K (.ref f10') = true)
    (a11 : PySem.W.nsIn K mainGlobals "_law_caught" = some (some (.ref f11'))) (l11 : K.lookup f11' = some ⟨oc11, od11, .func (PySem.W.fnOf "_law_caught" "_law_caught" (defArgs sCaught) (defBody sCaught) (defScope sCaught) .none kV11 dc11 pm11 an11 cd11 ct11), sl11⟩) (c11 : PySem.W.codeIn K cd11 "_law_caught" = true) (k11 : PySem.W.keepIn K (.ref f11') = true)
    (a12 : PySem.W.nsIn K mainGlobals "_law_refused_right" = some (some (.ref f12'))) (l12 : K.lookup f12' = some ⟨oc12, od12, .func (PySem.W.fnOf "_law_refused_right" "_law_refused_right" (defArgs sRefused) (defBody sRefused) (defScope sRefused) .none kV12 dc12 pm12 an12 cd12 ct12), sl12⟩) (c12 : PySem.W.codeIn K cd12 "_law_refused_right" = true) (k12 : PySem.W.keepIn K (.ref f12') = true)
    (aL : PySem.W.nsIn K mainGlobals "law" = some (some (.ref f0))) (lL : K.lookup f0 = some ⟨oc, od, .func (PySem.W.fnOf "law" "law" (defArgs sLaw) (defBody sLaw) (defScope sLaw) .none kV dc pm an cd ct), sl⟩) (cL : PySem.W.codeIn K cd "law" = true) (kL : PySem.W.keepIn K (.ref f0) = true)
    {tk0 : Tok} (v0 : PySem.W.nsIn K mainGlobals "LETTERS" = some (some (.str "abcdefghijklmnopqrstuvwxyz" tk0)))
    {tk1 : Tok} (v1 : PySem.W.nsIn K mainGlobals "LONGEST_WORD" = some (some (.int 6 tk1)))
    {tk2 : Tok} (v2 : PySem.W.nsIn K mainGlobals "MOST_WORDS" = some (some (.int 100 tk2)))
    (z_isinstance : PySem.W.nsIn K mainGlobals "isinstance" = some none)
    (z_int : PySem.W.nsIn K mainGlobals "int" = some none)
    (z_bool : PySem.W.nsIn K mainGlobals "bool" = some none)
    (z_str : PySem.W.nsIn K mainGlobals "str" = some none)
    (z_list : PySem.W.nsIn K mainGlobals "list" = some none)
    (z_tuple : PySem.W.nsIn K mainGlobals "tuple" = some none)
    (z_len : PySem.W.nsIn K mainGlobals "len" = some none)
    (z_all : PySem.W.nsIn K mainGlobals "all" = some none)
    (z_max : PySem.W.nsIn K mainGlobals "max" = some none)
    (z_min : PySem.W.nsIn K mainGlobals "min" = some none)
    (z_range : PySem.W.nsIn K mainGlobals "range" = some none)
    (z_repr : PySem.W.nsIn K mainGlobals "repr" = some none)
    (z_set : PySem.W.nsIn K mainGlobals "set" = some none)
    {nmx0 qx0 : Str} {Nx0 Cx0 gx0 : Addr} {bsx0 : List Value} {snx0 : List Str} {subx0 : List Value} {abx0 : Bool} {colx0 : Option Bool} {ddx0 : Option Addr} {m0x0 m1x0 m2x0 m3x0 m5x0 : Option Value}
    {odx0 anx0 : Option Addr} {slx0 : Array (Option Value)} {ocx0 dcx0 pmx0 cdx0 ctx0 Bx0 : Value}
    (aCx0 : PySem.W.nsIn K mainGlobals "InvalidWords" = some (some (.ref Cx0)))
    (xLx0 : K.lookup Cx0 = some (excClassObj nmx0 qx0 Cx0 Nx0 bsx0 [Bx0, .type "ValueError", .type "Exception", .type "BaseException", .type "object"] true snx0 subx0 abx0 colx0 ddx0 m0x0 m1x0 m2x0 m3x0 m5x0 "ValueError.__new__")) (rfx0 : PySem.HandSPX.refsVE [Bx0, .type "ValueError", .type "Exception", .type "BaseException", .type "object"] = true)
    (sax0 : PySem.W.findIn K (.ref Cx0) "__setattr__" = some (some (.builtin "object.__setattr__"))) (gax0 : PySem.W.findIn K (.ref Cx0) "__getattribute__" = some (some (.builtin "BaseException.__getattribute__"))) (ggx0 : PySem.W.findIn K (.ref Cx0) "__getattr__" = some none) (nbx0 : PySem.W.findIn K (.ref Cx0) "value" = some none)
    (a1x0 : PySem.W.findIn K (.ref Cx0) "__init__" = some (some (.ref gx0))) (t1x0 : PySem.W.typeIn K (.ref gx0) = some (.type "function"))
    (l1x0 : K.lookup gx0 = some ⟨ocx0, odx0, .func (PySem.W.fnOf "__init__" "InvalidWords.__init__" (defArgs sInit) (defBody sInit) (defScope sInit) .none .none dcx0 pmx0 anx0 cdx0 ctx0), slx0⟩) (c1x0 : PySem.W.codeIn K cdx0 "InvalidWords.__init__" = true)
    (kCx0 : PySem.W.keepIn K (.ref Cx0) = true) (eCx0 : PySem.W.subIn K (.ref Cx0) (.type "BaseException") = some true) (tCx0 : PySem.W.typeIn K (.ref Cx0) = some (.type "type")) (hCx0 : PySem.W.hasDictIn K Cx0 = true) (iCx0 : PySem.W.isClsIn K Cx0 = true) (sCx0 : PySem.W.subIn K (.ref Cx0) (.ref Cx0) = some true)
    : ∃ fd : FuncData, (∀ (s : Shared) (v : Value), BindsTo s fd ⟨[v], []⟩ [("_law_script", v)]) ∧ ∀ base : Heap, K.In base → base.Ns mainGlobals mg → Rp.FnG l.prog w K mg base 8 fa fd ["_law_script"] (spLaw K) := by
  have e := hfa.symm.trans (PySem.W.mg_of X G aL)
  cases e
  have F0 := fun_mk (st := sIsWord) l0 c0 k0
  have b0 := F0.binds (ps := ["value"]) fun _ _ _ _ _ _ us hl => match us, hl with | [_], _ => rfl
  have g0 := PySem.W.mg_of X G a0
  have F1 := fun_mk (st := sIsL) l1 c1 k1
  have b1 := F1.binds (ps := ["value"]) fun _ _ _ _ _ _ us hl => match us, hl with | [_], _ => rfl
  have g1 := PySem.W.mg_of X G a1
  have F2 := fun_mk (st := sAre) l2 c2 k2
  have b2 := F2.binds (ps := ["value", "least", "most"]) fun _ _ _ _ _ _ us hl => match us, hl with | [_, _, _], _ => rfl
  have g2 := PySem.W.mg_of X G a2
  have F3 := fun_mk (st := sFirst) l3 c3 k3
  have b3 := F3.binds (ps := ["words"]) fun _ _ _ _ _ _ us hl => match us, hl with | [_], _ => rfl
  have g3 := PySem.W.mg_of X G a3
  have F4 := fun_mk (st := sCell) l4 c4 k4
  have b4 := F4.binds (ps := ["_law_script", "_law_k"]) fun _ _ _ _ _ _ us hl => match us, hl with | [_, _], _ => rfl
  have g4 := PySem.W.mg_of X G a4
  have F5 := fun_mk (st := sBox) l5 c5 k5
  have b5 := F5.binds (ps := ["_law_cell_here"]) fun _ _ _ _ _ _ us hl => match us, hl with | [_], _ => rfl
  have g5 := PySem.W.mg_of X G a5
  have F6 := fun_mk (st := sTake) l6 c6 k6
  have b6 := F6.binds (ps := ["_law_box_here", "_law_size"]) fun _ _ _ _ _ _ us hl => match us, hl with | [_, _], _ => rfl
  have g6 := PySem.W.mg_of X G a6
  have F7 := fun_mk (st := sWords) l7 c7 k7
  have b7 := F7.binds (ps := ["_law_box_here", "_law_many"]) fun _ _ _ _ _ _ us hl => match us, hl with | [_, _], _ => rfl
  have g7 := PySem.W.mg_of X G a7
  have F8 := fun_mk (st := sRanked) l8 c8 k8
  have b8 := F8.binds (ps := []) fun _ _ _ _ _ _ us hl => match us, hl with | [], _ => rfl
  have g8 := PySem.W.mg_of X G a8
  have F9 := fun_mk (st := sMixed) l9 c9 k9
  have b9 := F9.binds (ps := ["_law_box_here", "_law_some"]) fun _ _ _ _ _ _ us hl => match us, hl with | [_, _], _ => rfl
  have g9 := PySem.W.mg_of X G a9
  have F10 := fun_mk (st := sList) l10 c10 k10
  have b10 := F10.binds (ps := ["_law_box_here", "_law_ranked_here"]) fun _ _ _ _ _ _ us hl => match us, hl with | [_, _], _ => rfl
  have g10 := PySem.W.mg_of X G a10
  have F11 := fun_mk (st := sCaught) l11 c11 k11
  have b11 := F11.binds (ps := ["_law_thing"]) fun _ _ _ _ _ _ us hl => match us, hl with | [_], _ => rfl
  have g11 := PySem.W.mg_of X G a11
  have F12 := fun_mk (st := sRefused) l12 c12 k12
  have b12 := F12.binds (ps := ["_law_thing"]) fun _ _ _ _ _ _ us hl => match us, hl with | [_], _ => rfl
  have g12 := PySem.W.mg_of X G a12
  have w0 := PySem.W.mg_of X G v0
  have w1 := PySem.W.mg_of X G v1
  have w2 := PySem.W.mg_of X G v2
  have T : Blt mg := ⟨PySem.W.mg_none_of X G z_isinstance, PySem.W.mg_none_of X G z_int, PySem.W.mg_none_of X G z_bool, PySem.W.mg_none_of X G z_str, PySem.W.mg_none_of X G z_list, PySem.W.mg_none_of X G z_tuple, PySem.W.mg_none_of X G z_len, PySem.W.mg_none_of X G z_all, PySem.W.mg_none_of X G z_max, PySem.W.mg_none_of X G z_min, PySem.W.mg_none_of X G z_range, PySem.W.mg_none_of X G z_repr⟩
  have h_set := PySem.W.mg_none_of X G z_set
  have Tx0 : PySem.ValX.ValTxt "InvalidWords" "InvalidWords.__init__" K mg Cx0 gx0 := { gC := PySem.W.mg_of X G aCx0, cls := ⟨nmx0, qx0, Nx0, bsx0, _, snx0, subx0, abx0, colx0, ddx0, m0x0, m1x0, m2x0, m3x0, m5x0, xLx0, rfx0⟩, sa := sax0, ga := gax0, gg := ggx0, noN := nbx0, iC := a1x0, tC := t1x0, kC := kCx0, exC := eCx0, tyC := tCx0, hdC := hCx0, te := exm_self eCx0 iCx0 tCx0 sCx0, fn := ⟨_, _, _, _, _, _, _, _, _, _, _, _, _, _, l1x0, c1x0⟩ }
  exact ⟨PySem.W.fnOf "law" "law" (defArgs sLaw) (defBody sLaw) (defScope sLaw) .none kV dc pm an cd ct, fun s v => .of_eq rfl, fun base _ _ => ok_law (aD := gx0) (fun_mk (st := sLaw) lL cL kL) T (ok_first F3 (ok_are F2 F1 b1 g1 F0 b0 g0 w1 T) g2 F2.kp b2 w2 w0 h_set Tx0) g3 F3.kp b3 F4 g4 b4 F5 g5 b5 F6 g6 b6 F8 g8 b8 F10 g10 b10 F9 g9 b9 F7 g7 b7 F11 g11 b11 F12 g12 b12 Tx0⟩
end Bxs

open PySem PySem.W PyProof.Rows in
set_option maxRecDepth 100000 in
set_option maxHeartbeats 0 in
theorem PySem.Challenge.cw_seenrules_k03_first_other_words_holds : PySem.Challenge.rw_seenrules_k03_first_other_words.Holds := by
  w_on; o_law; k_head; (case hw => w_witness2)
  k_fill
  refine Rp.walkG (l := PySem.Challenge.rw_seenrules_k03_first_other_words) (sp := Bxs.spLaw) (k := 8) (x := "_law_script") rfl (by decide) rfl ⟨rfl, by decide, by decide⟩ (fun w h Y => PySem.W.kIn_of Y) ?F (fun K H a ns hl _ hS => ⟨a, ns, rfl, hS, hl, fun _ => rfl⟩)
  case F =>
    intro w mg fa h KX G hmg
    refine' Bxs.all_mk KX G hmg ?a0 ?l0 ?c0 ?k0 ?a1 ?l1 ?c1 ?k1 ?a2 ?l2 ?c2 ?k2 ?a3 ?l3 ?c3 ?k3 ?a4 ?l4 ?c4 ?k4 ?a5 ?l5 ?c5 ?k5 ?a6 ?l6 ?c6 ?k6 ?a7 ?l7 ?c7 ?k7 ?a8 ?l8 ?c8 ?k8 ?a9 ?l9 ?c9 ?k9 ?a10 ?l10 ?c10 ?k10 ?a11 ?l11 ?c11 ?k11 ?a12 ?l12 ?c12 ?k12 ?aL ?lL ?cL ?kL ?v0 ?v1 ?v2 ?z_isinstance ?z_int ?z_bool ?z_str ?z_list ?z_tuple ?z_len ?z_all ?z_max ?z_min ?z_range ?z_repr ?z_set ?aCx0 ?xLx0 ?rfx0 ?sax0 ?gax0 ?ggx0 ?nbx0 ?a1x0 ?t1x0 ?l1x0 ?c1x0 ?kCx0 ?eCx0 ?tCx0 ?hCx0 ?iCx0 ?sCx0
    (case a0 => k_is)
    (case l0 => k_is)
    (case c0 => k_is)
    (case k0 => k_is)
    (case a1 => k_is)
    (case l1 => k_is)
    (case c1 => k_is)
    (case k1 => k_is)
    (case a2 => k_is)
    (case l2 => k_is)
    (case c2 => k_is)
    (case k2 => k_is)
    (case a3 => k_is)
    (case l3 => k_is)
    (case c3 => k_is)
    (case k3 => k_is)
    (case a4 => k_is)
    (case l4 => k_is)
    (case c4 => k_is)
    (case k4 => k_is)
    (case a5 => k_is)
    (case l5 => k_is)
    (case c5 => k_is)
    (case k5 => k_is)
    (case a6 => k_is)
    (case l6 => k_is)
    (case c6 => k_is)
    (case k6 => k_is)
    (case a7 => k_is)
    (case l7 => k_is)
    (case c7 => k_is)
    (case k7 => k_is)
    (case a8 => k_is)
    (case l8 => k_is)
    (case c8 => k_is)
    (case k8 => k_is)
    (case a9 => k_is)
    (case l9 => k_is)
    (case c9 => k_is)
    (case k9 => k_is)
    (case a10 => k_is)
    (case l10 => k_is)
    (case c10 => k_is)
    (case k10 => k_is)
    (case a11 => k_is)
    (case l11 => k_is)
    (case c11 => k_is)
    (case k11 => k_is)
    (case a12 => k_is)
    (case l12 => k_is)
    (case c12 => k_is)
    (case k12 => k_is)
    (case aL => k_is)
    (case lL => k_is)
    (case cL => k_is)
    (case kL => k_is)
    (case v0 => k_is)
    (case v1 => k_is)
    (case v2 => k_is)
    (case z_isinstance => k_is)
    (case z_int => k_is)
    (case z_bool => k_is)
    (case z_str => k_is)
    (case z_list => k_is)
    (case z_tuple => k_is)
    (case z_len => k_is)
    (case z_all => k_is)
    (case z_max => k_is)
    (case z_min => k_is)
    (case z_range => k_is)
    (case z_repr => k_is)
    (case z_set => k_is)
    (case aCx0 => k_is)
    (case xLx0 => k_is)
    (case rfx0 => decide +kernel)
    (case sax0 => k_is)
    (case gax0 => k_is)
    (case ggx0 => k_is)
    (case nbx0 => k_is)
    (case a1x0 => k_is)
    (case t1x0 => k_is)
    (case l1x0 => k_is)
    (case c1x0 => k_is)
    (case kCx0 => k_is)
    (case eCx0 => k_is)
    (case tCx0 => k_is)
    (case hCx0 => k_is)
    (case iCx0 => k_is)
    (case sCx0 => first | rfl | k_is)
#print axioms PySem.Challenge.cw_seenrules_k03_first_other_words_holds
