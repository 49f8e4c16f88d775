import PyProof.Rows.All
import Wide.All
import OpenK.AllK
import Wide.FinOn
import HandS.ForMost
import HandS.IsInst
import HandS.Walk
import HandS.StrMore
import PySem.Challenge.RW_seenrules_k01_integers_words_numbers
set_option Elab.async false
set_option maxRecDepth 100000
namespace Bxs
open PySem
def top (i : Nat) : Stmt := PySem.Challenge.pw_seenrules_k01_integers_words_numbers.main.body.getD i (.Pass ⟨0, 0, 0, 0⟩)
abbrev sIsInt : Stmt := top 3
abbrev sIsWord : Stmt := top 4
abbrev sIsNum : Stmt := top 5
abbrev sCell : Stmt := top 7
abbrev sBox : Stmt := top 8
abbrev sTake : Stmt := top 9
abbrev sOther : Stmt := top 10
abbrev sString : Stmt := top 11
abbrev sLetters : Stmt := top 12
abbrev sWhole : Stmt := top 13
abbrev sInteger : Stmt := top 14
abbrev sLaw : Stmt := top 15
end Bxs
/-! ### repr of data, where no repr is under way; the promise of a def there -/
namespace Rp
open PySem PySem.Spec PyProof.Rows L2
theorem reprR {X : Cx} (hg : X.A.guards = some []) (hu : X.A.units + 64 < cLine) : CallR X (.builtin "repr") (fun xs H Q => ∃ (a : Addr) (d : PyData),
    xs = [.ref a] ∧ Dp X.K H (.ref a) d ∧ d.showable = true ∧ d.hasDict = false ∧ d.depth ≤ 60 ∧ d.shown.length ≤ sizeLine ∧ Q (.str d.shown) H) := by
  intro pins s σ H xs us Q I r h
  obtain ⟨a, d, rfl, hd, hs, hn, hdp, hz, q⟩ := h
  obtain ⟨u, rfl, ru⟩ := vals1 r
  obtain rfl : u = Value.ref a := ru
  obtain ⟨as, rd⟩ := Dp.reads I d _ _ hd rfl
  exact repr_of_reads' rd hs (fun z => by rw [hn] at z; cases z) hg (by omega) (fun _ _ e => e) (fun h' u tk hk => ⟨.str d.shown, H, I.kept hk, ⟨_, rfl⟩, q⟩) hz

/-- as FnOk, asked only where no repr is under way -/
structure FnG (P : Program) (w : World) (K : PySem.W.Frag) (mg : Str → Option Value) (base : Heap) (k : Nat) (f : Addr) (fd : FuncData) (ps : List Str) (sp : Sp) : Prop where
  many : ∀ vs H Q E, sp vs H Q E → vs.length = ps.length
  go : ∀ (A : Around) (outer : List Env) (s : Shared) (H : Hp) (args : Args) (us : List Value) (vs : List V) (Q : VK) (E : XK),
    A.guards = some [] → Room k A → Env0 P w K mg base A outer s H → BindsTo s fd args (ps.zip us) → Vals vs us → sp vs H Q E →
      codeAny (model P w) A (.call (.ref f) args) (CR CX0 outer P w H s Q E) s

theorem fnG {P : Program} {w : World} {K : PySem.W.Frag} {mg : Str → Option Value} {base : Heap} {x qual : Str} {st : Stmt} {f : Addr} {fd : FuncData} {N ps : List Str} {k : Nat} {sp : Sp}
    (F : Fun K x qual st f fd) (S : FnScope N ps (defScope st)) (many : ∀ vs H Q E, sp vs H Q E → vs.length = ps.length)
    (body : ∀ (cdv : Value) (A : Around) (outer : List Env) (s : Shared) (H : Hp) (vs : List V) (Q : VK) (E : XK), A.guards = some [] →
      Room k (A.deeper (envOfC qual (defScope st) s.heap.objs.size f cdv)) → sp vs H Q E →
      ∃ t, PSs (cxOf CX0 P w K mg base N qual (defScope st) f cdv A outer s H E).nox (defBody st) t ∧ t { nx := fun _ H' => Q .non H', rt := Q } (start N vs) H) :
    FnG P w K mg base (k + 1) f fd ps sp := by
  obtain ⟨oc, od, kV, doc, pm, an, cdv, ct, osl, rfl, lk, hcd⟩ := F.ex
  constructor
  · exact many
  intro A outer s H args us vs Q E hg hr e0 hb r hsp
  have keepB : ∀ b o, base.get? b = some o → s.heap.get? b = some o := fun b o e => (e0.bs b o e).1
  have KX := e0.mod.kin.keeps keepB
  have lim := e0.mod.nolimit.keeps keepB
  have kinds : ∀ y ∈ ps.zip us, (defScope st).names.lookup y.1 = some .local ∨
      ((defScope st).names.lookup y.1 = some .cell ∧ ((cellsFrom (s.heap.objs.size + 1) (defScope st).names []).lookup y.1).isSome = true) := by
    rintro ⟨n, v⟩ hy
    cases S.par n (List.of_mem_zip hy).1 with
    | inl q => exact Or.inl q
    | inr q => exact Or.inr ⟨q, PySem.W.cellsFrom_some _ _ _ (Or.inl q)⟩
  apply codeAny_call_function hr.depth (KX _ _ lk) rfl S.co S.gen rfl (PySem.W.codeRec_of KX hcd)
  apply hb
  refine wpAny_newFunctionEnv_cells S.kind kinds ?_
  intro env he s1 x
  subst he
  refine ⟨lim.keeps x.toInCall.keep, codeAny_func ?_⟩
  obtain ⟨t, ht, hq⟩ := body cdv A outer s H vs Q E hg (hr.deeper _) hsp
  have I := inv_start (CX := CX0) (E := E) (w := w) (P := P) (cd := cdv) S hr.hd e0 (many _ _ _ _ hsp) r x
  refine wpAny_mono (ht.nox.run [] s1 (start N vs) H _ I hq) ?_ (fun e s' hs => hs)
  intro fl s' hs
  cases fl
  case ret u =>
    obtain ⟨v, _, H', J, rv, q⟩ := hs
    exact ⟨v, H', J.os, J.bare, J.base, J.hok, rv, q⟩
  case next =>
    obtain ⟨_, H', J, q⟩ := hs
    exact ⟨.non, H', J.os, J.bare, J.base, J.hok, rfl, q⟩
  all_goals
    obtain ⟨_, _, _, q⟩ := hs
    exact q.elim
end Rp
/-! ### the end of a law whose def asks repr -/
namespace Rp
open PySem PySem.Spec PyProof.Rows L2
section
variable {P : Program} {w : World} {K : PySem.W.Frag} {mg mb : Str → Option Value} {k : Nat} {fa a : Addr} {fd : FuncData} {x : Str} {sp : Sp} {s₁ : Shared} {vs : List Value} {ns : List Int}
/-- what the heap says of a dict's object lies outside of H, where only the script may be -/
theorem not_script {H : Hp} {b : Addr} {o : Obj} {es : Array DictEntry} {ep : Nat} (ha : s₁.heap.get? a = some { cls := .type "list", data := .seq vs.toArray })
    (only : ∀ c, H c ≠ none → c = a) (e : s₁.heap.get? b = some o) (hd : o.data = .dict es ep) : H b = none := by
  rcases hq : H b with _ | u
  · rfl
  · have hba := only b (by simp [hq])
    rw [hba, ha] at e
    injection e with e
    rw [← e] at hd
    exact absurd hd (by simp)

theorem lawCore (H : Hp) (KX : K.In s₁.heap) (hns : s₁.heap.Ns mainGlobals mg) (hb : s₁.heap.Ns builtinsNs mb)
    (hbb : ∀ x : Str, x ≠ "__name__" → mb x = bootBuiltins x) (hlim : s₁.heap.NoLimit) (hg : s₁.gens = #[])
    (ha : s₁.heap.get? a = some { cls := .type "list", data := .seq vs.toArray }) (hr : Room k callerA)
    (F : ∀ base : Heap, K.In base → base.Ns mainGlobals mg → FnG P w K mg base k fa fd [x] sp)
    (hbind : ∀ (s : Shared) (u : Value), BindsTo s fd ⟨[u], []⟩ [(x, u)])
    (hsp : sp [.ref a] H (fun v _ => v = .bl true) fun _ _ _ => False)
    (hO : Only H) (hok : HOk P w H s₁.heap) (only : ∀ c, H c ≠ none → c = a) (hK : H a ≠ none → K.lookup a = none) :
    codeAny (model P w) callerA (.call (.ref fa) ⟨[.ref a], []⟩)
      (fun r s' => r = .ok (.ret (.bool true)) ∧ OldK s₁.heap s'.heap ∧ s'.os = s₁.os ∧ AllBare s'.gens) s₁ := by
  have stays : ∀ {b : Addr} {o : Obj}, s₁.heap.get? b = some o → H b = none → (hidT s₁.heap H).get? b = some o := fun e n => hidT_get e n
  have names : ∀ {b : Addr} {m : Str → Option Value}, s₁.heap.Ns b m → (hidT s₁.heap H).Ns b m := by
    rintro b m ⟨o, es, ep, e, d, r⟩
    exact ⟨o, es, ep, stays e (not_script ha only e d), d, r⟩
  have KB : K.In (hidT s₁.heap H) := by
    intro b o e
    refine stays (KX b o e) ?_
    rcases hq : H b with _ | u
    · rfl
    · have hba := only b (by simp [hq])
      subst hba
      rw [hK (by simp [hq])] at e
      exact absurd e (by simp)
  obtain ⟨mc, l1, l2⟩ := hlim
  have M : Mod K mg (hidT s₁.heap H) := ⟨KB, names hns, ⟨mb, names hb, hbb⟩, ⟨mc, names l1, l2⟩⟩
  have env : Env0 P w K mg (hidT s₁.heap H) callerA [] s₁ H :=
    ⟨rfl, M, fun b o e => of_hidT e, Nat.le_of_eq (hidT_size _ _), trivial, fun b hb => (by cases hb), hok, AllBare.of_eq hg⟩
  have run := (F _ KB (names hns)).go callerA [] s₁ H ⟨[.ref a], []⟩ [.ref a] [.ref a] _ _ rfl hr env (hbind s₁ (.ref a)) (.cons rfl .nil) hsp
  refine codeAny_mono run ?_
  rintro (e | fl) s' h
  · exact h.elim
  · cases fl
    case ret u =>
      obtain ⟨v, H', os, bare, un, hok', rv, q⟩ := h
      obtain rfl : v = .bl true := q
      obtain rfl : u = Value.bool true := rv
      refine ⟨rfl, OldK.of_keep ?_, os, bare⟩
      intro b o e
      rcases hq : H b with _ | u
      · exact un.keep b o e hq (fun z => by cases z) (by simp)
      · rcases hO b with z | ⟨ob, xs, z⟩
        · rw [hq] at z
          cases z
        · have z2 := un.frzs b ob _ z
          obtain ⟨e1, _⟩ := hok b _ z
          obtain ⟨e2, _⟩ := hok' b _ z2
          rw [e] at e1
          injection e1 with e1
          rw [e1]
          exact e2
    all_goals exact False.elim h

theorem lawG (KX : K.In s₁.heap) (hns : s₁.heap.Ns mainGlobals mg) (hb : s₁.heap.Ns builtinsNs mb)
    (hbb : ∀ x : Str, x ≠ "__name__" → mb x = bootBuiltins x) (hlim : s₁.heap.NoLimit) (hg : s₁.gens = #[])
    (ha : s₁.heap.get? a = some { cls := .type "list", data := .seq vs.toArray }) (hi : IntsAre vs ns) (hl : ns.length ≤ sizeLine) (hr : Room k callerA)
    (F : ∀ base : Heap, K.In base → base.Ns mainGlobals mg → FnG P w K mg base k fa fd [x] sp)
    (hbind : ∀ (s : Shared) (u : Value), BindsTo s fd ⟨[u], []⟩ [(x, u)])
    (hsp : ∀ H : Hp, Only H → SqL K H a (ns.map V.int) → sp [.ref a] H (fun v _ => v = .bl true) fun _ _ _ => False) :
    codeAny (model P w) callerA (.call (.ref fa) ⟨[.ref a], []⟩)
      (fun r s' => r = .ok (.ret (.bool true)) ∧ OldK s₁.heap s'.heap ∧ s'.os = s₁.os ∧ AllBare s'.gens) s₁ := by
  have rv := vals_ints hi
  have lenV := hi.length
  rcases hk : K.lookup a with _ | o
  · let S : HO := .frz { cls := .type "list", data := .seq vs.toArray } (.lst (ns.map V.int))
    let H : Hp := fun b => if b = a then some S else none
    have Ha : H a = some S := if_pos rfl
    have Hn : ∀ b, b ≠ a → H b = none := fun b n => if_neg n
    have onlyH : Only H := by
      intro b
      by_cases n : b = a
      · subst n
        exact .inr ⟨_, _, Ha⟩
      · exact .inl (Hn b n)
    have okH : HOk P w H s₁.heap := by
      intro b u z
      by_cases n : b = a
      · subst n
        rw [Ha] at z
        injection z with z
        subst z
        exact ⟨ha, by rw [List.length_map]; exact hl, vs, _, rv, ha⟩
      · rw [Hn b n] at z
        cases z
    refine lawCore H KX hns hb hbb hlim hg ha hr F hbind (hsp H onlyH (.inl (.inr ⟨_, Ha⟩))) onlyH okH (fun c n => ?_) fun _ => hk
    by_cases m : c = a
    · exact m
    · exact absurd (Hn c m) n
  · have e := KX a o hk
    rw [ha] at e
    injection e with e
    subst e
    have sq : SqL K (fun _ => none) a (ns.map V.int) := .inr ⟨_, vs.toArray, _, hk, rfl, rfl, rfl, by rw [List.size_toArray, lenV]; exact hl, by simpa using rv⟩
    exact lawCore (fun _ => none) KX hns hb hbb hlim hg ha hr F hbind (hsp _ (fun _ => .inl rfl) sq) (fun _ => .inl rfl) (fun b u z => by cases z) (fun c n => absurd rfl n) fun n => absurd rfl n

theorem walkG {l : PySem.W.OpenLaw} {n : Nat} {q : Program} {loose : List Str} {XP : (Str → Option Value) → Heap → Prop} {YP : World → Heap → Prop} {d : DefRec} {K : Params → PySem.W.Frag} {sp : PySem.W.Frag → Sp}
    (hn : l.most = some n) (hn2 : n ≤ sizeLine) (hdf : d.params.defaults = []) (hr : Room k callerA) (hY : ∀ (w : World) (h : Heap), YP w h → (K w.params).In h)
    (F : ∀ (w : World) (mg : Str → Option Value) (fa : Addr) (h : Heap), (K w.params).In h → h.Ns mainGlobals mg → mg d.name = some (.ref fa) →
      ∃ fd : FuncData, (∀ (s : Shared) (u : Value), BindsTo s fd ⟨[u], []⟩ [(x, u)]) ∧
        ∀ base : Heap, (K w.params).In base → base.Ns mainGlobals mg → FnG l.prog w (K w.params) mg base k fa fd [x] (sp (K w.params)))
    (hsp : ∀ (K : PySem.W.Frag) (H : Hp) (a : Addr) (ns : List Int), ns.length ≤ n → Only H → SqL K H a (ns.map V.int) → sp K [.ref a] H (fun v _ => v = .bl true) fun _ _ _ => False) :
    PySem.W.WalkO q loose XP YP l.row.toRowW d [] (fun f vs => PySem.call f vs) := by
  apply Att.attach_call hn hdf
  intro w s₀ s₁ mg mb fa o pm cd doc a vs ns G Y ho hd hcd hmg hobj hints hlen hg
  obtain ⟨fd, hb, hF⟩ := F w mg fa _ (hY w _ Y) G.T.g hmg
  exact lawG (hY w _ Y) G.T.g G.T.b G.T.builtins G.T.nolimit hg hobj hints (Nat.le_trans hlen hn2) hr hF hb fun H hO hS => hsp _ H a ns hlen hO hS
end
end Rp
namespace Bxs
open PySem L2
/-- the draws' box at p: three ints -/
def Bx (H : Hp) (p : Addr) : Prop := ∃ a b c : Int, H p = some (.lst [.int a, .int b, .int c])
/-- the box drawn from, all else as it was -/
def Tk (p : Addr) (H H' : Hp) : Prop := Bx H' p ∧ ∀ q, q ≠ p → H' q = H q
/-- the box drawn from, and new objects made -/
def Al (p : Addr) (H H' : Hp) : Prop := Bx H' p ∧ ∀ q o, q ≠ p → H q = some o → H' q = some o
theorem Tk.al {p : Addr} {H H' : Hp} (h : Tk p H H') : Al p H H' := ⟨h.1, fun q o n e => (h.2 q n).trans e⟩
theorem Al.refl {p : Addr} {H : Hp} (h : Bx H p) : Al p H H := ⟨h, fun _ _ _ e => e⟩
theorem Al.trans {p : Addr} {H H1 H2 : Hp} (a : Al p H H1) (b : Al p H1 H2) : Al p H H2 := ⟨b.1, fun q o n e => b.2 q o n (a.2 q o n e)⟩
theorem Bx.up {p q : Addr} {H : Hp} {o : HO} (h : Bx H p) (n : H q = none) : Bx (upd H q o) p := by
  obtain ⟨a, b, c, e⟩ := h
  exact ⟨a, b, c, by rw [upd_ne (ne_of_none e n)]; exact e⟩
theorem Al.up {p q : Addr} {H : Hp} {o : HO} (h : Bx H p) (n : H q = none) : Al p H (upd H q o) :=
  ⟨h.up n, fun r u _ e => by rw [upd_ne (ne_of_none e n)]; exact e⟩
theorem Al.get {p q : Addr} {H H' : Hp} {o : HO} (a : Al p H H') (e : H q = some o) (n : q ≠ p) : H' q = some o := a.2 q o n e
theorem Al.free {p q : Addr} {H H' : Hp} (a : Al p H H') (h : Bx H p) (e : H' q = none) : H q = none := by
  cases e1 : H q with
  | none => rfl
  | some o =>
    by_cases n : q = p
    · subst n
      obtain ⟨_, _, _, z⟩ := a.1
      rw [z] at e
      cases e
    · rw [a.2 q o n e1] at e
      cases e
theorem Bx.ne {p q : Addr} {H : Hp} (h : Bx H p) (n : H q = none) : p ≠ q := by
  obtain ⟨_, _, _, e⟩ := h
  exact ne_of_none e n

def spTake : Sp := fun vs H Q _ => ∃ (p : Addr) (z : Int), vs = [.ref p, .int z] ∧ Bx H p ∧ 0 < z ∧ z < 1073741824 ∧
  ∀ (d : Int) (H' : Hp), 0 ≤ d → d < z → Tk p H H' → Q (.int d) H'
def spBox : Sp := fun vs H Q _ => ∃ c : Int, vs = [.int c] ∧ ∀ (p : Addr) (H' : Hp), H p = none → Same H H' → Bx H' p → (∀ q, q ≠ p → H' q = H q) → Q (.ref p) H'
def spCell (K : PySem.W.Frag) : Sp := fun vs H Q _ => ∃ (a : Addr) (ns : List Int) (k : Int), vs = [.ref a, .int k] ∧ SqL K H a (ns.map V.int) ∧ 0 ≤ k ∧ ∀ n : Int, Q (.int n) H

section
variable {P : Program} {w : World} {K : PySem.W.Frag} {mg : Str → Option Value} {base : Heap}
theorem scCell : FnScope ["_law_script", "_law_k"] ["_law_script", "_law_k"] (defScope sCell) := ⟨rfl, rfl, rfl, by decide +kernel, rfl, by decide +kernel, by decide +kernel⟩
theorem ok_cell {f : Addr} {fd : FuncData} (F : Fun K "_law_cell" "_law_cell" sCell f fd) (zlen : mg "len" = none) : FnOk P w K mg base CX0 1 f fd ["_law_script", "_law_k"] (spCell K) := by
  refine F.ok scCell (fun vs H Q E h => ?_) (fun cdv A outer s H vs Q E hr h => ?_)
  · obtain ⟨_, _, _, rfl, _⟩ := h
    rfl
  · obtain ⟨a, ns, k, rfl, hS, hk, hQ⟩ := h
    refine ⟨_, pss_cons (ps_if (pt_cmpR op_lt (pv 1) (pe_callB call_len_seq (by rfl) zlen PySem.boot_len (pa_cons (pv 0) pa_nil)) (nomark _))
        (pss_one (ps_ret (pe_ix ix_list (pv 0) (pv 1) (fun _ _ => rfl)))) pss_nil)
      (pss_one (ps_ret (pe_op op_add (pe_op op_mul pe_int (pv 1)) pe_int))), ?_⟩
    refine ⟨_, rfl, _, rfl, a, _, rfl, .inl hS, _, _, rfl, rfl, _, rfl, ?_⟩
    refine ite2 (fun hlt => ?_) (fun _ => ?_)
    · have hl : k < (ns.length : Int) := by simpa using hlt
      obtain ⟨j, rfl⟩ := Int.eq_ofNat_of_zero_le hk
      have hj : j < ns.length := by omega
      refine ⟨_, rfl, _, rfl, a, _, _, _, rfl, rfl, hS, atI_nat (v := V.int ns[j]) (by simp [hj]), hQ _⟩
    · refine ⟨_, rfl, _, _, rfl, rfl, .inl ⟨by decide, by decide⟩, _, _, rfl, rfl, hQ _⟩

theorem scBox : FnScope ["_law_cell_here"] ["_law_cell_here"] (defScope sBox) := ⟨rfl, rfl, rfl, by decide +kernel, rfl, by decide +kernel, by decide +kernel⟩
theorem ok_box {f : Addr} {fd : FuncData} (F : Fun K "_law_box" "_law_box" sBox f fd) (zmax : mg "max" = none) (zint : mg "int" = none) : FnOk P w K mg base CX0 1 f fd ["_law_cell_here"] spBox := by
  refine F.ok scBox (fun vs H Q E h => ?_) (fun cdv A outer s H vs Q E hr h => ?_)
  · obtain ⟨_, rfl, _⟩ := h
    rfl
  · obtain ⟨c, rfl, hQ⟩ := h
    refine ⟨_, pss_one (ps_ret (pe_lst
      (pa_cons (pe_callB (call_max2 rfl) (by rfl) zmax (by decide +kernel) (pa_cons pe_int (pa_cons (pe_op op_sub (pv 0) (pe_op op_pow pe_int pe_int)) pa_nil)))
      (pa_cons (pe_op op_mod (pe_callTy call_int1 (by rfl) zint (by decide +kernel) (pa_cons (pv 0) pa_nil)) pe_int)
      (pa_cons pe_int pa_nil))))), ?_⟩
    refine ⟨_, rfl, _, _, rfl, rfl, ⟨by decide, by decide, by decide⟩, _, _, rfl, rfl, _, _, rfl, _, rfl, .inl ⟨_, rfl, _, _, rfl, rfl, (by show (0 : Int) < _; decide), by show 3 ≤ sizeLine; decide, fun p hp => ?_⟩⟩
    exact hQ p _ hp (fun q o e => by rw [upd_ne (ne_of_none e hp)]; exact e) ⟨_, _, _, upd_same⟩ (fun q n => upd_ne n)

theorem small (x : Int) : (x % 2147483647).natAbs < 2 ^ 64 := by
  have h1 := Int.emod_nonneg x (show (2147483647 : Int) ≠ 0 by decide)
  have h2 := Int.emod_lt_of_pos x (show (0 : Int) < 2147483647 by decide)
  omega
theorem scTake : FnScope ["_law_box_here", "_law_size", "_law_digit", "_law_mixed"] ["_law_box_here", "_law_size"] (defScope sTake) := ⟨rfl, rfl, rfl, by decide +kernel, rfl, by decide +kernel, by decide +kernel⟩
theorem ok_take {f : Addr} {fd : FuncData} (F : Fun K "_law_take" "_law_take" sTake f fd) (zint : mg "int" = none) : FnOk P w K mg base CX0 1 f fd ["_law_box_here", "_law_size"] spTake := by
  refine F.ok scTake (fun vs H Q E h => ?_) (fun cdv A outer s H vs Q E hr h => ?_)
  · obtain ⟨_, _, rfl, _⟩ := h
    rfl
  · obtain ⟨p, z, rfl, ⟨a, b, c, hB⟩, hz, hz2, hQ⟩ := h
    have nd := scTake.nd
    refine ⟨_, pss_cons (ps_if (pt_cmpR op_gt (pe_ix ix_list (pv 0) pe_int (fun _ _ => rfl)) pe_int (nomark _))
        (pss_cons (ps_set (i := 2) nd rfl (Or.inl rfl) (pe_op op_mod (pe_callTy call_int1 (by rfl) zint (by decide +kernel) (pa_cons (pe_ix ix_list (pv 0) pe_int (fun _ _ => rfl)) pa_nil)) (pv 1)))
        (pss_cons (ps_asg (pe_op op_fdiv (pe_ix ix_list (pv 0) pe_int (fun _ _ => rfl)) (pv 1)) (pg_sub (pv 0) pe_int set_list))
        (pss_one (ps_ret (pv 2))))) pss_nil)
      (pss_cons (ps_asg (pe_op op_add (pe_ix ix_list (pv 0) pe_int (fun _ _ => rfl)) pe_int) (pg_sub (pv 0) pe_int set_list))
      (pss_cons (ps_set (i := 3) nd rfl (Or.inl rfl) (pe_op op_mod (pe_callTy call_int1 (by rfl) zint (by decide +kernel) (pa_cons
        (pe_op op_add (pe_op op_add (pe_op op_mul (pe_ix ix_list (pv 0) pe_int (fun _ _ => rfl)) pe_int) (pe_op op_mul pe_int (pe_ix ix_list (pv 0) pe_int (fun _ _ => rfl)))) pe_int) pa_nil)) pe_int))
      (pss_cons (ps_asg (pe_op op_mod (pe_callTy call_int1 (by rfl) zint (by decide +kernel) (pa_cons
        (pe_op op_add (pe_op op_pow (pv 3) pe_int) (pe_op op_mul pe_int (pe_ix ix_list (pv 0) pe_int (fun _ _ => rfl)))) pa_nil)) pe_int) (pg_sub (pv 0) pe_int set_list))
      (pss_one (ps_ret (pe_op op_mod (pe_callTy call_int1 (by rfl) zint (by decide +kernel) (pa_cons (pe_op op_fdiv (pe_ix ix_list (pv 0) pe_int (fun _ _ => rfl)) pe_int) pa_nil)) (pv 1))))))), ?_⟩
    refine ⟨_, rfl, _, _, _, _, rfl, rfl, SqL.of hB, rfl, _, _, rfl, rfl, _, rfl, ?_⟩
    refine ite2 (fun _ => ?_) (fun _ => ?_)
    · refine ⟨_, rfl, _, _, _, _, rfl, rfl, SqL.of hB, rfl, .inl ⟨_, rfl, _, rfl, _, _, rfl, rfl, hz, ?_⟩⟩
      refine ⟨_, rfl, _, _, _, _, rfl, rfl, SqL.of hB, rfl, _, rfl, _, _, rfl, rfl, ⟨hz, hz2⟩, _, rfl, _, _, _, _, rfl, rfl, hB, rfl, _, rfl, ?_⟩
      exact hQ _ _ (Int.emod_nonneg _ (by omega)) (Int.emod_lt_of_pos _ hz) ⟨⟨_, _, _, upd_same⟩, fun q n => upd_ne n⟩
    · refine ⟨_, rfl, _, _, _, _, rfl, rfl, SqL.of hB, rfl, _, _, rfl, rfl, _, rfl, _, _, _, _, rfl, rfl, hB, rfl, ?_⟩
      refine ⟨_, rfl, _, _, _, _, rfl, rfl, SqL.of upd_same, rfl, _, _, rfl, rfl, .inr ⟨by decide, by decide⟩, _, rfl, _, _, _, _, rfl, rfl, SqL.of upd_same, rfl, _, _, rfl, rfl, .inl ⟨by decide, by decide⟩, _, _, rfl, rfl, _, _, rfl, rfl, .inl ⟨_, rfl, _, _, rfl, rfl, (by show (0 : Int) < _; decide), ?_⟩⟩
      refine ⟨_, rfl, _, _, rfl, rfl, ⟨by decide, by decide, small _⟩, _, rfl, _, _, _, _, rfl, rfl, SqL.of upd_same, rfl, _, _, rfl, rfl, .inl ⟨by decide, by decide⟩, _, _, rfl, rfl, .inl ⟨_, rfl, _, _, rfl, rfl, (by show (0 : Int) < _; decide), ?_⟩⟩
      refine ⟨_, rfl, _, _, _, _, rfl, rfl, upd_same, rfl, ?_⟩
      refine ⟨_, rfl, _, _, _, _, rfl, rfl, SqL.of upd_same, rfl, _, _, rfl, rfl, ⟨by decide, by decide⟩, .inl ⟨_, rfl, _, rfl, _, _, rfl, rfl, hz, ?_⟩⟩
      exact hQ _ _ (Int.emod_nonneg _ (by omega)) (Int.emod_lt_of_pos _ hz) ⟨⟨_, _, _, upd_same⟩, fun q n => by rw [upd_ne n, upd_ne n]⟩
end
end Bxs
namespace Bxs
open PySem L2
def Gd (z : Str) : Prop := z.length ≤ 1000 ∧ ∀ c ∈ z.cps.toList, c < 128
/-- a value of some kind, no part of it the box at p -/
inductive Ov (p : Addr) (H : Hp) : V → Prop where
  | non : Ov p H .non
  | bl (b : Bool) : Ov p H (.bl b)
  | int (i : Int) : Ov p H (.int i)
  | str (z : Str) (hz : Gd z) : Ov p H (.str z)
  | lst {a : Addr} {xs : List V} (n : a ≠ p) (e : H a = some (.lst xs)) : Ov p H (.ref a)
  | tup {a : Addr} {xs : List V} (n : a ≠ p) (e : H a = some (.tup xs)) : Ov p H (.ref a)
  | dct {a : Addr} {kvs : List (Key × V)} (n : a ≠ p) (e : H a = some (.dK kvs)) : Ov p H (.ref a)
theorem Ov.al {p : Addr} {H H' : Hp} {v : V} (h : Ov p H v) (k : Al p H H') : Ov p H' v := by
  cases h with
  | non => exact .non
  | bl b => exact .bl b
  | int i => exact .int i
  | str z hz => exact .str z hz
  | lst n e => exact .lst n (k.2 _ _ n e)
  | tup n e => exact .tup n (k.2 _ _ n e)
  | dct n e => exact .dct n (k.2 _ _ n e)
theorem Ov.same {p : Addr} {H H' : Hp} {v : V} (h : Ov p H v) (k : Same H H') : Ov p H' v := by
  cases h with
  | non => exact .non
  | bl b => exact .bl b
  | int i => exact .int i
  | str z hz => exact .str z hz
  | lst n e => exact .lst n (k _ _ e)
  | tup n e => exact .tup n (k _ _ e)
  | dct n e => exact .dct n (k _ _ e)
def isI : V → Bool | .int _ => true | .bl _ => true | _ => false
def isB : V → Bool | .bl _ => true | _ => false
def isS : V → Bool | .str _ => true | _ => false
theorem kit {K : PySem.W.Frag} {p : Addr} {H : Hp} {v : V} (h : Ov p H v) : ∃ t : Value, TyX K H v t ∧
    PySem.W.kitOne K t (.type "int") = some (isI v) ∧ PySem.W.kitOne K t (.type "bool") = some (isB v) ∧ PySem.W.kitOne K t (.type "str") = some (isS v) := by
  cases h with
  | non => exact ⟨_, .base .non, kit_ty (by decide +kernel), kit_ty (by decide +kernel), kit_ty (by decide +kernel)⟩
  | bl b => exact ⟨_, .base (.bl b), kit_ty (by show kitB "bool" "int" = some true; decide +kernel), kit_ty (by show kitB "bool" "bool" = some true; decide +kernel), kit_ty (by show kitB "bool" "str" = some false; decide +kernel)⟩
  | int i => exact ⟨_, .base (.int i), kit_ty (by show kitB "int" "int" = some true; decide +kernel), kit_ty (by show kitB "int" "bool" = some false; decide +kernel), kit_ty (by show kitB "int" "str" = some false; decide +kernel)⟩
  | str z hz => exact ⟨_, .base (.str z), kit_ty (by show kitB "str" "int" = some false; decide +kernel), kit_ty (by show kitB "str" "bool" = some false; decide +kernel), kit_ty (by show kitB "str" "str" = some true; decide +kernel)⟩
  | lst n e => exact ⟨_, .base (.lst e), kit_ty (by show kitB "list" "int" = some false; decide +kernel), kit_ty (by show kitB "list" "bool" = some false; decide +kernel), kit_ty (by show kitB "list" "str" = some false; decide +kernel)⟩
  | tup n e => exact ⟨_, .base (.tup e), kit_ty (by show kitB "tuple" "int" = some false; decide +kernel), kit_ty (by show kitB "tuple" "bool" = some false; decide +kernel), kit_ty (by show kitB "tuple" "str" = some false; decide +kernel)⟩
  | dct n e => exact ⟨_, .base (.dK e), kit_ty (by show kitB "dict" "int" = some false; decide +kernel), kit_ty (by show kitB "dict" "bool" = some false; decide +kernel), kit_ty (by show kitB "dict" "str" = some false; decide +kernel)⟩
/-- an integer, no bool -/
def whole (v : V) : Bool := match v with | .int _ => true | _ => false
def within (lo hi : Int) (v : V) : Bool := match v with | .int i => decide (lo ≤ i) && decide (i ≤ hi) | _ => false
def az (c : Nat) : Bool := decide (97 ≤ c) && decide (c ≤ 122)
def word (v : V) : Bool := match v with | .str z => (decide (1 ≤ z.length) && decide (z.length ≤ 6)) && z.cps.toList.all az | _ => false
theorem alphabet (c : Nat) : decide (c ∈ ("abcdefghijklmnopqrstuvwxyz" : Str).cps.toList) = az c := by
  have e : ("abcdefghijklmnopqrstuvwxyz" : Str).cps.toList = List.range' 97 26 := by decide +kernel
  rw [e, az, ← Bool.decide_and]
  exact decide_eq_decide.mpr (by rw [List.mem_range'_1]; omega)
theorem len_list (z : Str) : z.length = z.cps.toList.length := rfl

structure Blt (mg : Str → Option Value) : Prop where
  isi : mg "isinstance" = none
  int : mg "int" = none
  bool : mg "bool" = none
  str : mg "str" = none
  len : mg "len" = none
  all : mg "all" = none
  max : mg "max" = none
  min : mg "min" = none
  rng : mg "range" = none
  rep : mg "repr" = none

theorem yes_of {σ : St} {H : Hp} {A B : Hp → Prop} (h : A H) : tYes σ H (fun b H3 => if b = true then A H3 else B H3) := by
  show (if true = true then A H else B H)
  rw [if_pos rfl]
  exact h
def spWithin : Sp := fun vs H Q _ => ∃ (p : Addr) (v : V) (lo hi : Int), vs = [v, .int lo, .int hi] ∧ Ov p H v ∧ Q (.bl (within lo hi v)) H
def spNum : Sp := fun vs H Q _ => ∃ (p : Addr) (v : V), vs = [v] ∧ Ov p H v ∧ Q (.bl (within (-9999) 9999 v)) H
def spWhole : Sp := fun vs H Q _ => ∃ (p : Addr) (v : V), vs = [v] ∧ Ov p H v ∧ Q (.bl (whole v)) H
theorem asc_alpha : ∀ c < 128, Unicode.isAlpha c = (az c || (decide (65 ≤ c) && decide (c ≤ 90))) := by decide +kernel
theorem asc_lower : ∀ c < 128, Unicode.isLower c = az c := by decide +kernel
theorem asc_upper : ∀ c < 128, (Unicode.isUpper c || Unicode.isTitle c) = (decide (65 ≤ c) && decide (c ≤ 90)) := by decide +kernel
theorem az_lt {c : Nat} (h : az c = true) : c < 128 ∧ ¬ (65 ≤ c ∧ c ≤ 90) := by
  unfold az at h
  simp only [Bool.and_eq_true, decide_eq_true_eq] at h
  omega
theorem word_asc (z : Str) (h1 : 1 ≤ z.length) : (Txt.isascii z && (Txt.isalpha z && Txt.islower z)) = z.cps.toList.all az := by
  have e1 : Txt.isascii z = z.cps.toList.all (fun c => decide (c < 128)) := by
    unfold Txt.isascii
    exact (Array.all_toList ..).symm
  have e2 : Txt.isalpha z = z.cps.toList.all Unicode.isAlpha := by
    unfold Txt.isalpha
    rw [← Array.all_toList, decide_eq_true (show z.length > 0 from h1), Bool.true_and]
  have e3 : Txt.islower z = (z.cps.toList.any Unicode.isLower && !z.cps.toList.any fun c => Unicode.isUpper c || Unicode.isTitle c) := by
    unfold Txt.islower
    rw [← Array.any_toList, ← Array.any_toList]
  rw [e1, e2, e3, Bool.eq_iff_iff]
  simp only [Bool.and_eq_true, List.all_eq_true, List.any_eq_true, decide_eq_true_eq, Bool.not_eq_true', List.any_eq_false]
  constructor
  · rintro ⟨a, b, _, d⟩ c hc
    have h2 := b c hc
    have h3 := d c hc
    rw [asc_alpha c (a c hc)] at h2
    rw [asc_upper c (a c hc)] at h3
    rw [Bool.or_eq_true] at h2
    exact h2.resolve_right h3
  · intro a
    refine ⟨fun c hc => (az_lt (a c hc)).1, fun c hc => ?_, ?_, fun c hc => ?_⟩
    · rw [asc_alpha c (az_lt (a c hc)).1, a c hc]
      rfl
    · have hne : z.cps.toList ≠ [] := fun e => by
        have : z.cps.toList.length = 0 := by rw [e]; rfl
        have h2 : z.cps.toList.length = z.length := rfl
        omega
      obtain ⟨c, l, e⟩ := List.exists_cons_of_ne_nil hne
      have hc : c ∈ z.cps.toList := by rw [e]; exact List.mem_cons_self ..
      exact ⟨c, hc, by rw [asc_lower c (az_lt (a c hc)).1]; exact a c hc⟩
    · rw [asc_upper c (az_lt (a c hc)).1]
      have := (az_lt (a c hc)).2
      simp only [Bool.and_eq_true, decide_eq_true_eq]
      exact this
def spWord : Sp := fun vs H Q _ => ∃ (p : Addr) (v : V), vs = [v] ∧ Ov p H v ∧ ∀ H', Same H H' → Q (.bl (word v)) H'
def spLetters : Sp := fun vs H Q _ => ∃ z : Str, vs = [.str z] ∧ Gd z ∧ ∀ H', Same H H' → Q (.bl (z.cps.toList.all az)) H'

section
variable {P : Program} {w : World} {K : PySem.W.Frag} {mg : Str → Option Value} {base : Heap}
theorem scIsInt : FnScope ["value", "low", "high"] ["value", "low", "high"] (defScope sIsInt) := ⟨rfl, rfl, rfl, by decide +kernel, rfl, by decide +kernel, by decide +kernel⟩
theorem ok_isInt {f : Addr} {fd : FuncData} (F : Fun K "is_integer" "is_integer" sIsInt f fd) (T : Blt mg) : FnOk P w K mg base CX0 1 f fd ["value", "low", "high"] spWithin := by
  refine F.ok scIsInt (fun vs H Q E h => ?_) (fun cdv A outer s H vs Q E hr h => ?_)
  · obtain ⟨_, _, _, _, rfl, _⟩ := h
    rfl
  · obtain ⟨p, v, lo, hi, rfl, hv, hQ⟩ := h
    refine ⟨_, pss_one (ps_ret (pe_and (pe_callB call_isi (by rfl) T.isi (by decide +kernel) (pa_cons (pv 0) (pa_cons (pe_bltn (v := .ty "int") (by rfl) T.int (by decide +kernel) rfl) pa_nil)))
      (pe_and (pe_not (pe_callB call_isi (by rfl) T.isi (by decide +kernel) (pa_cons (pv 0) (pa_cons (pe_bltn (v := .ty "bool") (by rfl) T.bool (by decide +kernel) rfl) pa_nil))))
        (pe_one (pe_chain op_le op_le (pv 1) (pv 0) (pv 2)))))), ?_⟩
    obtain ⟨t, ty, k1, k2, _⟩ := kit (K := K) hv
    refine ⟨_, rfl, _, _, _, _, _, rfl, .ty _, ty, k1, _, rfl, ?_⟩
    cases v with
    | int i =>
      refine iteT ⟨_, rfl, _, _, _, _, _, rfl, .ty _, ty, k2, _, rfl, _, rfl, iteT ⟨_, rfl, _, rfl, _, _, rfl, rfl, _, rfl, ?_⟩⟩
      cases hlo : decide (lo ≤ i) with
      | true =>
        refine iteT ⟨_, rfl, _, _, rfl, rfl, ?_⟩
        simpa [within, hlo] using hQ
      | false => simpa [within, hlo] using hQ
    | bl b => exact iteT ⟨_, rfl, _, _, _, _, _, rfl, .ty _, ty, k2, _, rfl, _, rfl, hQ⟩
    | _ => exact hQ
theorem scIsNum : FnScope ["value"] ["value"] (defScope sIsNum) := ⟨rfl, rfl, rfl, by decide +kernel, rfl, by decide +kernel, by decide +kernel⟩
theorem ok_isNum {f g : Addr} {fd gd : FuncData} {t : Tok} (F : Fun K "is_number" "is_number" sIsNum f fd) (G : Fun K "is_integer" "is_integer" sIsInt g gd) (b : Binds K gd ["value", "low", "high"] []) (gI : mg "is_integer" = some (.ref g)) (gN : mg "LARGEST_NUMBER" = some (.int 9999 t)) (T : Blt mg) :
    FnOk P w K mg base CX0 2 f fd ["value"] spNum := by
  refine F.ok scIsNum (fun vs H Q E h => ?_) (fun cdv A outer s H vs Q E hr h => ?_)
  · obtain ⟨_, _, rfl, _⟩ := h
    rfl
  · obtain ⟨p, v, rfl, hv, hQ⟩ := h
    refine ⟨_, pss_one (ps_ret (pe_call (ok_isInt G T) hr (by rfl) gI G.kp b .nil pass0 (pa_cons (pv 0) (pa_cons (pe_un un_neg (pe_glob (v := .int 9999) (by rfl) gN ⟨_, rfl⟩)) (pa_cons (pe_glob (v := .int 9999) (by rfl) gN ⟨_, rfl⟩) pa_nil))))), ?_⟩
    exact ⟨_, rfl, _, rfl, p, v, _, _, rfl, hv, hQ⟩
theorem scWhole : FnScope ["_law_value"] ["_law_value"] (defScope sWhole) := ⟨rfl, rfl, rfl, by decide +kernel, rfl, by decide +kernel, by decide +kernel⟩
theorem ok_whole {f : Addr} {fd : FuncData} (F : Fun K "_law_whole" "_law_whole" sWhole f fd) (T : Blt mg) : FnOk P w K mg base CX0 1 f fd ["_law_value"] spWhole := by
  refine F.ok scWhole (fun vs H Q E h => ?_) (fun cdv A outer s H vs Q E hr h => ?_)
  · obtain ⟨_, _, rfl, _⟩ := h
    rfl
  · obtain ⟨p, v, rfl, hv, hQ⟩ := h
    refine ⟨_, pss_one (ps_ret (pe_and (pe_callB call_isi (by rfl) T.isi (by decide +kernel) (pa_cons (pv 0) (pa_cons (pe_bltn (v := .ty "int") (by rfl) T.int (by decide +kernel) rfl) pa_nil)))
      (pe_one (pe_not (pe_callB call_isi (by rfl) T.isi (by decide +kernel) (pa_cons (pv 0) (pa_cons (pe_bltn (v := .ty "bool") (by rfl) T.bool (by decide +kernel) rfl) pa_nil))))))), ?_⟩
    obtain ⟨t, ty, k1, k2, _⟩ := kit (K := K) hv
    refine ⟨_, rfl, _, _, _, _, _, rfl, .ty _, ty, k1, _, rfl, ?_⟩
    cases v with
    | int i => exact iteT ⟨_, rfl, _, _, _, _, _, rfl, .ty _, ty, k2, _, rfl, hQ⟩
    | bl b => exact iteT ⟨_, rfl, _, _, _, _, _, rfl, .ty _, ty, k2, _, rfl, hQ⟩
    | _ => exact hQ
theorem scIsWord : FnScope ["value"] ["value"] (defScope sIsWord) := ⟨rfl, rfl, rfl, by decide +kernel, rfl, by decide +kernel, by decide +kernel⟩
theorem ok_isWord {f : Addr} {fd : FuncData} {t2 : Tok} (F : Fun K "is_word" "is_word" sIsWord f fd) (gW : mg "LONGEST_WORD" = some (.int 6 t2)) (T : Blt mg) :
    FnOk P w K mg base CX0 1 f fd ["value"] spWord := by
  refine F.ok scIsWord (fun vs H Q E h => ?_) (fun cdv A outer s H vs Q E hr h => ?_)
  · obtain ⟨_, _, rfl, _⟩ := h
    rfl
  · obtain ⟨p, v, rfl, hv, hQ⟩ := h
    have nd := scIsWord.nd
    refine ⟨_, pss_cons (ps_if (PW.pt (pw_or (pt_not (pt_val (pe_callB call_isi (by rfl) T.isi (by decide +kernel) (pa_cons (pv 0) (pa_cons (pe_bltn (v := .ty "str") (by rfl) T.str (by decide +kernel) rfl) pa_nil)))))
        (pw_or1 (pt_not (pt_chain op_le op_le pe_int (pe_callB call_len_str (by rfl) T.len PySem.boot_len (pa_cons (pv 0) pa_nil)) (pe_glob (v := .int 6) (by rfl) gW ⟨_, rfl⟩))))))
        (pss_one (ps_ret pe_bl)) pss_nil)
      (pss_one (ps_ret (pe_and (pe_m0 PySem.F.slot_str_isascii PySem.F.type_str_isascii mt_isascii (pv 0))
        (pe_and (pe_m0 PySem.F.slot_str_isalpha PySem.F.type_str_isalpha mt_isalpha (pv 0)) (pe_one (pe_m0 PySem.F.slot_str_islower PySem.F.type_str_islower mt_islower (pv 0))))))), ?_⟩
    obtain ⟨t, ty, _, _, k3⟩ := kit (K := K) hv
    refine ⟨_, rfl, _, _, _, _, _, rfl, .ty _, ty, k3, ?_⟩
    refine ⟨_, rfl, ?_⟩
    cases v with
    | str z =>
      have hz : z.length ≤ 1000 := by
        cases hv with
        | str _ h => exact h.1
      have hs : z.length ≤ sizeLine := Nat.le_trans hz (by decide)
      refine iteF ⟨_, rfl, _, rfl, hs, _, _, rfl, rfl, _, rfl, ?_⟩
      cases h1 : decide ((1 : Int) ≤ (z.length : Int)) with
      | false =>
        have hn : word (.str z) = false := by
          have : ¬ 1 ≤ z.length := by
            have := of_decide_eq_false h1
            omega
          simp [word, this]
        rw [hn] at hQ
        exact ⟨_, rfl, hQ H (Same.refl H)⟩
      | true =>
        refine iteT ⟨_, _, rfl, rfl, _, rfl, ?_⟩
        cases h6 : decide ((z.length : Int) ≤ 6) with
        | false =>
          have hn : word (.str z) = false := by
            have : ¬ z.length ≤ 6 := by
              have := of_decide_eq_false h6
              omega
            simp [word, this]
          rw [hn] at hQ
          exact hQ H (Same.refl H)
        | true =>
          have a1 : 1 ≤ z.length := by
            have := of_decide_eq_true h1
            omega
          have hw : word (.str z) = z.cps.toList.all az := by
            have a2 : z.length ≤ 6 := by
              have := of_decide_eq_true h6
              omega
            simp [word, a1, a2]
          rw [hw, ← word_asc z a1] at hQ
          refine iteF ⟨_, rfl, ⟨_, rfl⟩, _, rfl, rfl, trivial, _, rfl, ?_⟩
          cases e1 : Txt.isascii z with
          | false =>
            rw [e1] at hQ
            exact hQ H (Same.refl H)
          | true =>
            rw [e1] at hQ
            refine iteT ⟨_, rfl, ⟨_, rfl⟩, _, rfl, rfl, trivial, _, rfl, ?_⟩
            cases e2 : Txt.isalpha z with
            | false =>
              rw [e2] at hQ
              exact hQ H (Same.refl H)
            | true =>
              rw [e2] at hQ
              exact iteT ⟨_, rfl, ⟨_, rfl⟩, _, rfl, rfl, trivial, hQ H (Same.refl H)⟩
    | _ => exact hQ H (Same.refl H)
end
end Bxs
namespace Bxs
open PySem L2
theorem joinL_nil : ∀ xs : List (List Nat), TL.joinL [] xs = xs.flatten
  | [] => rfl
  | [p] => by simp [TL.joinL]
  | p :: q :: r => by
    show p ++ ([] ++ TL.joinL [] (q :: r)) = _
    rw [joinL_nil (q :: r)]
    simp
theorem join_len (ys : List Str) (h : ∀ y ∈ ys, y.length = 1) : (Txt.join ("" : Str) ys).length = ys.length := by
  rw [len_list, TL.join_eq]
  show (TL.tl (Str.join ("" : Str) ys)).length = _
  rw [TL.tl_join]
  show (TL.joinL [] (ys.map TL.tl)).length = _
  rw [joinL_nil]
  induction ys with
  | nil => rfl
  | cons y ys ih =>
    have h1 := h y (List.mem_cons_self ..)
    have h2 := ih fun z hz => h z (List.mem_cons_of_mem _ hz)
    have h3 : (TL.tl y).length = 1 := h1
    simp only [List.map_cons, List.flatten_cons, List.length_append, List.length_cons, h2, h3]
    omega
theorem sum_len (ys : List Str) (h : ∀ y ∈ ys, y.length = 1) : (ys.map (·.length)).sum = ys.length := by
  induction ys with
  | nil => rfl
  | cons y ys ih =>
    have h1 := h y (List.mem_cons_self ..)
    have h2 := ih fun z hz => h z (List.mem_cons_of_mem _ hz)
    simp only [List.map_cons, List.sum_cons, List.length_cons, h1, h2]
    omega
theorem at_mem {α : Type} {xs : List α} {d : Int} (h0 : 0 ≤ d) (h1 : d < (xs.length : Int)) : ∃ v, atI xs d = some v ∧ v ∈ xs := by
  obtain ⟨j, rfl⟩ := Int.eq_ofNat_of_zero_le h0
  have hj : j < xs.length := by omega
  exact ⟨xs[j], atI_nat (by simp [hj]), List.getElem_mem hj⟩
theorem at_int {ns : List Int} {d : Int} (h0 : 0 ≤ d) (h1 : d < (ns.length : Int)) : ∃ n, atI (ns.map V.int) d = some (V.int n) := by
  obtain ⟨j, rfl⟩ := Int.eq_ofNat_of_zero_le h0
  have hj : j < ns.length := by omega
  exact ⟨ns[j], atI_nat (by simp [hj])⟩
theorem dp_signs {K : PySem.W.Frag} {H : Hp} : ∀ cs : List Nat, DpAll K H (cs.map (fun c => V.str ⟨#[c]⟩)) (cs.map (fun c => PyData.str ⟨#[c]⟩))
  | [] => .nil
  | _ :: cs => .cons (.str _) (dp_signs cs)
theorem can_signs : ∀ cs : List Nat, (∀ c ∈ cs, c < 128) → PyData.canLayAll0 (cs.map (fun c => PyData.str ⟨#[c]⟩)) = true
  | [], _ => rfl
  | c :: cs, h => by
    have h1 := h c (List.mem_cons_self ..)
    have h2 : PyData.canLay0 (.str ⟨#[c]⟩) = true := by
      rw [PyData.canLay0]
      have : c < 0x110000 := by omega
      simp [PyData.strOk, this]
    rw [List.map_cons, PyData.canLayAll0, can_signs cs fun x hx => h x (List.mem_cons_of_mem _ hx), h2]
    rfl
theorem deep_signs : ∀ cs : List Nat, PyData.depthAll (cs.map (fun c => PyData.str ⟨#[c]⟩)) ≤ 1
  | [] => by simp [PyData.depthAll]
  | _ :: cs => by
    have := deep_signs cs
    rw [List.map_cons, PyData.depthAll, PyData.depth]
    omega
theorem shaped_signs (cs : List Nat) (hc : ∀ c ∈ cs, c < 128) : SeqAt.shaped (.list (cs.map (fun c => PyData.str ⟨#[c]⟩))) = true := by
  have h := deep_signs cs
  unfold SeqAt.shaped
  rw [PyData.canLay0, can_signs cs hc]
  have h2 : PyData.depth (.list (cs.map (fun c => PyData.str ⟨#[c]⟩))) ≤ 64 := by
    rw [PyData.depth]
    omega
  simp [h2]
theorem none_left (cs : List Nat) : PyData.eqv (.list ((cs.filter fun c => !az c).map (fun c => PyData.str ⟨#[c]⟩))) (.list []) = cs.all az := by
  rw [PyData.eqv]
  induction cs with
  | nil => rfl
  | cons c cs ih =>
    cases h : az c with
    | true => simp [List.filter_cons, h, ih]
    | false => simp [List.filter_cons, h, PyData.eqvAll]
theorem le_a (c : Nat) : (!decide ((⟨#[c]⟩ : Str).cps.toList < ("a" : Str).cps.toList)) = decide (97 ≤ c) := by
  have e : ("a" : Str).cps.toList = [97] := by decide +kernel
  rw [e]
  show (!decide ([c] < [97])) = _
  rw [← decide_not]
  exact decide_eq_decide.mpr (by rw [List.cons_lt_cons_iff]; simp)
theorem le_z (c : Nat) : (!decide (("z" : Str).cps.toList < (⟨#[c]⟩ : Str).cps.toList)) = decide (c ≤ 122) := by
  have e : ("z" : Str).cps.toList = [122] := by decide +kernel
  rw [e]
  show (!decide ([122] < [c])) = _
  rw [← decide_not]
  exact decide_eq_decide.mpr (by rw [List.cons_lt_cons_iff]; simp)

def spInteger : Sp := fun vs H Q _ => ∃ p : Addr, vs = [.ref p] ∧ Bx H p ∧ ∀ (n : Int) (H' : Hp), Al p H H' → Q (.int n) H'
def spOther : Sp := fun vs H Q _ => ∃ p : Addr, vs = [.ref p] ∧ Bx H p ∧ ∀ (v : V) (H' : Hp), Ov p H' v → Al p H H' → Q v H'
def spString : Sp := fun vs H Q _ => ∃ p : Addr, vs = [.ref p] ∧ Bx H p ∧ ∀ (z : Str) (H' : Hp), Gd z → Al p H H' → Q (.str z) H'

section
variable {P : Program} {w : World} {K : PySem.W.Frag} {mg : Str → Option Value} {base : Heap}
theorem scInteger : FnScope ["_law_box_here", "_law_first"] ["_law_box_here"] (defScope sInteger) := ⟨rfl, rfl, rfl, by decide +kernel, rfl, by decide +kernel, by decide +kernel⟩
theorem ok_integer {f g : Addr} {fd gd : FuncData} (F : Fun K "_law_integer" "_law_integer" sInteger f fd) (G : Fun K "_law_take" "_law_take" sTake g gd) (b : Binds K gd ["_law_box_here", "_law_size"] []) (gT : mg "_law_take" = some (.ref g)) (T : Blt mg) :
    FnOk P w K mg base CX0 2 f fd ["_law_box_here"] spInteger := by
  refine F.ok scInteger (fun vs H Q E h => ?_) (fun cdv A outer s H vs Q E hr h => ?_)
  · obtain ⟨_, rfl, _⟩ := h
    rfl
  · obtain ⟨p, rfl, hB, hQ⟩ := h
    have nd := scInteger.nd
    have GT := ok_take (P := P) (w := w) (base := base) G T.int
    refine ⟨_, pss_cons (ps_set (i := 1) nd rfl (Or.inl rfl) (pe_ix ix_list (pe_lst (pa_cons (pe_un un_neg pe_int) (pa_cons pe_int (pa_cons pe_int (pa_cons (pe_op op_pow pe_int pe_int) (pa_cons (pe_un un_neg (pe_op op_pow pe_int pe_int)) (pa_cons pe_int pa_nil)))))))
        (pe_call GT hr (by rfl) gT G.kp b .nil pass0 (pa_cons (pv 0) (pa_cons pe_int pa_nil))) (fun _ _ => rfl)))
      (pss_one (ps_ret (pe_op op_sub (pe_op op_add (pv 1) (pe_call GT hr (by rfl) gT G.kp b .nil pass0 (pa_cons (pv 0) (pa_cons pe_int pa_nil)))) pe_int))), ?_⟩
    refine ⟨_, rfl, _, _, rfl, rfl, ⟨by decide, by decide, by decide⟩, _, _, rfl, rfl, ⟨by decide, by decide, by decide⟩, _, rfl, by show 6 ≤ sizeLine; decide, fun l hl => ?_⟩
    refine ⟨_, rfl, p, 6, rfl, hB.up hl, by decide, by decide, fun d H2 h0 h1 tk => ?_⟩
    have hL := (tk.2 l (hB.ne hl).symm).trans upd_same
    obtain ⟨v, hv⟩ := at_int (ns := [-9999, 9999, 0, 10 ^ (29 : Int).toNat, -10 ^ (29 : Int).toNat, 1]) h0 (by simpa using h1)
    refine ⟨l, _, d, .int v, rfl, rfl, SqL.of hL, hv, ?_⟩
    refine ⟨_, rfl, _, rfl, p, 5, rfl, tk.1, by decide, by decide, fun d2 H3 _ _ tk2 => ?_⟩
    exact ⟨_, _, rfl, rfl, _, _, rfl, rfl, hQ _ _ ((Al.up hB hl).trans (tk.al.trans tk2.al))⟩

theorem scLetters : FnScope ["_law_text", "_law_sign"] ["_law_text"] (defScope sLetters) := ⟨rfl, rfl, rfl, by decide +kernel, rfl, by decide +kernel, by decide +kernel⟩
theorem ok_letters {f : Addr} {fd : FuncData} (F : Fun K "_law_letters" "_law_letters" sLetters f fd) : FnOk P w K mg base CX0 1 f fd ["_law_text"] spLetters := by
  refine F.ok scLetters (fun vs H Q E h => ?_) (fun cdv A outer s H vs Q E hr h => ?_)
  · obtain ⟨_, rfl, _⟩ := h
    rfl
  · obtain ⟨z, rfl, hz, hQ⟩ := h
    have nd := scLetters.nd
    refine ⟨_, pss_one (ps_ret (pe_cmpR (op_eqD hr.units) (pe_lc (own := [("_law_sign", 1)]) (g := gName 1) rfl nd (pi_str (pv 0)) (blkOk_by (own := [("_law_sign", 1)]) (N := ["_law_text", "_law_sign"]) (sc := defScope sLetters) (by decide +kernel))
          (fun _ _ _ _ _ => pg_name (i := 1) nd rfl (Or.inl rfl)) (fun _ _ _ _ _ => pts_one (pt_not (pt_chain op_le_str op_le_str pe_str (pv 1) pe_str))) (fun _ _ _ _ _ => pv 1)) (pe_lst pa_nil) (nomark _))), ?_⟩
    refine ⟨_, rfl, _, rfl, fun D hD => ?_⟩
    refine lc_it walk_str (fun i H' => Same H H' ∧ H' D = some (.lst (((z.cps.toList.take i).filter (fun c => !az c)).map (fun c => V.str ⟨#[c]⟩)))) ⟨fun q o e => by rw [upd_ne (ne_of_none e hD)]; exact e, upd_same⟩ (fun _ _ _ _ => trivial) ?_ ?_
    · rintro i x H2 H1 hi ⟨s1, d1⟩ ⟨rfl, c, hc, rfl⟩
      have ec : z.cps.toList[i]? = some c := by simpa using hc
      refine ⟨rfl, ?_⟩
      refine ⟨_, rfl, _, _, rfl, rfl, ?_⟩
      rw [le_a]
      refine ⟨_, rfl, ?_⟩
      have stay : az c = true → Same H H1 ∧ H1 D = some (.lst (((z.cps.toList.take (i + 1)).filter (fun c => !az c)).map (fun c => V.str ⟨#[c]⟩))) := fun hc => by
        rw [List.take_add_one, ec]
        simp only [Option.toList, List.filter_append, List.filter_cons, hc]
        simpa using ⟨s1, d1⟩
      have grow : az c = false → ∃ acc, H1 D = some (.lst acc) ∧ acc.length < sizeLine ∧ Same H (upd H1 D (.lst (acc ++ [V.str ⟨#[c]⟩]))) ∧
          upd H1 D (.lst (acc ++ [V.str ⟨#[c]⟩])) D = some (.lst (((z.cps.toList.take (i + 1)).filter (fun c => !az c)).map (fun c => V.str ⟨#[c]⟩))) := fun hc => by
        refine ⟨_, d1, ?_, ?_, ?_⟩
        · have : i ≤ 1000 := Nat.le_trans (Nat.le_of_lt hi) hz.1
          rw [List.length_map]
          exact Nat.lt_of_le_of_lt (Nat.le_trans (List.length_filter_le ..) (Nat.le_trans (by rw [List.length_take]; exact Nat.min_le_left ..) this)) (by decide)
        · intro q o e
          rw [upd_ne (fun z => by subst z; rw [hD] at e; cases e)]
          exact s1 _ _ e
        · rw [upd_same, List.take_add_one, ec]
          simp [List.filter_append, List.filter_cons, hc]
      cases ha : decide (97 ≤ c) with
      | false => exact ⟨_, rfl, _, rfl, grow (by simp [az, ha])⟩
      | true =>
        refine iteT ⟨_, _, rfl, rfl, _, rfl, ?_⟩
        rw [le_z]
        cases hb : decide (c ≤ 122) with
        | false => exact ⟨_, rfl, grow (by simp [az, ha, hb])⟩
        | true => exact stay (by simp [az, ha, hb])
    · rintro H1 ⟨s1, d1⟩
      have e : z.cps.toList.take z.cps.size = z.cps.toList := by rw [List.take_of_length_le (by simp)]
      rw [e] at d1
      refine ⟨Nat.zero_le _, fun e2 n2 => ?_⟩
      have ne : D ≠ e2 := ne_of_none d1 n2
      refine ⟨.list _, .list [], .lst (SqL.of (by rw [upd_ne ne]; exact d1)) (dp_signs _), .lst (SqL.of upd_same) .nil, shaped_signs _ (fun c hc => hz.2 c (List.mem_filter.mp hc).1), by rfl, ?_⟩
      rw [none_left]
      exact hQ _ fun q o h => by rw [upd_ne (ne_of_none (s1 _ _ h) n2)]; exact s1 _ _ h

theorem scOther : FnScope ["_law_box_here"] ["_law_box_here"] (defScope sOther) := ⟨rfl, rfl, rfl, by decide +kernel, rfl, by decide +kernel, by decide +kernel⟩
theorem ok_other {f g : Addr} {fd gd : FuncData} (F : Fun K "_law_other" "_law_other" sOther f fd) (G : Fun K "_law_take" "_law_take" sTake g gd) (b : Binds K gd ["_law_box_here", "_law_size"] []) (gT : mg "_law_take" = some (.ref g)) (T : Blt mg) :
    FnOk P w K mg base CX0 2 f fd ["_law_box_here"] spOther := by
  refine F.ok scOther (fun vs H Q E h => ?_) (fun cdv A outer s H vs Q E hr h => ?_)
  · obtain ⟨_, rfl, _⟩ := h
    rfl
  · obtain ⟨p, rfl, B0, hQ⟩ := h
    have GT := ok_take (P := P) (w := w) (base := base) G T.int
    refine ⟨_, pss_one (ps_ret (pe_ix ix_list (pe_lst (pa_cons pe_non (pa_cons pe_bl (pa_cons pe_bl (pa_cons (pe_lst pa_nil) (pa_cons (pe_lst (pa_cons pe_str pa_nil)) (pa_cons (pe_tup (pa_cons pe_str pa_nil))
      (pa_cons pe_dnewK (pa_cons (pe_disp (pps_cons pe_str pe_int pps_nil) (by rfl) (by rfl) (fun z => by cases z) (by decide)) (pa_cons (pe_tup (pa_cons pe_int pa_nil)) (pa_cons (pe_lst (pa_cons pe_int pa_nil)) pa_nil)))))))))))
      (pe_call GT hr (by rfl) gT G.kp b .nil pass0 (pa_cons (pv 0) (pa_cons pe_int pa_nil))) (fun _ _ => rfl))), ?_⟩
    refine ⟨Nat.zero_le _, fun l1 n1 => ⟨by show 1 ≤ sizeLine; decide, fun l2 n2 => ⟨by show 1 ≤ sizeLine; decide, fun l3 n3 => fun l4 n4 => fun l5 n5 => ⟨upd_same, [(Sum.inr "a", .int 1)], rfl, by decide, by show 1 ≤ sizeLine; decide, fun l6 n6 => ⟨by show 1 ≤ sizeLine; decide, fun l7 n7 => ⟨by show 10 ≤ sizeLine; decide, fun l8 n8 => ?_⟩⟩⟩⟩⟩⟩
    rw [upd_upd]
    have B1 := B0.up (o := .lst []) n1
    have B2 := B1.up (o := .lst [.str "a"]) n2
    have B3 := B2.up (o := .tup [.str "a"]) n3
    have B4 := B3.up (o := .dK []) n4
    have n5' := n5
    have B5 := B4.up (o := .dK (mergeK [] [(Sum.inr "a", .int 1)])) n5
    rw [upd_upd] at n6 n7 n8
    have B6 := B5.up (o := .tup [.int 3]) n6
    have B7 := B6.up (o := .lst [.int 7]) n7
    have a1 := Al.up (o := .lst []) B0 n1
    have a2 := Al.up (o := .lst [.str "a"]) B1 n2
    have a3 := Al.up (o := .tup [.str "a"]) B2 n3
    have a4 := Al.up (o := .dK []) B3 n4
    have a5 := Al.up (o := .dK (mergeK [] [(Sum.inr "a", .int 1)])) B4 n5
    have a6 := Al.up (o := .tup [.int 3]) B5 n6
    have a7 := Al.up (o := .lst [.int 7]) B6 n7
    refine ⟨_, rfl, p, 10, rfl, B7.up n8, by decide, by decide, fun d H2 h0 h1 tk => ?_⟩
    have a8 := (Al.up B7 n8).trans tk.al
    have hL := (tk.2 l8 (B7.ne n8).symm).trans upd_same
    have o7 := (Ov.lst (B6.ne n7).symm (H := upd _ l7 _) upd_same).al a8
    have o6 := (Ov.tup (B5.ne n6).symm (H := upd _ l6 _) upd_same).al (a7.trans a8)
    have o5 := (Ov.dct (B4.ne n5).symm (H := upd _ l5 _) upd_same).al (a6.trans (a7.trans a8))
    have o4 := (Ov.dct (B3.ne n4).symm (H := upd _ l4 _) upd_same).al (a5.trans (a6.trans (a7.trans a8)))
    have o3 := (Ov.tup (B2.ne n3).symm (H := upd _ l3 _) upd_same).al (a4.trans (a5.trans (a6.trans (a7.trans a8))))
    have o2 := (Ov.lst (B1.ne n2).symm (H := upd _ l2 _) upd_same).al (a3.trans (a4.trans (a5.trans (a6.trans (a7.trans a8)))))
    have o1 := (Ov.lst (B0.ne n1).symm (H := upd _ l1 _) upd_same).al (a2.trans (a3.trans (a4.trans (a5.trans (a6.trans (a7.trans a8))))))
    obtain ⟨v, hv, hm⟩ := at_mem (xs := [V.non, V.bl true, V.bl false, V.ref l1, V.ref l2, V.ref l3, V.ref l4, V.ref l5, V.ref l6, V.ref l7]) h0 (by simpa using h1)
    refine ⟨l8, _, d, v, rfl, rfl, SqL.of hL, hv, hQ _ _ ?_ (a1.trans (a2.trans (a3.trans (a4.trans (a5.trans (a6.trans (a7.trans a8)))))))⟩
    simp only [List.mem_cons, List.not_mem_nil, or_false] at hm
    rcases hm with rfl | rfl | rfl | rfl | rfl | rfl | rfl | rfl | rfl | rfl
    · exact .non
    · exact .bl _
    · exact .bl _
    all_goals assumption
end
end Bxs
namespace Bxs
open PySem L2
theorem gd_of {z : Str} (h : z.length ≤ 1000) (h2 : ∀ c ∈ z.cps.toList, c < 128) : Gd z := ⟨h, h2⟩
theorem Gd.cut {z : Str} (h : Gd z) (lo hi : Option Int) : ∀ c ∈ (cutS z lo hi).cps.toList, c < 128 := by
  intro c hc
  unfold cutS at hc
  have : c ∈ z.cps.toList := List.mem_of_mem_drop (List.mem_of_mem_take (by simpa using hc))
  exact h.2 c this
theorem toList_app (x y : Str) : (x ++ y).cps.toList = x.cps.toList ++ y.cps.toList := by
  show (x.cps ++ y.cps).toList = _
  simp
theorem len_app (x y : Str) : (x ++ y).length = x.length + y.length := by
  rw [len_list, len_list, len_list, toList_app, List.length_append]
/-- a text of signs -/
theorem join_gd (ys : List Str) (h : ∀ y ∈ ys, ∃ c, c < 128 ∧ y = ⟨#[c]⟩) : (∀ y ∈ ys, y.length = 1) ∧ ∀ c ∈ (Txt.join ("" : Str) ys).cps.toList, c < 128 := by
  refine ⟨fun y hy => ?_, fun c hc => ?_⟩
  · obtain ⟨c, _, rfl⟩ := h y hy
    rfl
  · rw [TL.join_eq] at hc
    have hc' : c ∈ TL.tl (Str.join ("" : Str) ys) := hc
    rw [TL.tl_join] at hc'
    have hc2 : c ∈ TL.joinL [] (ys.map TL.tl) := hc'
    rw [joinL_nil, List.mem_flatten] at hc2
    obtain ⟨l, hl, hcl⟩ := hc2
    obtain ⟨y, hy, rfl⟩ := List.mem_map.mp hl
    obtain ⟨e, he, rfl⟩ := h y hy
    have : c = e := by simpa [TL.tl] using hcl
    omega
section
variable {P : Program} {w : World} {K : PySem.W.Frag} {mg : Str → Option Value} {base : Heap}
theorem scString : FnScope ["_law_box_here", "_law_letters_here", "_law_signs", "_law_word", "_law_at", "_law_k"] ["_law_box_here"] (defScope sString) := ⟨rfl, rfl, rfl, by decide +kernel, rfl, by decide +kernel, by decide +kernel⟩
theorem letters_gd : ∀ c ∈ ("abcdefghijklmnopqrstuvwxyz" : Str).cps.toList, c < 128 := by decide +kernel
theorem letters_len : (("abcdefghijklmnopqrstuvwxyz" : Str).cps.toList.length) = 26 := by decide +kernel
abbrev signs : Str := " !\"#$&'()*+,-./0123456789:;<=>?@ABCDEFGHIJKLMNOPQRSTUVWXYZ[\\]^_`abcdefghijklmnopqrstuvwxyz{|}~\n"
theorem signs_gd : ∀ c ∈ signs.cps.toList, c < 128 := by decide +kernel
theorem signs_len : signs.cps.toList.length = 95 := by decide +kernel
theorem ok_string {f g : Addr} {fd gd : FuncData} (F : Fun K "_law_string" "_law_string" sString f fd) (G : Fun K "_law_take" "_law_take" sTake g gd) (b : Binds K gd ["_law_box_here", "_law_size"] []) (gT : mg "_law_take" = some (.ref g)) (T : Blt mg) :
    FnOk P w K mg base CX0 2 f fd ["_law_box_here"] spString := by
  refine F.ok scString (fun vs H Q E h => ?_) (fun cdv A outer s H vs Q E hr h => ?_)
  · obtain ⟨_, rfl, _⟩ := h
    rfl
  · obtain ⟨p, rfl, B0, hQ⟩ := h
    have nd := scString.nd
    have GT := ok_take (P := P) (w := w) (base := base) G T.int
    refine ⟨_, pss_cons (ps_set (i := 1) nd rfl (Or.inr rfl) pe_str) (pss_cons (ps_set (i := 2) nd rfl (Or.inl rfl) pe_str)
      (pss_cons (ps_set (i := 3) nd rfl (Or.inl rfl) (pe_join pe_str (pe_lc (own := [("_law_k", 5)]) (g := gName 5) (tt := tYes) rfl nd
          (pi_range1 (by rfl) T.rng (pa_cons (pe_call GT hr (by rfl) gT G.kp b .nil pass0 (pa_cons (pv 0) (pa_cons pe_int pa_nil))) pa_nil))
          (blkOk_by (own := [("_law_k", 5)]) (N := ["_law_box_here", "_law_letters_here", "_law_signs", "_law_word", "_law_at", "_law_k"]) (sc := defScope sString) (by decide +kernel))
          (fun _ _ _ _ _ => pg_name (i := 5) nd rfl (Or.inl rfl)) (fun _ _ _ _ _ => pts_nil)
          (fun _ _ _ _ _ => pe_ix ix_str (pv 1) (pe_call GT hr (by rfl) gT G.kp b .nil pass0 (pa_cons (pv 0) (pa_cons pe_int pa_nil))) (fun _ _ => rfl)))))
      (pss_cons (ps_if (PW.pt (pw_or (pt_cmpR op_eq (pe_call GT hr (by rfl) gT G.kp b .nil pass0 (pa_cons (pv 0) (pa_cons pe_int pa_nil))) pe_int (nomark _)) (pw_or1 (pt_cmpR op_eq (pv 3) pe_str (nomark _)))))
        (pss_one (ps_ret (pv 3))) pss_nil)
      (pss_cons (ps_set (i := 4) nd rfl (Or.inl rfl) (pe_call GT hr (by rfl) gT G.kp b .nil pass0 (pa_cons (pv 0) (pa_cons (pe_callB call_len_str (by rfl) T.len PySem.boot_len (pa_cons (pv 3) pa_nil)) pa_nil))))
      (pss_one (ps_ret (pe_op op_add_str (pe_op op_add_str (pe_slice sl_str (pv 3) po_none (po_some (pv 4)))
          (pe_ix ix_str (pv 2) (pe_call GT hr (by rfl) gT G.kp b .nil pass0 (pa_cons (pv 0) (pa_cons (pe_callB call_len_str (by rfl) T.len PySem.boot_len (pa_cons (pv 2) pa_nil)) pa_nil))) (fun _ _ => rfl)))
        (pe_slice sl_str (pv 3) (po_some (pe_op op_add (pv 4) pe_int)) po_none)))))))), ?_⟩
    -- the word: up to eight letters
    refine ⟨⟨_, rfl⟩, _, rfl, p, 9, rfl, B0, by decide, by decide, fun m H1 hm0 hm9 tk1 => ⟨_, rfl, by omega, by omega, fun D hD => ?_⟩⟩
    have nDp : D ≠ p := (tk1.1.ne hD).symm
    refine lc_range (lo := 0) (n := m.toNat) (fun i H' => Al p H1 H' ∧ ∃ ys : List Str, H' D = some (.lst (ys.map V.str)) ∧ ys.length = i ∧ ∀ y ∈ ys, ∃ c, c < 128 ∧ y = ⟨#[c]⟩)
      ⟨Al.up tk1.1 hD, [], upd_same, rfl, fun y hy => nomatch hy⟩ ?_ ?_
    · rintro i H2 hi ⟨k2, ys, d2, el, hy⟩
      refine ⟨rfl, yes_of ?_⟩
      refine ⟨_, rfl, _, rfl, p, 26, rfl, k2.1, by decide, by decide, fun d H3 h0 h1 tk3 => ?_⟩
      obtain ⟨c, hc, hm⟩ := at_mem (xs := ("abcdefghijklmnopqrstuvwxyz" : Str).cps.toList) h0 (by rw [letters_len]; exact h1)
      refine ⟨_, _, c, rfl, rfl, by decide +kernel, hc, _, (tk3.2 D nDp).trans d2, ?_, ?_⟩
      · rw [List.length_map, el]
        exact Nat.lt_of_lt_of_le (show i < 10 by omega) (by decide)
      · refine ⟨⟨?_, fun q o n e => ?_⟩, ys ++ [⟨#[c]⟩], by rw [upd_same, List.map_append]; rfl, by simp [el], fun y h => ?_⟩
        · obtain ⟨a1, a2, a3, e⟩ := tk3.1
          exact ⟨a1, a2, a3, by rw [upd_ne nDp.symm]; exact e⟩
        · rw [upd_ne (fun z => by subst z; rw [hD] at e; cases e)]
          exact (tk3.2 q n).trans (k2.2 q o n e)
        · rcases List.mem_append.mp h with h | h
          · exact hy y h
          · exact ⟨c, letters_gd c hm, by simpa using h⟩
    · rintro H2 ⟨k2, ys, d2, el, hy⟩
      obtain ⟨hone, hsig⟩ := join_gd ys hy
      have hlen := join_len ys hone
      have hsum := sum_len ys hone
      have hm : m.toNat ≤ 8 := by omega
      generalize hw : Txt.join ("" : Str) ys = wd at hsig hlen
      have gw : Gd wd := ⟨by omega, hsig⟩
      have line : ∀ n : Nat, n ≤ 1000 → n ≤ sizeLine := fun n h => Nat.le_trans h (by decide)
      refine ⟨_, _, ys, rfl, rfl, .inl (SqL.of d2), by rw [hsum]; show ys.length + ys.length * 0 ≤ 16777216; omega, ?_⟩
      rw [hw]
      refine ⟨_, rfl, p, 2, rfl, k2.1, by decide, by decide, fun d H3 _ _ tk3 => ⟨rfl, _, rfl, ?_⟩⟩
      have al3 : Al p H H3 := tk1.al.trans (k2.trans tk3.al)
      cases hd0 : decide (V.int d = V.int 0) with
      | true => exact ⟨_, rfl, hQ wd H3 gw al3⟩
      | false =>
        refine iteF ⟨_, rfl, rfl, _, rfl, ?_⟩
        cases he : decide (V.str wd = V.str "") with
        | true => exact ⟨_, rfl, hQ wd H3 gw al3⟩
        | false =>
          have hne : 0 < wd.length := by
            rcases Nat.eq_zero_or_pos wd.length with h | h
            · exfalso
              have h' : wd.cps.toList = ("" : Str).cps.toList := List.eq_nil_of_length_eq_zero h
              exact of_decide_eq_false he (congrArg V.str (PySem.Str.ext' (Array.toList_inj.mp h')))
            · exact h
          refine ⟨_, rfl, _, rfl, _, rfl, line _ gw.1, p, _, rfl, tk3.1, by omega, by omega, fun d4 H4 h40 h4l tk4 => ?_⟩
          refine ⟨_, rfl, _, rfl, _, rfl, _, rfl, line _ gw.1, _, rfl, _, rfl, _, rfl, _, rfl, by decide +kernel, p, _, rfl, tk4.1, by decide +kernel, by decide +kernel, fun d5 H5 h50 h5l tk5 => ?_⟩
          obtain ⟨c, hc, hcm⟩ := at_mem (xs := signs.cps.toList) h50 h5l
          have hx := cutS_length wd (none : Option Int) (some d4)
          have hy := cutS_length wd (some (d4 + 1)) (none : Option Int)
          have h1 : (⟨#[c]⟩ : Str).length = 1 := rfl
          have l1 := len_app (cutS wd none (some d4)) ⟨#[c]⟩
          have l2 := len_app (cutS wd none (some d4) ++ ⟨#[c]⟩) (cutS wd (some (d4 + 1)) none)
          refine ⟨_, _, c, rfl, rfl, by decide +kernel, hc, _, _, rfl, rfl, line _ (by omega), ?_⟩
          refine ⟨_, rfl, _, rfl, _, _, rfl, rfl, _, rfl, _, rfl, line _ gw.1, _, _, rfl, rfl, line _ (by omega), ?_⟩
          refine hQ _ H5 ⟨by omega, fun e he => ?_⟩ (al3.trans (tk4.al.trans tk5.al))
          rw [toList_app, toList_app, List.mem_append, List.mem_append] at he
          rcases he with (he | he) | he
          · exact gw.cut _ _ e he
          · have : e = c := by simpa using he
            rw [this]
            exact signs_gd c hcm
          · exact gw.cut _ _ e he
end
end Bxs
namespace Bxs
open PySem L2
theorem pe_as {X : Cx} {e : Expr} {t t' : TE} (h : PE X e t) (k : ∀ σ H Q, t' σ H Q → t σ H Q) : PE X e t' := ⟨fun pins s σ H Q I q => h.run pins s σ H Q I (k σ H Q q)⟩
theorem same_al {p : Addr} {H H1 H2 : Hp} (hp : H p = none) (s : Same H H1) (k : Al p H1 H2) : Same H H2 := fun q o e =>
  k.2 q o (fun z => by subst z; rw [hp] at e; cases e) (s q o e)
def tW (lo hi : Nat) (x : Nat) : TE := fun σ H Q => ∃ (p : Addr) (v : V) (l h : Int), σ[x]? = some (some v) ∧ σ[lo]? = some (some (.int l)) ∧ σ[hi]? = some (some (.int h)) ∧ Ov p H v ∧ Q (.bl (within l h v)) H
def tN (x : Nat) : TE := fun σ H Q => ∃ (p : Addr) (v : V), σ[x]? = some (some v) ∧ Ov p H v ∧ Q (.bl (within (-9999) 9999 v)) H
def tO (x : Nat) : TE := fun σ H Q => ∃ (p : Addr) (v : V), σ[x]? = some (some v) ∧ Ov p H v ∧ ∀ H', Same H H' → Q (.bl (word v)) H'
def bools (b1 b2 b3 : Bool) : PyData := .list [.bool b1, .bool b2, .bool b3]
theorem bools_ok (b1 b2 b3 : Bool) : (bools b1 b2 b3).showable = true ∧ (bools b1 b2 b3).hasDict = false ∧ (bools b1 b2 b3).depth ≤ 60 ∧ (bools b1 b2 b3).shown.length ≤ sizeLine := by
  refine ⟨?_, ?_, ?_, Nat.le_trans (m := 100) ?_ (by decide)⟩ <;> (cases b1 <;> cases b2 <;> cases b3 <;> decide +kernel)
def spLaw (K : PySem.W.Frag) : Sp := fun vs H Q _ => ∃ (a : Addr) (ns : List Int), vs = [.ref a] ∧ SqL K H a (ns.map V.int) ∧ ns.length ≤ 63 ∧ ∀ H', Q (.bl true) H'
abbrev lawN : List Str := ["_law_script", "_law_k", "_law_box_here", "_law_turn", "_law_low", "_law_high", "_law_number", "_law_odd", "_law_due", "_law_again"]
theorem scLaw : FnScope lawN ["_law_script"] (defScope sLaw) := ⟨rfl, rfl, rfl, by decide +kernel, rfl, by decide +kernel, by decide +kernel⟩
/-- what the top leaves: each def at its place -/
structure Tops (K : PySem.W.Frag) (mg : Str → Option Value) where
  (aInt aWord aNum aCell aBox aTake aOther aString aLetters aWhole aInteger : Addr)
  (dInt dWord dNum dCell dBox dTake dOther dString dLetters dWhole dInteger : FuncData)
  (t1 t2 : Tok)
  B : Blt mg
  gW : mg "LONGEST_WORD" = some (.int 6 t1)
  gN : mg "LARGEST_NUMBER" = some (.int 9999 t2)
  fInt : Fun K "is_integer" "is_integer" sIsInt aInt dInt
  fWord : Fun K "is_word" "is_word" sIsWord aWord dWord
  fNum : Fun K "is_number" "is_number" sIsNum aNum dNum
  fCell : Fun K "_law_cell" "_law_cell" sCell aCell dCell
  fBox : Fun K "_law_box" "_law_box" sBox aBox dBox
  fTake : Fun K "_law_take" "_law_take" sTake aTake dTake
  fOther : Fun K "_law_other" "_law_other" sOther aOther dOther
  fString : Fun K "_law_string" "_law_string" sString aString dString
  fLetters : Fun K "_law_letters" "_law_letters" sLetters aLetters dLetters
  fWhole : Fun K "_law_whole" "_law_whole" sWhole aWhole dWhole
  fInteger : Fun K "_law_integer" "_law_integer" sInteger aInteger dInteger
  gInt : mg "is_integer" = some (.ref aInt)
  gWord : mg "is_word" = some (.ref aWord)
  gNum : mg "is_number" = some (.ref aNum)
  gCell : mg "_law_cell" = some (.ref aCell)
  gBox : mg "_law_box" = some (.ref aBox)
  gTake : mg "_law_take" = some (.ref aTake)
  gOther : mg "_law_other" = some (.ref aOther)
  gString : mg "_law_string" = some (.ref aString)
  gLetters : mg "_law_letters" = some (.ref aLetters)
  gWhole : mg "_law_whole" = some (.ref aWhole)
  gInteger : mg "_law_integer" = some (.ref aInteger)
  bInt : Binds K dInt ["value", "low", "high"] []
  bWord : Binds K dWord ["value"] []
  bNum : Binds K dNum ["value"] []
  bCell : Binds K dCell ["_law_script", "_law_k"] []
  bBox : Binds K dBox ["_law_cell_here"] []
  bTake : Binds K dTake ["_law_box_here", "_law_size"] []
  bOther : Binds K dOther ["_law_box_here"] []
  bString : Binds K dString ["_law_box_here"] []
  bLetters : Binds K dLetters ["_law_text"] []
  bWhole : Binds K dWhole ["_law_value"] []
  bInteger : Binds K dInteger ["_law_box_here"] []
section
variable {P : Program} {w : World} {K : PySem.W.Frag} {mg : Str → Option Value} {base : Heap}
theorem ok_law {f : Addr} {fd : FuncData} (F : Fun K "law" "law" sLaw f fd) (Z : Tops K mg) : Rp.FnG P w K mg base 4 f fd ["_law_script"] (spLaw K) := by
  have T := Z.B
  have GI : FnOk P w K mg base CX0 1 Z.aInt Z.dInt ["value", "low", "high"] spWithin := ok_isInt Z.fInt T
  have GN : FnOk P w K mg base CX0 2 Z.aNum Z.dNum ["value"] spNum := ok_isNum Z.fNum Z.fInt Z.bInt Z.gInt Z.gN T
  have GO : FnOk P w K mg base CX0 1 Z.aWord Z.dWord ["value"] spWord := ok_isWord Z.fWord Z.gW T
  have GC : FnOk P w K mg base CX0 1 Z.aCell Z.dCell ["_law_script", "_law_k"] (spCell K) := ok_cell Z.fCell T.len
  have GB : FnOk P w K mg base CX0 1 Z.aBox Z.dBox ["_law_cell_here"] spBox := ok_box Z.fBox T.max T.int
  have GT : FnOk P w K mg base CX0 1 Z.aTake Z.dTake ["_law_box_here", "_law_size"] spTake := ok_take Z.fTake T.int
  have GV : FnOk P w K mg base CX0 2 Z.aOther Z.dOther ["_law_box_here"] spOther := ok_other Z.fOther Z.fTake Z.bTake Z.gTake T
  have GS : FnOk P w K mg base CX0 2 Z.aString Z.dString ["_law_box_here"] spString := ok_string Z.fString Z.fTake Z.bTake Z.gTake T
  have GL : FnOk P w K mg base CX0 1 Z.aLetters Z.dLetters ["_law_text"] spLetters := ok_letters Z.fLetters
  have GH : FnOk P w K mg base CX0 1 Z.aWhole Z.dWhole ["_law_value"] spWhole := ok_whole Z.fWhole T
  have GR : FnOk P w K mg base CX0 2 Z.aInteger Z.dInteger ["_law_box_here"] spInteger := ok_integer Z.fInteger Z.fTake Z.bTake Z.gTake T
  refine Rp.fnG F scLaw (fun vs H Q E h => ?_) (fun cdv A outer s H vs Q E hg hr h => ?_)
  · obtain ⟨a, ns, rfl, _⟩ := h
    rfl
  · obtain ⟨a, ns, rfl, hS, hlen, hQ⟩ := h
    have nd := scLaw.nd
    have hr1 : Room 1 _ := hr.mono (by decide)
    have hr2 : Room 2 _ := hr.mono (by decide)
    have hu := hr.units
    refine ⟨_, pss_cons (ps_for PassesOwn.never rfl (pi_range1 (by rfl) T.rng (pa_cons (pe_callB (call_max2 rfl) (by rfl) T.max (by decide +kernel) (pa_cons pe_int (pa_cons
          (pe_callB (call_min2 rfl) (by rfl) T.min (by decide +kernel) (pa_cons pe_int (pa_cons (pe_callB call_len_seq (by rfl) T.len PySem.boot_len (pa_cons (pv 0) pa_nil)) pa_nil))) pa_nil))) pa_nil))
        (pg_name (i := 1) nd rfl (Or.inl rfl))
        (pss_cons (ps_set (i := 2) nd rfl (Or.inl rfl) (pe_call GB hr1 (by rfl) Z.gBox Z.fBox.kp Z.bBox .nil pass0 (pa_cons (pe_call GC hr1 (by rfl) Z.gCell Z.fCell.kp Z.bCell .nil pass0 (pa_cons (pv 0) (pa_cons (pv 1) pa_nil))) pa_nil)))
        (pss_one (ps_for PassesOwn.never rfl (pi_range1 (by rfl) T.rng (pa_cons pe_int pa_nil)) (pg_name (i := 3) nd rfl (Or.inl rfl))
          (pss_cons (ps_set (i := 4) nd rfl (Or.inl rfl) (pe_call GR hr2 (by rfl) Z.gInteger Z.fInteger.kp Z.bInteger .nil pass0 (pa_cons (pv 2) pa_nil)))
          (pss_cons (ps_set (i := 5) nd rfl (Or.inl rfl) (pe_ix ix_list (pe_lst (pa_cons (pv 4) (pa_cons (pe_op op_add (pv 4) pe_int) (pa_cons (pe_op op_sub (pv 4) pe_int) (pa_cons
              (pe_call GR hr2 (by rfl) Z.gInteger Z.fInteger.kp Z.bInteger .nil pass0 (pa_cons (pv 2) pa_nil)) pa_nil)))))
            (pe_call GT hr1 (by rfl) Z.gTake Z.fTake.kp Z.bTake .nil pass0 (pa_cons (pv 2) (pa_cons pe_int pa_nil))) (fun _ _ => rfl)))
          (pss_cons (ps_set (i := 6) nd rfl (Or.inl rfl) (pe_ix ix_list (pe_lst (pa_cons (pv 4) (pa_cons (pv 5) (pa_cons (pe_op op_sub (pv 4) pe_int) (pa_cons (pe_op op_add (pv 5) pe_int) (pa_cons
              (pe_call GR hr2 (by rfl) Z.gInteger Z.fInteger.kp Z.bInteger .nil pass0 (pa_cons (pv 2) pa_nil)) pa_nil))))))
            (pe_call GT hr1 (by rfl) Z.gTake Z.fTake.kp Z.bTake .nil pass0 (pa_cons (pv 2) (pa_cons pe_int pa_nil))) (fun _ _ => rfl)))
          (pss_one (ps_for PassesOwn.never rfl (pi_list (pe_lst (pa_cons (pv 6) (pa_cons (pe_call GV hr2 (by rfl) Z.gOther Z.fOther.kp Z.bOther .nil pass0 (pa_cons (pv 2) pa_nil))
              (pa_cons (pe_call GS hr2 (by rfl) Z.gString Z.fString.kp Z.bString .nil pass0 (pa_cons (pv 2) pa_nil)) pa_nil))))) (pg_name (i := 7) nd rfl (Or.inl rfl))
            (pss_cons (ps_set (i := 8) nd rfl (Or.inl rfl) (pe_lst (pa_cons
                (pe_as (t' := tW 4 5 7) (pe_and (pe_call GH hr1 (by rfl) Z.gWhole Z.fWhole.kp Z.bWhole .nil pass0 (pa_cons (pv 7) pa_nil)) (pe_one (pe_chain op_le op_le (pv 4) (pv 7) (pv 5)))) ?e1)
              (pa_cons (pe_as (t' := tN 7) (pe_and (pe_call GH hr1 (by rfl) Z.gWhole Z.fWhole.kp Z.bWhole .nil pass0 (pa_cons (pv 7) pa_nil)) (pe_one (pe_chain op_le op_le (pe_un un_neg pe_int) (pv 7) pe_int))) ?e2) pa_nil))))
            (pss_cons (ps_expr (pe_bm PySem.F.plainAttrs_list PySem.F.slot_list_append PySem.F.type_list_append mt_append (pv 8) (pa_cons
                (pe_as (t' := tO 7) (pe_and (pe_callB call_isi (by rfl) T.isi (by decide +kernel) (pa_cons (pv 7) (pa_cons (pe_bltn (v := .ty "str") (by rfl) T.str (by decide +kernel) rfl) pa_nil)))
                  (pe_and (pe_chain op_le op_le pe_int (pe_callB call_len_str (by rfl) T.len PySem.boot_len (pa_cons (pv 7) pa_nil)) pe_int)
                    (pe_one (pe_call GL hr1 (by rfl) Z.gLetters Z.fLetters.kp Z.bLetters .nil pass0 (pa_cons (pv 7) pa_nil))))) ?e3) pa_nil)))
            (pss_one (ps_for PassesOwn.never rfl (pi_range1 (by rfl) T.rng (pa_cons pe_int pa_nil)) (pg_name (i := 9) nd rfl (Or.inl rfl))
              (pss_one (ps_if (pt_cmpR op_ne (pe_callB (Rp.reprR hg hu) (by rfl) T.rep (by decide +kernel) (pa_cons (pe_lst (pa_cons
                  (pe_call GI hr1 (by rfl) Z.gInt Z.fInt.kp Z.bInt .nil pass0 (pa_cons (pv 7) (pa_cons (pv 4) (pa_cons (pv 5) pa_nil))))
                  (pa_cons (pe_call GN hr2 (by rfl) Z.gNum Z.fNum.kp Z.bNum .nil pass0 (pa_cons (pv 7) pa_nil))
                  (pa_cons (pe_call GO hr1 (by rfl) Z.gWord Z.fWord.kp Z.bWord .nil pass0 (pa_cons (pv 7) pa_nil)) pa_nil)))) pa_nil))
                (pe_callB (Rp.reprR hg hu) (by rfl) T.rep (by decide +kernel) (pa_cons (pv 8) pa_nil)) (nomark _))
                (pss_one (ps_ret pe_bl)) pss_nil)))))))))))))))
      (pss_one (ps_ret pe_bl)), ?_⟩
    case e1 =>
      rintro σ H Q ⟨p, v, l, h, e7, e4, e5, hv, hq⟩
      refine ⟨v, e7, p, v, rfl, hv, _, rfl, ?_⟩
      cases v with
      | int i =>
        refine iteT ⟨_, e4, _, e7, _, _, rfl, rfl, _, rfl, ?_⟩
        cases hlo : decide (l ≤ i) with
        | true =>
          refine iteT ⟨_, e5, _, _, rfl, rfl, ?_⟩
          simpa [within, hlo] using hq
        | false => simpa [within, hlo] using hq
      | _ => exact hq
    case e2 =>
      rintro σ H Q ⟨p, v, e7, hv, hq⟩
      refine ⟨v, e7, p, v, rfl, hv, _, rfl, ?_⟩
      cases v with
      | int i =>
        refine iteT ⟨_, rfl, _, e7, _, _, rfl, rfl, _, rfl, ?_⟩
        cases hlo : decide ((-9999 : Int) ≤ i) with
        | true =>
          refine iteT ⟨_, _, rfl, rfl, ?_⟩
          simpa [within, hlo] using hq
        | false => simpa [within, hlo] using hq
      | _ => exact hq
    case e3 =>
      rintro σ H Q ⟨p, v, e7, hv, hq⟩
      obtain ⟨t, ty, _, _, k3⟩ := kit (K := K) hv
      refine ⟨v, e7, _, _, t, _, _, rfl, .ty _, ty, k3, _, rfl, ?_⟩
      cases v with
      | str z =>
        have hz : Gd z := by
          cases hv with
          | str _ h => exact h
        refine iteT ⟨_, e7, _, rfl, Nat.le_trans hz.1 (by decide), _, _, rfl, rfl, _, rfl, ?_⟩
        cases h1 : decide ((1 : Int) ≤ (z.length : Int)) with
        | false =>
          have : ¬ 1 ≤ z.length := by
            have := of_decide_eq_false h1
            omega
          have hn : word (.str z) = false := by simp [word, this]
          rw [hn] at hq
          exact ⟨_, rfl, hq H (Same.refl H)⟩
        | true =>
          refine iteT ⟨_, _, rfl, rfl, _, rfl, ?_⟩
          cases h6 : decide ((z.length : Int) ≤ 6) with
          | false =>
            have : ¬ z.length ≤ 6 := by
              have := of_decide_eq_false h6
              omega
            have hn : word (.str z) = false := by simp [word, this]
            rw [hn] at hq
            exact hq H (Same.refl H)
          | true =>
            have a1 : 1 ≤ z.length := by
              have := of_decide_eq_true h1
              omega
            have a2 : z.length ≤ 6 := by
              have := of_decide_eq_true h6
              omega
            have hw : word (.str z) = z.cps.toList.all az := by simp [word, a1, a2]
            rw [hw] at hq
            exact iteT ⟨_, e7, z, rfl, hz, hq⟩
      | _ => exact hq H (Same.refl H)
    have hl : (ns.map V.int).length ≤ 63 := by rw [List.length_map]; exact hlen
    refine ⟨_, rfl, a, _, rfl, .inl hS, _, _, rfl, _, _, rfl, _, rfl, (by split <;> (try split) <;> omega), (by split <;> (try split) <;> omega), ?_⟩
    refine for_range (lo := 0) (n := _) (fun _ σ H' => ∃ w1 w2 w3 w4 w5 w6 w7 w8 w9, σ = [some (.ref a), w1, w2, w3, w4, w5, w6, w7, w8, w9] ∧ Same H H') ⟨_, _, _, _, _, _, _, _, _, rfl, Same.refl H⟩ ?_ ?_
    · rintro i _ H1 _ ⟨w1, w2, w3, w4, w5, w6, w7, w8, w9, rfl, s1⟩
      refine ⟨_, rfl, _, rfl, a, ns, _, rfl, s1.seq hS, (by omega), fun c => ⟨c, rfl, fun p H2 np sm bx off => ?_⟩⟩
      have hp : H p = none := s1.free np
      refine ⟨_, rfl, by decide, by decide, for_range (lo := 0) (n := _) (fun _ σ H' => ∃ w1 w3 w4 w5 w6 w7 w8 w9, σ = [some (.ref a), w1, some (.ref p), w3, w4, w5, w6, w7, w8, w9] ∧ Bx H' p ∧ Same H H')
        ⟨_, _, _, _, _, _, _, _, rfl, bx, s1.trans sm⟩ ?_ ?_⟩
      · rintro j _ H3 _ ⟨w1, w3, w4, w5, w6, w7, w8, w9, rfl, b3, s3⟩
        refine ⟨_, rfl, p, rfl, b3, fun low H4 k4 => ?_⟩
        refine ⟨_, rfl, _, rfl, _, _, rfl, rfl, _, rfl, _, _, rfl, rfl, _, rfl, p, rfl, k4.1, fun m5 H5 k5 => ⟨by show 4 ≤ sizeLine; decide, fun l6 n6 => ?_⟩⟩
        refine ⟨_, rfl, p, 4, rfl, k5.1.up n6, by decide, by decide, fun d6 H6 h60 h61 tk6 => ?_⟩
        have hL6 := (tk6.2 l6 (k5.1.ne n6).symm).trans upd_same
        obtain ⟨high, hv6⟩ := at_int (ns := [low, low + 3, low - 1, m5]) h60 (by simpa using h61)
        refine ⟨l6, _, d6, .int high, rfl, rfl, SqL.of hL6, hv6, ?_⟩
        have k6 : Al p H3 H6 := k4.trans (k5.trans ((Al.up k5.1 n6).trans tk6.al))
        refine ⟨_, rfl, _, rfl, _, rfl, _, _, rfl, rfl, _, rfl, _, _, rfl, rfl, _, rfl, p, rfl, k6.1, fun m7 H7 k7 => ⟨by show 5 ≤ sizeLine; decide, fun l8 n8 => ?_⟩⟩
        refine ⟨_, rfl, p, 5, rfl, k7.1.up n8, by decide, by decide, fun d8 H8 h80 h81 tk8 => ?_⟩
        have hL8 := (tk8.2 l8 (k7.1.ne n8).symm).trans upd_same
        obtain ⟨num, hv8⟩ := at_int (ns := [low, high, low - 1, high + 1, m7]) h80 (by simpa using h81)
        refine ⟨l8, _, d8, .int num, rfl, rfl, SqL.of hL8, hv8, ?_⟩
        have k8 : Al p H3 H8 := k6.trans (k7.trans ((Al.up k7.1 n8).trans tk8.al))
        -- the three values
        refine ⟨_, rfl, _, rfl, p, rfl, k8.1, fun v9 H9 o9 k9 => ⟨_, rfl, p, rfl, k9.1, fun z H10 gz k10 => ⟨by show 3 ≤ sizeLine; decide, fun l11 n11 => ?_⟩⟩⟩
        have nl : l11 ≠ p := (k10.1.ne n11).symm
        have k11 : Al p H3 (upd H10 l11 (.lst [.int num, v9, .str z])) := k8.trans (k9.trans (k10.trans (Al.up k10.1 n11)))
        have oall : ∀ v ∈ [V.int num, v9, V.str z], Ov p (upd H10 l11 (.lst [.int num, v9, .str z])) v := by
          intro v hv
          rcases List.mem_cons.mp hv with rfl | hv
          · exact .int _
          · rcases List.mem_cons.mp hv with rfl | hv
            · exact o9.al (k10.trans (Al.up k10.1 n11))
            · rcases List.mem_singleton.mp hv with rfl
              exact .str _ gz
        refine ⟨_, rfl, ⟨_, SqL.of upd_same⟩, for_list (K := K) (a := l11) (xs := [V.int num, v9, V.str z])
          (fun _ σ H' => ∃ u1 u3 u7 u8 u9, σ = [some (.ref a), u1, some (.ref p), u3, some (.int low), some (.int high), some (.int num), u7, u8, u9] ∧ Al p (upd H10 l11 (.lst [.int num, v9, .str z])) H')
          ⟨_, _, _, _, _, rfl, Al.refl (k10.1.up n11)⟩ (fun i σ H' _ ⟨_, _, _, _, _, _, k⟩ => SqL.of (k.2 l11 _ nl upd_same)) ?_ ?_⟩
        · rintro i x _ H12 hx ⟨u1, u3, u7, u8, u9, rfl, k12⟩
          have ox := (oall x (List.mem_of_getElem? hx)).al k12
          refine ⟨p, x, low, high, rfl, rfl, rfl, ox, p, x, rfl, ox, by show 2 ≤ sizeLine; decide, fun d nd => ?_⟩
          have kd := Al.up (o := .lst [.bl (within low high x), .bl (within (-9999) 9999 x)]) k12.1 nd
          refine ⟨_, rfl, .inl ⟨rfl, _, SqL.of upd_same⟩, p, x, rfl, ox.al kd, fun H13 s13 => ⟨d, _, _, rfl, rfl, s13 _ _ upd_same, by show 2 < sizeLine; decide, ?_⟩⟩
          have nd12 : ∀ q o, H12 q = some o → q ≠ d := fun q o e z => by subst z; rw [nd] at e; cases e
          have k14 : Al p H12 (upd H13 d (.lst ([.bl (within low high x), .bl (within (-9999) 9999 x)] ++ [.bl (word x)]))) := by
            obtain ⟨c1, c2, c3, e⟩ := kd.1
            refine ⟨⟨c1, c2, c3, ?_⟩, fun q o n e => ?_⟩
            · rw [upd_ne (k12.1.ne nd)]
              exact s13 _ _ e
            · rw [upd_ne (nd12 q o e)]
              exact s13 _ _ (by rw [upd_ne (nd12 q o e)]; exact e)
          refine ⟨_, rfl, by decide, by decide, for_range (lo := 0) (n := _) (fun _ σ H' => ∃ y1, σ = [some (.ref a), u1, some (.ref p), u3, some (.int low), some (.int high), some (.int num), some x, some (.ref d), y1] ∧
              Al p (upd H13 d (.lst ([.bl (within low high x), .bl (within (-9999) 9999 x)] ++ [.bl (word x)]))) H') ⟨_, rfl, Al.refl k14.1⟩ ?_ ?_⟩
          · rintro m _ H15 _ ⟨y1, rfl, k15⟩
            have o15 := ox.al (k14.trans k15)
            have ndp : d ≠ p := (k12.1.ne nd).symm
            refine ⟨_, rfl, _, rfl, _, rfl, p, x, low, high, rfl, o15, _, rfl, p, x, rfl, o15, _, rfl, p, x, rfl, o15, fun H16 s16 => ⟨by show 3 ≤ sizeLine; decide, fun r nr => ?_⟩⟩
            obtain ⟨q1, q2, q3, q4⟩ := bools_ok (within low high x) (within (-9999) 9999 x) (word x)
            have hd16 := s16 _ _ (k15.2 d _ ndp upd_same)
            have ndr : d ≠ r := ne_of_none hd16 nr
            refine ⟨r, bools _ _ _, rfl, .lst (SqL.of upd_same) (.cons (.bl _) (.cons (.bl _) (.cons (.bl _) .nil))), q1, q2, q3, q4, ?_⟩
            refine ⟨_, rfl, d, bools _ _ _, rfl, .lst (SqL.of ((upd_ne ndr).trans hd16)) (.cons (.bl _) (.cons (.bl _) (.cons (.bl _) .nil))), q1, q2, q3, q4, ?_⟩
            refine ⟨rfl, _, rfl, iteNS rfl ?_⟩
            have k16 : Al p H15 (upd H16 r (.lst [.bl (within low high x), .bl (within (-9999) 9999 x), .bl (word x)])) := by
              obtain ⟨c1, c2, c3, e⟩ := k15.1
              have bx16 : Bx H16 p := ⟨c1, c2, c3, s16 _ _ e⟩
              exact ⟨bx16.up nr, fun q o n e => by rw [upd_ne (ne_of_none (s16 _ _ e) nr)]; exact s16 _ _ e⟩
            exact ⟨_, rfl, k15.trans k16⟩
          · rintro _ H15 ⟨y1, rfl, k15⟩
            exact ⟨_, _, _, _, _, rfl, k12.trans (k14.trans k15)⟩
        · rintro _ H12 ⟨u1, u3, u7, u8, u9, rfl, k12⟩
          exact ⟨_, _, _, _, _, _, _, _, rfl, k12.1, same_al hp s3 (k11.trans k12)⟩
      · rintro _ H3 ⟨w1, w3, w4, w5, w6, w7, w8, w9, rfl, b3, s3⟩
        exact ⟨_, _, _, _, _, _, _, _, _, rfl, s3⟩
    · rintro _ H1 ⟨w1, w2, w3, w4, w5, w6, w7, w8, w9, rfl, s1⟩
      exact hQ H1
end
end Bxs
namespace Bxs
open PySem L2
theorem all_mk {l : PySem.W.OpenLaw} {w : World} {K : PySem.W.Frag} {h : Heap} {mg : Str → Option Value} {fa : Addr} (X : K.In h) (G : h.Ns mainGlobals mg) (hfa : mg "law" = some (.ref fa))
    {od an : Option Addr} {sl : Array (Option Value)} {oc kV dc pm cd ct : Value} {f0 : Addr}
    {od0 an0 : Option Addr} {sl0 : Array (Option Value)} {oc0 kV0 dc0 pm0 cd0 ct0 : Value} {f0' : Addr}
    {od1 an1 : Option Addr} {sl1 : Array (Option Value)} {oc1 kV1 dc1 pm1 cd1 ct1 : Value} {f1' : Addr}
    {od2 an2 : Option Addr} {sl2 : Array (Option Value)} {oc2 kV2 dc2 pm2 cd2 ct2 : Value} {f2' : Addr}
    {od3 an3 : Option Addr} {sl3 : Array (Option Value)} {oc3 kV3 dc3 pm3 cd3 ct3 : Value} {f3' : Addr}
    {od4 an4 : Option Addr} {sl4 : Array (Option Value)} {oc4 kV4 dc4 pm4 cd4 ct4 : Value} {f4' : Addr}
    {od5 an5 : Option Addr} {sl5 : Array (Option Value)} {oc5 kV5 dc5 pm5 cd5 ct5 : Value} {f5' : Addr}
    {od6 an6 : Option Addr} {sl6 : Array (Option Value)} {oc6 kV6 dc6 pm6 cd6 ct6 : Value} {f6' : Addr}
    {od7 an7 : Option Addr} {sl7 : Array (Option Value)} {oc7 kV7 dc7 pm7 cd7 ct7 : Value} {f7' : Addr}
    {od8 an8 : Option Addr} {sl8 : Array (Option Value)} {oc8 kV8 dc8 pm8 cd8 ct8 : Value} {f8' : Addr}
    {od9 an9 : Option Addr} {sl9 : Array (Option Value)} {oc9 kV9 dc9 pm9 cd9 ct9 : Value} {f9' : Addr}
    {od10 an10 : Option Addr} {sl10 : Array (Option Value)} {oc10 kV10 dc10 pm10 cd10 ct10 : Value} {f10' : Addr}
    (a0 : PySem.W.nsIn K mainGlobals "is_integer" = some (some (.ref f0'))) (l0 : K.lookup f0' = some ⟨oc0, od0, .func (PySem.W.fnOf "is_integer" "is_integer" (defArgs sIsInt) (defBody sIsInt) (defScope sIsInt) .none kV0 dc0 pm0 an0 cd0 ct0), sl0⟩) (c0 : PySem.W.codeIn K cd0 "is_integer" = true) (k0 : PySem.W.keepIn K (.ref f0') = true)
    (a1 : PySem.W.nsIn K mainGlobals "is_word" = some (some (.ref f1'))) (l1 : K.lookup f1' = some ⟨oc1, od1, .func (PySem.W.fnOf "is_word" "is_word" (defArgs sIsWord) (defBody sIsWord) (defScope sIsWord) .none kV1 dc1 pm1 an1 cd1 ct1), sl1⟩) (c1 : PySem.W.codeIn K cd1 "is_word" = true) (k1 : PySem.W.keepIn K (.ref f1') = true)
    (a2 : PySem.W.nsIn K mainGlobals "is_number" = some (some (.ref f2'))) (l2 : K.lookup f2' = some ⟨oc2, od2, .func (PySem.W.fnOf "is_number" "is_number" (defArgs sIsNum) (defBody sIsNum) (defScope sIsNum) .none kV2 dc2 pm2 an2 cd2 ct2), sl2⟩) (c2 : PySem.W.codeIn K cd2 "is_number" = true) (k2 : PySem.W.keepIn K (.ref f2') = true)
    (a3 : PySem.W.nsIn K mainGlobals "_law_cell" = some (some (.ref f3'))) (l3 : K.lookup f3' = some ⟨oc3, od3, .func (PySem.W.fnOf "_law_cell" "_law_cell" (defArgs sCell) (defBody sCell) (defScope sCell) .none kV3 dc3 pm3 an3 cd3 ct3), sl3⟩) (c3 : PySem.W.codeIn K cd3 "_law_cell" = true) (k3 : PySem.W.keepIn K (.ref f3') = true)
    (a4 : PySem.W.nsIn K mainGlobals "_law_box" = some (some (.ref f4'))) (l4 : K.lookup f4' = some ⟨oc4, od4, .func (PySem.W.fnOf "_law_box" "_law_box" (defArgs sBox) (defBody sBox) (defScope sBox) .none kV4 dc4 pm4 an4 cd4 ct4), sl4⟩) (c4 : PySem.W.codeIn K cd4 "_law_box" = true) (k4 : PySem.W.keepIn K (.ref f4') = true)
    (a5 : PySem.W.nsIn K mainGlobals "_law_take" = some (some (.ref f5'))) (l5 : K.lookup f5' = some ⟨oc5, od5, .func (PySem.W.fnOf "_law_take" "_law_take" (defArgs sTake) (defBody sTake) (defScope sTake) .none kV5 dc5 pm5 an5 cd5 ct5), sl5⟩) (c5 : PySem.W.codeIn K cd5 "_law_take" = true) (k5 : PySem.W.keepIn K (.ref f5') = true)
    (a6 : PySem.W.nsIn K mainGlobals "_law_other" = some (some (.ref f6'))) (l6 : K.lookup f6' = some ⟨oc6, od6, .func (PySem.W.fnOf "_law_other" "_law_other" (defArgs sOther) (defBody sOther) (defScope sOther) .none kV6 dc6 pm6 an6 cd6 ct6), sl6⟩) (c6 : PySem.W.codeIn K cd6 "_law_other" = true) (k6 : PySem.W.keepIn K (.ref f6') = true)
    (a7 : PySem.W.nsIn K mainGlobals "_law_string" = some (some (.ref f7'))) (l7 : K.lookup f7' = some ⟨oc7, od7, .func (PySem.W.fnOf "_law_string" "_law_string" (defArgs sString) (defBody sString) (defScope sString) .none kV7 dc7 pm7 an7 cd7 ct7), sl7⟩) (c7 : PySem.W.codeIn K cd7 "_law_string" = true) (k7 : PySem.W.keepIn K (.ref f7') = true)
    (a8 : PySem.W.nsIn K mainGlobals "_law_letters" = some (some (.ref f8'))) (l8 : K.lookup f8' = some ⟨oc8, od8, .func (PySem.W.fnOf "_law_letters" "_law_letters" (defArgs sLetters) (defBody sLetters) (defScope sLetters) .none kV8 dc8 pm8 an8 cd8 ct8), sl8⟩) (c8 : PySem.W.codeIn K cd8 "_law_letters" = true) (k8 : PySem.W.keepIn K (.ref f8') = true)
    (a9 : PySem.W.nsIn K mainGlobals "_law_whole" = some (some (.ref f9'))) (l9 : K.lookup f9' = some ⟨oc9, od9, .func (PySem.W.fnOf "_law_whole" "_law_whole" (defArgs sWhole) (defBody sWhole) (defScope sWhole) .none kV9 dc9 pm9 an9 cd9 ct9), sl9⟩) (c9 : PySem.W.codeIn K cd9 "_law_whole" = true) (k9 : PySem.W.keepIn K (.ref f9') = true)
    (a10 : PySem.W.nsIn K mainGlobals "_law_integer" = some (some (.ref f10'))) (l10 : K.lookup f10' = some ⟨oc10, od10, .func (PySem.W.fnOf "_law_integer" "_law_integer" (defArgs sInteger) (defBody sInteger) (defScope sInteger) .none kV10 dc10 pm10 an10 cd10 ct10), sl10⟩) (c10 : PySem.W.codeIn K cd10 "_law_integer" = true) (k10 : PySem.W.keepIn K (.ref f10') = true)
    (aL : PySem.W.nsIn K mainGlobals "law" = some (some (.ref f0))) (lL : K.lookup f0 = some ⟨oc, od, .func (PySem.W.fnOf "law" "law" (defArgs sLaw) (defBody sLaw) (defScope sLaw) .none kV dc pm an cd ct), sl⟩) (cL : PySem.W.codeIn K cd "law" = true) (kL : PySem.W.keepIn K (.ref f0) = true)
    {tk0 : Tok} (v0 : PySem.W.nsIn K mainGlobals "LONGEST_WORD" = some (some (.int 6 tk0)))
    {tk1 : Tok} (v1 : PySem.W.nsIn K mainGlobals "LARGEST_NUMBER" = some (some (.int 9999 tk1)))
    (z_isinstance : PySem.W.nsIn K mainGlobals "isinstance" = some none)
    (z_int : PySem.W.nsIn K mainGlobals "int" = some none)
    (z_bool : PySem.W.nsIn K mainGlobals "bool" = some none)
    (z_str : PySem.W.nsIn K mainGlobals "str" = some none)
    (z_len : PySem.W.nsIn K mainGlobals "len" = some none)
    (z_all : PySem.W.nsIn K mainGlobals "all" = some none)
    (z_max : PySem.W.nsIn K mainGlobals "max" = some none)
    (z_min : PySem.W.nsIn K mainGlobals "min" = some none)
    (z_range : PySem.W.nsIn K mainGlobals "range" = some none)
    (z_repr : PySem.W.nsIn K mainGlobals "repr" = some none)
    : ∃ fd : FuncData, (∀ (s : Shared) (v : Value), BindsTo s fd ⟨[v], []⟩ [("_law_script", v)]) ∧ ∀ base : Heap, K.In base → base.Ns mainGlobals mg → Rp.FnG l.prog w K mg base 4 fa fd ["_law_script"] (spLaw K) := by
  have e := hfa.symm.trans (PySem.W.mg_of X G aL)
  cases e
  have F0 := fun_mk (st := sIsInt) l0 c0 k0
  have b0 := F0.binds (ps := ["value", "low", "high"]) fun _ _ _ _ _ _ us hl => match us, hl with | [_, _, _], _ => rfl
  have F1 := fun_mk (st := sIsWord) l1 c1 k1
  have b1 := F1.binds (ps := ["value"]) fun _ _ _ _ _ _ us hl => match us, hl with | [_], _ => rfl
  have F2 := fun_mk (st := sIsNum) l2 c2 k2
  have b2 := F2.binds (ps := ["value"]) fun _ _ _ _ _ _ us hl => match us, hl with | [_], _ => rfl
  have F3 := fun_mk (st := sCell) l3 c3 k3
  have b3 := F3.binds (ps := ["_law_script", "_law_k"]) fun _ _ _ _ _ _ us hl => match us, hl with | [_, _], _ => rfl
  have F4 := fun_mk (st := sBox) l4 c4 k4
  have b4 := F4.binds (ps := ["_law_cell_here"]) fun _ _ _ _ _ _ us hl => match us, hl with | [_], _ => rfl
  have F5 := fun_mk (st := sTake) l5 c5 k5
  have b5 := F5.binds (ps := ["_law_box_here", "_law_size"]) fun _ _ _ _ _ _ us hl => match us, hl with | [_, _], _ => rfl
  have F6 := fun_mk (st := sOther) l6 c6 k6
  have b6 := F6.binds (ps := ["_law_box_here"]) fun _ _ _ _ _ _ us hl => match us, hl with | [_], _ => rfl
  have F7 := fun_mk (st := sString) l7 c7 k7
  have b7 := F7.binds (ps := ["_law_box_here"]) fun _ _ _ _ _ _ us hl => match us, hl with | [_], _ => rfl
  have F8 := fun_mk (st := sLetters) l8 c8 k8
  have b8 := F8.binds (ps := ["_law_text"]) fun _ _ _ _ _ _ us hl => match us, hl with | [_], _ => rfl
  have F9 := fun_mk (st := sWhole) l9 c9 k9
  have b9 := F9.binds (ps := ["_law_value"]) fun _ _ _ _ _ _ us hl => match us, hl with | [_], _ => rfl
  have F10 := fun_mk (st := sInteger) l10 c10 k10
  have b10 := F10.binds (ps := ["_law_box_here"]) fun _ _ _ _ _ _ us hl => match us, hl with | [_], _ => rfl
  have Z : Tops K mg := {
    aInt := f0', dInt := _, fInt := F0, gInt := PySem.W.mg_of X G a0, bInt := b0,
    aWord := f1', dWord := _, fWord := F1, gWord := PySem.W.mg_of X G a1, bWord := b1,
    aNum := f2', dNum := _, fNum := F2, gNum := PySem.W.mg_of X G a2, bNum := b2,
    aCell := f3', dCell := _, fCell := F3, gCell := PySem.W.mg_of X G a3, bCell := b3,
    aBox := f4', dBox := _, fBox := F4, gBox := PySem.W.mg_of X G a4, bBox := b4,
    aTake := f5', dTake := _, fTake := F5, gTake := PySem.W.mg_of X G a5, bTake := b5,
    aOther := f6', dOther := _, fOther := F6, gOther := PySem.W.mg_of X G a6, bOther := b6,
    aString := f7', dString := _, fString := F7, gString := PySem.W.mg_of X G a7, bString := b7,
    aLetters := f8', dLetters := _, fLetters := F8, gLetters := PySem.W.mg_of X G a8, bLetters := b8,
    aWhole := f9', dWhole := _, fWhole := F9, gWhole := PySem.W.mg_of X G a9, bWhole := b9,
    aInteger := f10', dInteger := _, fInteger := F10, gInteger := PySem.W.mg_of X G a10, bInteger := b10,
    t1 := tk0, gW := PySem.W.mg_of X G v0,
    t2 := tk1, gN := PySem.W.mg_of X G v1,
    B := ⟨PySem.W.mg_none_of X G z_isinstance, PySem.W.mg_none_of X G z_int, PySem.W.mg_none_of X G z_bool, PySem.W.mg_none_of X G z_str, PySem.W.mg_none_of X G z_len, PySem.W.mg_none_of X G z_all, PySem.W.mg_none_of X G z_max, PySem.W.mg_none_of X G z_min, PySem.W.mg_none_of X G z_range, PySem.W.mg_none_of X G z_repr⟩ }
  exact ⟨PySem.W.fnOf "law" "law" (defArgs sLaw) (defBody sLaw) (defScope sLaw) .none kV dc pm an cd ct, fun s v => .of_eq rfl, fun base _ _ => ok_law (fun_mk (st := sLaw) lL cL kL) Z⟩
end Bxs

open PySem PySem.W PyProof.Rows in
set_option maxRecDepth 100000 in
set_option maxHeartbeats 0 in
theorem PySem.Challenge.cw_seenrules_k01_integers_words_numbers_holds : PySem.Challenge.rw_seenrules_k01_integers_words_numbers.Holds := by
  w_on; o_law; k_head; (case hw => w_witness2)
  k_fill
  refine Rp.walkG (l := PySem.Challenge.rw_seenrules_k01_integers_words_numbers) (sp := Bxs.spLaw) (k := 4) (x := "_law_script") rfl (by decide) rfl ⟨rfl, by decide, by decide⟩ (fun w h Y => PySem.W.kIn_of Y) ?F (fun K H a ns hl _ hS => ⟨a, ns, rfl, hS, hl, fun _ => rfl⟩)
  case F =>
    intro w mg fa h KX G hmg
    refine' Bxs.all_mk KX G hmg ?a0 ?l0 ?c0 ?k0 ?a1 ?l1 ?c1 ?k1 ?a2 ?l2 ?c2 ?k2 ?a3 ?l3 ?c3 ?k3 ?a4 ?l4 ?c4 ?k4 ?a5 ?l5 ?c5 ?k5 ?a6 ?l6 ?c6 ?k6 ?a7 ?l7 ?c7 ?k7 ?a8 ?l8 ?c8 ?k8 ?a9 ?l9 ?c9 ?k9 ?a10 ?l10 ?c10 ?k10 ?aL ?lL ?cL ?kL ?v0 ?v1 ?z_isinstance ?z_int ?z_bool ?z_str ?z_len ?z_all ?z_max ?z_min ?z_range ?z_repr
    (case a0 => k_is)
    (case l0 => k_is)
    (case c0 => k_is)
    (case k0 => k_is)
    (case a1 => k_is)
    (case l1 => k_is)
    (case c1 => k_is)
    (case k1 => k_is)
    (case a2 => k_is)
    (case l2 => k_is)
    (case c2 => k_is)
    (case k2 => k_is)
    (case a3 => k_is)
    (case l3 => k_is)
    (case c3 => k_is)
    (case k3 => k_is)
    (case a4 => k_is)
    (case l4 => k_is)
    (case c4 => k_is)
    (case k4 => k_is)
    (case a5 => k_is)
    (case l5 => k_is)
    (case c5 => k_is)
    (case k5 => k_is)
    (case a6 => k_is)
    (case l6 => k_is)
    (case c6 => k_is)
    (case k6 => k_is)
    (case a7 => k_is)
    (case l7 => k_is)
    (case c7 => k_is)
    (case k7 => k_is)
    (case a8 => k_is)
    (case l8 => k_is)
    (case c8 => k_is)
    (case k8 => k_is)
    (case a9 => k_is)
    (case l9 => k_is)
    (case c9 => k_is)
    (case k9 => k_is)
    (case a10 => k_is)
    (case l10 => k_is)
    (case c10 => k_is)
    (case k10 => k_is)
    (case aL => k_is)
    (case lL => k_is)
    (case cL => k_is)
    (case kL => k_is)
    (case v0 => k_is)
    (case v1 => k_is)
    (case z_isinstance => k_is)
    (case z_int => k_is)
    (case z_bool => k_is)
    (case z_str => k_is)
    (case z_len => k_is)
    (case z_all => k_is)
    (case z_max => k_is)
    (case z_min => k_is)
    (case z_range => k_is)
    (case z_repr => k_is)
#print axioms PySem.Challenge.cw_seenrules_k01_integers_words_numbers_holds
