import PyProof.Rows.All
import Wide.All
import OpenK.AllK
import Wide.FinOn
import HandS.ForMost
import HandS.IsInst
import HandS.Walk
import HandS.StrMore
import HandS.Replace
import KE.IntTextLaws
import KE.KIntText
import PySem.Challenge.RW_seenrules_k02_numbers_read
set_option Elab.async false
set_option maxRecDepth 100000
namespace Bxs
open PySem
def top (i : Nat) : Stmt := PySem.Challenge.pw_seenrules_k02_numbers_read.main.body.getD i (.Pass ⟨0, 0, 0, 0⟩)
abbrev sParse : Stmt := top 3
abbrev sCell : Stmt := top 5
abbrev sBox : Stmt := top 6
abbrev sTake : Stmt := top 7
abbrev sText : Stmt := top 8
abbrev sDue : Stmt := top 9
abbrev sLaw : Stmt := top 10
end Bxs
/-! ### repr of data, where no repr is under way; the promise of a def there -/
namespace Rp
open PySem PySem.Spec PyProof.Rows L2
theorem reprR {X : Cx} (hg : X.A.guards = some []) (hu : X.A.units + 64 < cLine) : CallR X (.builtin "repr") (fun xs H Q => ∃ (a : Addr) (d : PyData),
    xs = [.ref a] ∧ Dp X.K H (.ref a) d ∧ d.showable = true ∧ d.hasDict = false ∧ d.depth ≤ 60 ∧ d.shown.length ≤ sizeLine ∧ Q (.str d.shown) H) := by
  intro pins s σ H xs us Q I r h
  obtain ⟨a, d, rfl, hd, hs, hn, hdp, hz, q⟩ := h
  obtain ⟨u, rfl, ru⟩ := vals1 r
  obtain rfl : u = Value.ref a := ru
  obtain ⟨as, rd⟩ := Dp.reads I d _ _ hd rfl
  exact repr_of_reads' rd hs (fun z => by rw [hn] at z; cases z) hg (by omega) (fun _ _ e => e) (fun h' u tk hk => ⟨.str d.shown, H, I.kept hk, ⟨_, rfl⟩, q⟩) hz

/-- as FnOk, asked only where no repr is under way -/
structure FnG (P : Program) (w : World) (K : PySem.W.Frag) (mg : Str → Option Value) (base : Heap) (k : Nat) (f : Addr) (fd : FuncData) (ps : List Str) (sp : Sp) : Prop where
  many : ∀ vs H Q E, sp vs H Q E → vs.length = ps.length
  go : ∀ (A : Around) (outer : List Env) (s : Shared) (H : Hp) (args : Args) (us : List Value) (vs : List V) (Q : VK) (E : XK),
    A.guards = some [] → Room k A → Env0 P w K mg base A outer s H → BindsTo s fd args (ps.zip us) → Vals vs us → sp vs H Q E →
      codeAny (model P w) A (.call (.ref f) args) (CR CX0 outer P w H s Q E) s

theorem fnG {P : Program} {w : World} {K : PySem.W.Frag} {mg : Str → Option Value} {base : Heap} {x qual : Str} {st : Stmt} {f : Addr} {fd : FuncData} {N ps : List Str} {k : Nat} {sp : Sp}
    (F : Fun K x qual st f fd) (S : FnScope N ps (defScope st)) (many : ∀ vs H Q E, sp vs H Q E → vs.length = ps.length)
    (body : ∀ (cdv : Value) (A : Around) (outer : List Env) (s : Shared) (H : Hp) (vs : List V) (Q : VK) (E : XK), A.guards = some [] →
      Room k (A.deeper (envOfC qual (defScope st) s.heap.objs.size f cdv)) → sp vs H Q E →
      ∃ t, PSs (cxOf CX0 P w K mg base N qual (defScope st) f cdv A outer s H E).nox (defBody st) t ∧ t { nx := fun _ H' => Q .non H', rt := Q } (start N vs) H) :
    FnG P w K mg base (k + 1) f fd ps sp := by
  obtain ⟨oc, od, kV, doc, pm, an, cdv, ct, osl, rfl, lk, hcd⟩ := F.ex
  constructor
  · exact many
  intro A outer s H args us vs Q E hg hr e0 hb r hsp
  have keepB : ∀ b o, base.get? b = some o → s.heap.get? b = some o := fun b o e => (e0.bs b o e).1
  have KX := e0.mod.kin.keeps keepB
  have lim := e0.mod.nolimit.keeps keepB
  have kinds : ∀ y ∈ ps.zip us, (defScope st).names.lookup y.1 = some .local ∨
      ((defScope st).names.lookup y.1 = some .cell ∧ ((cellsFrom (s.heap.objs.size + 1) (defScope st).names []).lookup y.1).isSome = true) := by
    rintro ⟨n, v⟩ hy
    cases S.par n (List.of_mem_zip hy).1 with
    | inl q => exact Or.inl q
    | inr q => exact Or.inr ⟨q, PySem.W.cellsFrom_some _ _ _ (Or.inl q)⟩
  apply codeAny_call_function hr.depth (KX _ _ lk) rfl S.co S.gen rfl (PySem.W.codeRec_of KX hcd)
  apply hb
  refine wpAny_newFunctionEnv_cells S.kind kinds ?_
  intro env he s1 x
  subst he
  refine ⟨lim.keeps x.toInCall.keep, codeAny_func ?_⟩
  obtain ⟨t, ht, hq⟩ := body cdv A outer s H vs Q E hg (hr.deeper _) hsp
  have I := inv_start (CX := CX0) (E := E) (w := w) (P := P) (cd := cdv) S hr.hd e0 (many _ _ _ _ hsp) r x
  refine wpAny_mono (ht.nox.run [] s1 (start N vs) H _ I hq) ?_ (fun e s' hs => hs)
  intro fl s' hs
  cases fl
  case ret u =>
    obtain ⟨v, _, H', J, rv, q⟩ := hs
    exact ⟨v, H', J.os, J.bare, J.base, J.hok, rv, q⟩
  case next =>
    obtain ⟨_, H', J, q⟩ := hs
    exact ⟨.non, H', J.os, J.bare, J.base, J.hok, rfl, q⟩
  all_goals
    obtain ⟨_, _, _, q⟩ := hs
    exact q.elim
end Rp
/-! ### the end of a law whose def asks repr -/
namespace Rp
open PySem PySem.Spec PyProof.Rows L2
section
variable {P : Program} {w : World} {K : PySem.W.Frag} {mg mb : Str → Option Value} {k : Nat} {fa a : Addr} {fd : FuncData} {x : Str} {sp : Sp} {s₁ : Shared} {vs : List Value} {ns : List Int}
/-- what the heap says of a dict's object lies outside of H, where only the script may be -/
theorem not_script {H : Hp} {b : Addr} {o : Obj} {es : Array DictEntry} {ep : Nat} (ha : s₁.heap.get? a = some { cls := .type "list", data := .seq vs.toArray })
    (only : ∀ c, H c ≠ none → c = a) (e : s₁.heap.get? b = some o) (hd : o.data = .dict es ep) : H b = none := by
  rcases hq : H b with _ | u
  · rfl
  · have hba := only b (by simp [hq])
    rw [hba, ha] at e
    injection e with e
    rw [← e] at hd
    exact absurd hd (by simp)

theorem lawCore (H : Hp) (KX : K.In s₁.heap) (hns : s₁.heap.Ns mainGlobals mg) (hb : s₁.heap.Ns builtinsNs mb)
    (hbb : ∀ x : Str, x ≠ "__name__" → mb x = bootBuiltins x) (hlim : s₁.heap.NoLimit) (hg : s₁.gens = #[])
    (ha : s₁.heap.get? a = some { cls := .type "list", data := .seq vs.toArray }) (hr : Room k callerA)
    (F : ∀ base : Heap, K.In base → base.Ns mainGlobals mg → FnG P w K mg base k fa fd [x] sp)
    (hbind : ∀ (s : Shared) (u : Value), BindsTo s fd ⟨[u], []⟩ [(x, u)])
    (hsp : sp [.ref a] H (fun v _ => v = .bl true) fun _ _ _ => False)
    (hO : Only H) (hok : HOk P w H s₁.heap) (only : ∀ c, H c ≠ none → c = a) (hK : H a ≠ none → K.lookup a = none) :
    codeAny (model P w) callerA (.call (.ref fa) ⟨[.ref a], []⟩)
      (fun r s' => r = .ok (.ret (.bool true)) ∧ OldK s₁.heap s'.heap ∧ s'.os = s₁.os ∧ AllBare s'.gens) s₁ := by
  have stays : ∀ {b : Addr} {o : Obj}, s₁.heap.get? b = some o → H b = none → (hidT s₁.heap H).get? b = some o := fun e n => hidT_get e n
  have names : ∀ {b : Addr} {m : Str → Option Value}, s₁.heap.Ns b m → (hidT s₁.heap H).Ns b m := by
    rintro b m ⟨o, es, ep, e, d, r⟩
    exact ⟨o, es, ep, stays e (not_script ha only e d), d, r⟩
  have KB : K.In (hidT s₁.heap H) := by
    intro b o e
    refine stays (KX b o e) ?_
    rcases hq : H b with _ | u
    · rfl
    · have hba := only b (by simp [hq])
      subst hba
      rw [hK (by simp [hq])] at e
      exact absurd e (by simp)
  obtain ⟨mc, l1, l2⟩ := hlim
  have M : Mod K mg (hidT s₁.heap H) := ⟨KB, names hns, ⟨mb, names hb, hbb⟩, ⟨mc, names l1, l2⟩⟩
  have env : Env0 P w K mg (hidT s₁.heap H) callerA [] s₁ H :=
    ⟨rfl, M, fun b o e => of_hidT e, Nat.le_of_eq (hidT_size _ _), trivial, fun b hb => (by cases hb), hok, AllBare.of_eq hg⟩
  have run := (F _ KB (names hns)).go callerA [] s₁ H ⟨[.ref a], []⟩ [.ref a] [.ref a] _ _ rfl hr env (hbind s₁ (.ref a)) (.cons rfl .nil) hsp
  refine codeAny_mono run ?_
  rintro (e | fl) s' h
  · exact h.elim
  · cases fl
    case ret u =>
      obtain ⟨v, H', os, bare, un, hok', rv, q⟩ := h
      obtain rfl : v = .bl true := q
      obtain rfl : u = Value.bool true := rv
      refine ⟨rfl, OldK.of_keep ?_, os, bare⟩
      intro b o e
      rcases hq : H b with _ | u
      · exact un.keep b o e hq (fun z => by cases z) (by simp)
      · rcases hO b with z | ⟨ob, xs, z⟩
        · rw [hq] at z
          cases z
        · have z2 := un.frzs b ob _ z
          obtain ⟨e1, _⟩ := hok b _ z
          obtain ⟨e2, _⟩ := hok' b _ z2
          rw [e] at e1
          injection e1 with e1
          rw [e1]
          exact e2
    all_goals exact False.elim h

theorem lawG (KX : K.In s₁.heap) (hns : s₁.heap.Ns mainGlobals mg) (hb : s₁.heap.Ns builtinsNs mb)
    (hbb : ∀ x : Str, x ≠ "__name__" → mb x = bootBuiltins x) (hlim : s₁.heap.NoLimit) (hg : s₁.gens = #[])
    (ha : s₁.heap.get? a = some { cls := .type "list", data := .seq vs.toArray }) (hi : IntsAre vs ns) (hl : ns.length ≤ sizeLine) (hr : Room k callerA)
    (F : ∀ base : Heap, K.In base → base.Ns mainGlobals mg → FnG P w K mg base k fa fd [x] sp)
    (hbind : ∀ (s : Shared) (u : Value), BindsTo s fd ⟨[u], []⟩ [(x, u)])
    (hsp : ∀ H : Hp, Only H → SqL K H a (ns.map V.int) → sp [.ref a] H (fun v _ => v = .bl true) fun _ _ _ => False) :
    codeAny (model P w) callerA (.call (.ref fa) ⟨[.ref a], []⟩)
      (fun r s' => r = .ok (.ret (.bool true)) ∧ OldK s₁.heap s'.heap ∧ s'.os = s₁.os ∧ AllBare s'.gens) s₁ := by
  have rv := vals_ints hi
  have lenV := hi.length
  rcases hk : K.lookup a with _ | o
  · let S : HO := .frz { cls := .type "list", data := .seq vs.toArray } (.lst (ns.map V.int))
    let H : Hp := fun b => if b = a then some S else none
    have Ha : H a = some S := if_pos rfl
    have Hn : ∀ b, b ≠ a → H b = none := fun b n => if_neg n
    have onlyH : Only H := by
      intro b
      by_cases n : b = a
      · subst n
        exact .inr ⟨_, _, Ha⟩
      · exact .inl (Hn b n)
    have okH : HOk P w H s₁.heap := by
      intro b u z
      by_cases n : b = a
      · subst n
        rw [Ha] at z
        injection z with z
        subst z
        exact ⟨ha, by rw [List.length_map]; exact hl, vs, _, rv, ha⟩
      · rw [Hn b n] at z
        cases z
    refine lawCore H KX hns hb hbb hlim hg ha hr F hbind (hsp H onlyH (.inl (.inr ⟨_, Ha⟩))) onlyH okH (fun c n => ?_) fun _ => hk
    by_cases m : c = a
    · exact m
    · exact absurd (Hn c m) n
  · have e := KX a o hk
    rw [ha] at e
    injection e with e
    subst e
    have sq : SqL K (fun _ => none) a (ns.map V.int) := .inr ⟨_, vs.toArray, _, hk, rfl, rfl, rfl, by rw [List.size_toArray, lenV]; exact hl, by simpa using rv⟩
    exact lawCore (fun _ => none) KX hns hb hbb hlim hg ha hr F hbind (hsp _ (fun _ => .inl rfl) sq) (fun _ => .inl rfl) (fun b u z => by cases z) (fun c n => absurd rfl n) fun n => absurd rfl n

theorem walkG {l : PySem.W.OpenLaw} {n : Nat} {q : Program} {loose : List Str} {XP : (Str → Option Value) → Heap → Prop} {YP : World → Heap → Prop} {d : DefRec} {K : Params → PySem.W.Frag} {sp : PySem.W.Frag → Sp}
    (hn : l.most = some n) (hn2 : n ≤ sizeLine) (hdf : d.params.defaults = []) (hr : Room k callerA) (hY : ∀ (w : World) (h : Heap), YP w h → (K w.params).In h)
    (F : ∀ (w : World) (mg : Str → Option Value) (fa : Addr) (h : Heap), (K w.params).In h → h.Ns mainGlobals mg → mg d.name = some (.ref fa) →
      ∃ fd : FuncData, (∀ (s : Shared) (u : Value), BindsTo s fd ⟨[u], []⟩ [(x, u)]) ∧
        ∀ base : Heap, (K w.params).In base → base.Ns mainGlobals mg → FnG l.prog w (K w.params) mg base k fa fd [x] (sp (K w.params)))
    (hsp : ∀ (K : PySem.W.Frag) (H : Hp) (a : Addr) (ns : List Int), ns.length ≤ n → Only H → SqL K H a (ns.map V.int) → sp K [.ref a] H (fun v _ => v = .bl true) fun _ _ _ => False) :
    PySem.W.WalkO q loose XP YP l.row.toRowW d [] (fun f vs => PySem.call f vs) := by
  apply Att.attach_call hn hdf
  intro w s₀ s₁ mg mb fa o pm cd doc a vs ns G Y ho hd hcd hmg hobj hints hlen hg
  obtain ⟨fd, hb, hF⟩ := F w mg fa _ (hY w _ Y) G.T.g hmg
  exact lawG (hY w _ Y) G.T.g G.T.b G.T.builtins G.T.nolimit hg hobj hints (Nat.le_trans hlen hn2) hr hF hb fun H hO hS => hsp _ H a ns hlen hO hS
end
end Rp
namespace Bxs
open PySem L2
/-- the draws' box at p: three ints -/
def Bx (H : Hp) (p : Addr) : Prop := ∃ a b c : Int, H p = some (.lst [.int a, .int b, .int c])
/-- the box drawn from, all else as it was -/
def Tk (p : Addr) (H H' : Hp) : Prop := Bx H' p ∧ ∀ q, q ≠ p → H' q = H q
/-- the box drawn from, and new objects made -/
def Al (p : Addr) (H H' : Hp) : Prop := Bx H' p ∧ ∀ q o, q ≠ p → H q = some o → H' q = some o
theorem Tk.al {p : Addr} {H H' : Hp} (h : Tk p H H') : Al p H H' := ⟨h.1, fun q o n e => (h.2 q n).trans e⟩
theorem Al.refl {p : Addr} {H : Hp} (h : Bx H p) : Al p H H := ⟨h, fun _ _ _ e => e⟩
theorem Al.trans {p : Addr} {H H1 H2 : Hp} (a : Al p H H1) (b : Al p H1 H2) : Al p H H2 := ⟨b.1, fun q o n e => b.2 q o n (a.2 q o n e)⟩
theorem Bx.up {p q : Addr} {H : Hp} {o : HO} (h : Bx H p) (n : H q = none) : Bx (upd H q o) p := by
  obtain ⟨a, b, c, e⟩ := h
  exact ⟨a, b, c, by rw [upd_ne (ne_of_none e n)]; exact e⟩
theorem Al.up {p q : Addr} {H : Hp} {o : HO} (h : Bx H p) (n : H q = none) : Al p H (upd H q o) :=
  ⟨h.up n, fun r u _ e => by rw [upd_ne (ne_of_none e n)]; exact e⟩
theorem Al.get {p q : Addr} {H H' : Hp} {o : HO} (a : Al p H H') (e : H q = some o) (n : q ≠ p) : H' q = some o := a.2 q o n e
theorem Al.free {p q : Addr} {H H' : Hp} (a : Al p H H') (h : Bx H p) (e : H' q = none) : H q = none := by
  cases e1 : H q with
  | none => rfl
  | some o =>
    by_cases n : q = p
    · subst n
      obtain ⟨_, _, _, z⟩ := a.1
      rw [z] at e
      cases e
    · rw [a.2 q o n e1] at e
      cases e
theorem Bx.ne {p q : Addr} {H : Hp} (h : Bx H p) (n : H q = none) : p ≠ q := by
  obtain ⟨_, _, _, e⟩ := h
  exact ne_of_none e n

def spTake : Sp := fun vs H Q _ => ∃ (p : Addr) (z : Int), vs = [.ref p, .int z] ∧ Bx H p ∧ 0 < z ∧ z < 1073741824 ∧
  ∀ (d : Int) (H' : Hp), 0 ≤ d → d < z → Tk p H H' → Q (.int d) H'
def spBox : Sp := fun vs H Q _ => ∃ c : Int, vs = [.int c] ∧ ∀ (p : Addr) (H' : Hp), H p = none → Same H H' → Bx H' p → (∀ q, q ≠ p → H' q = H q) → Q (.ref p) H'
def spCell (K : PySem.W.Frag) : Sp := fun vs H Q _ => ∃ (a : Addr) (ns : List Int) (k : Int), vs = [.ref a, .int k] ∧ SqL K H a (ns.map V.int) ∧ 0 ≤ k ∧ ∀ n : Int, Q (.int n) H

section
variable {P : Program} {w : World} {K : PySem.W.Frag} {mg : Str → Option Value} {base : Heap}
theorem scCell : FnScope ["_law_script", "_law_k"] ["_law_script", "_law_k"] (defScope sCell) := ⟨rfl, rfl, rfl, by decide +kernel, rfl, by decide +kernel, by decide +kernel⟩
theorem ok_cell {f : Addr} {fd : FuncData} (F : Fun K "_law_cell" "_law_cell" sCell f fd) (zlen : mg "len" = none) : FnOk P w K mg base CX0 1 f fd ["_law_script", "_law_k"] (spCell K) := by
  refine F.ok scCell (fun vs H Q E h => ?_) (fun cdv A outer s H vs Q E hr h => ?_)
  · obtain ⟨_, _, _, rfl, _⟩ := h
    rfl
  · obtain ⟨a, ns, k, rfl, hS, hk, hQ⟩ := h
    refine ⟨_, pss_cons (ps_if (pt_cmpR op_lt (pv 1) (pe_callB call_len_seq (by rfl) zlen PySem.boot_len (pa_cons (pv 0) pa_nil)) (nomark _))
        (pss_one (ps_ret (pe_ix ix_list (pv 0) (pv 1) (fun _ _ => rfl)))) pss_nil)
      (pss_one (ps_ret (pe_op op_add (pe_op op_mul pe_int (pv 1)) pe_int))), ?_⟩
    refine ⟨_, rfl, _, rfl, a, _, rfl, .inl hS, _, _, rfl, rfl, _, rfl, ?_⟩
    refine ite2 (fun hlt => ?_) (fun _ => ?_)
    · have hl : k < (ns.length : Int) := by simpa using hlt
      obtain ⟨j, rfl⟩ := Int.eq_ofNat_of_zero_le hk
      have hj : j < ns.length := by omega
      refine ⟨_, rfl, _, rfl, a, _, _, _, rfl, rfl, hS, atI_nat (v := V.int ns[j]) (by simp [hj]), hQ _⟩
    · refine ⟨_, rfl, _, _, rfl, rfl, .inl ⟨by decide, by decide⟩, _, _, rfl, rfl, hQ _⟩

theorem scBox : FnScope ["_law_cell_here"] ["_law_cell_here"] (defScope sBox) := ⟨rfl, rfl, rfl, by decide +kernel, rfl, by decide +kernel, by decide +kernel⟩
theorem ok_box {f : Addr} {fd : FuncData} (F : Fun K "_law_box" "_law_box" sBox f fd) (zmax : mg "max" = none) (zint : mg "int" = none) : FnOk P w K mg base CX0 1 f fd ["_law_cell_here"] spBox := by
  refine F.ok scBox (fun vs H Q E h => ?_) (fun cdv A outer s H vs Q E hr h => ?_)
  · obtain ⟨_, rfl, _⟩ := h
    rfl
  · obtain ⟨c, rfl, hQ⟩ := h
    refine ⟨_, pss_one (ps_ret (pe_lst
      (pa_cons (pe_callB (call_max2 rfl) (by rfl) zmax (by decide +kernel) (pa_cons pe_int (pa_cons (pe_op op_sub (pv 0) (pe_op op_pow pe_int pe_int)) pa_nil)))
      (pa_cons (pe_op op_mod (pe_callTy call_int1 (by rfl) zint (by decide +kernel) (pa_cons (pv 0) pa_nil)) pe_int)
      (pa_cons pe_int pa_nil))))), ?_⟩
    refine ⟨_, rfl, _, _, rfl, rfl, ⟨by decide, by decide, by decide⟩, _, _, rfl, rfl, _, _, rfl, _, rfl, .inl ⟨_, rfl, _, _, rfl, rfl, (by show (0 : Int) < _; decide), by show 3 ≤ sizeLine; decide, fun p hp => ?_⟩⟩
    exact hQ p _ hp (fun q o e => by rw [upd_ne (ne_of_none e hp)]; exact e) ⟨_, _, _, upd_same⟩ (fun q n => upd_ne n)

theorem small (x : Int) : (x % 2147483647).natAbs < 2 ^ 64 := by
  have h1 := Int.emod_nonneg x (show (2147483647 : Int) ≠ 0 by decide)
  have h2 := Int.emod_lt_of_pos x (show (0 : Int) < 2147483647 by decide)
  omega
theorem scTake : FnScope ["_law_box_here", "_law_size", "_law_digit", "_law_mixed"] ["_law_box_here", "_law_size"] (defScope sTake) := ⟨rfl, rfl, rfl, by decide +kernel, rfl, by decide +kernel, by decide +kernel⟩
theorem ok_take {f : Addr} {fd : FuncData} (F : Fun K "_law_take" "_law_take" sTake f fd) (zint : mg "int" = none) : FnOk P w K mg base CX0 1 f fd ["_law_box_here", "_law_size"] spTake := by
  refine F.ok scTake (fun vs H Q E h => ?_) (fun cdv A outer s H vs Q E hr h => ?_)
  · obtain ⟨_, _, rfl, _⟩ := h
    rfl
  · obtain ⟨p, z, rfl, ⟨a, b, c, hB⟩, hz, hz2, hQ⟩ := h
    have nd := scTake.nd
    refine ⟨_, pss_cons (ps_if (pt_cmpR op_gt (pe_ix ix_list (pv 0) pe_int (fun _ _ => rfl)) pe_int (nomark _))
        (pss_cons (ps_set (i := 2) nd rfl (Or.inl rfl) (pe_op op_mod (pe_callTy call_int1 (by rfl) zint (by decide +kernel) (pa_cons (pe_ix ix_list (pv 0) pe_int (fun _ _ => rfl)) pa_nil)) (pv 1)))
        (pss_cons (ps_asg (pe_op op_fdiv (pe_ix ix_list (pv 0) pe_int (fun _ _ => rfl)) (pv 1)) (pg_sub (pv 0) pe_int set_list))
        (pss_one (ps_ret (pv 2))))) pss_nil)
      (pss_cons (ps_asg (pe_op op_add (pe_ix ix_list (pv 0) pe_int (fun _ _ => rfl)) pe_int) (pg_sub (pv 0) pe_int set_list))
      (pss_cons (ps_set (i := 3) nd rfl (Or.inl rfl) (pe_op op_mod (pe_callTy call_int1 (by rfl) zint (by decide +kernel) (pa_cons
        (pe_op op_add (pe_op op_add (pe_op op_mul (pe_ix ix_list (pv 0) pe_int (fun _ _ => rfl)) pe_int) (pe_op op_mul pe_int (pe_ix ix_list (pv 0) pe_int (fun _ _ => rfl)))) pe_int) pa_nil)) pe_int))
      (pss_cons (ps_asg (pe_op op_mod (pe_callTy call_int1 (by rfl) zint (by decide +kernel) (pa_cons
        (pe_op op_add (pe_op op_pow (pv 3) pe_int) (pe_op op_mul pe_int (pe_ix ix_list (pv 0) pe_int (fun _ _ => rfl)))) pa_nil)) pe_int) (pg_sub (pv 0) pe_int set_list))
      (pss_one (ps_ret (pe_op op_mod (pe_callTy call_int1 (by rfl) zint (by decide +kernel) (pa_cons (pe_op op_fdiv (pe_ix ix_list (pv 0) pe_int (fun _ _ => rfl)) pe_int) pa_nil)) (pv 1))))))), ?_⟩
    refine ⟨_, rfl, _, _, _, _, rfl, rfl, SqL.of hB, rfl, _, _, rfl, rfl, _, rfl, ?_⟩
    refine ite2 (fun _ => ?_) (fun _ => ?_)
    · refine ⟨_, rfl, _, _, _, _, rfl, rfl, SqL.of hB, rfl, .inl ⟨_, rfl, _, rfl, _, _, rfl, rfl, hz, ?_⟩⟩
      refine ⟨_, rfl, _, _, _, _, rfl, rfl, SqL.of hB, rfl, _, rfl, _, _, rfl, rfl, ⟨hz, hz2⟩, _, rfl, _, _, _, _, rfl, rfl, hB, rfl, _, rfl, ?_⟩
      exact hQ _ _ (Int.emod_nonneg _ (by omega)) (Int.emod_lt_of_pos _ hz) ⟨⟨_, _, _, upd_same⟩, fun q n => upd_ne n⟩
    · refine ⟨_, rfl, _, _, _, _, rfl, rfl, SqL.of hB, rfl, _, _, rfl, rfl, _, rfl, _, _, _, _, rfl, rfl, hB, rfl, ?_⟩
      refine ⟨_, rfl, _, _, _, _, rfl, rfl, SqL.of upd_same, rfl, _, _, rfl, rfl, .inr ⟨by decide, by decide⟩, _, rfl, _, _, _, _, rfl, rfl, SqL.of upd_same, rfl, _, _, rfl, rfl, .inl ⟨by decide, by decide⟩, _, _, rfl, rfl, _, _, rfl, rfl, .inl ⟨_, rfl, _, _, rfl, rfl, (by show (0 : Int) < _; decide), ?_⟩⟩
      refine ⟨_, rfl, _, _, rfl, rfl, ⟨by decide, by decide, small _⟩, _, rfl, _, _, _, _, rfl, rfl, SqL.of upd_same, rfl, _, _, rfl, rfl, .inl ⟨by decide, by decide⟩, _, _, rfl, rfl, .inl ⟨_, rfl, _, _, rfl, rfl, (by show (0 : Int) < _; decide), ?_⟩⟩
      refine ⟨_, rfl, _, _, _, _, rfl, rfl, upd_same, rfl, ?_⟩
      refine ⟨_, rfl, _, _, _, _, rfl, rfl, SqL.of upd_same, rfl, _, _, rfl, rfl, ⟨by decide, by decide⟩, .inl ⟨_, rfl, _, rfl, _, _, rfl, rfl, hz, ?_⟩⟩
      exact hQ _ _ (Int.emod_nonneg _ (by omega)) (Int.emod_lt_of_pos _ hz) ⟨⟨_, _, _, upd_same⟩, fun q n => by rw [upd_ne n, upd_ne n]⟩
end
end Bxs
namespace Bxs
open PySem L2
def Gd (z : Str) : Prop := z.length ≤ 1000 ∧ ∀ c ∈ z.cps.toList, c < 128
/-- a value of some kind, no part of it the box at p -/
inductive Ov (p : Addr) (H : Hp) : V → Prop where
  | non : Ov p H .non
  | bl (b : Bool) : Ov p H (.bl b)
  | int (i : Int) : Ov p H (.int i)
  | str (z : Str) (hz : Gd z) : Ov p H (.str z)
  | lst {a : Addr} {xs : List V} (n : a ≠ p) (e : H a = some (.lst xs)) : Ov p H (.ref a)
  | tup {a : Addr} {xs : List V} (n : a ≠ p) (e : H a = some (.tup xs)) : Ov p H (.ref a)
  | dct {a : Addr} {kvs : List (Key × V)} (n : a ≠ p) (e : H a = some (.dK kvs)) : Ov p H (.ref a)
theorem Ov.al {p : Addr} {H H' : Hp} {v : V} (h : Ov p H v) (k : Al p H H') : Ov p H' v := by
  cases h with
  | non => exact .non
  | bl b => exact .bl b
  | int i => exact .int i
  | str z hz => exact .str z hz
  | lst n e => exact .lst n (k.2 _ _ n e)
  | tup n e => exact .tup n (k.2 _ _ n e)
  | dct n e => exact .dct n (k.2 _ _ n e)
theorem Ov.same {p : Addr} {H H' : Hp} {v : V} (h : Ov p H v) (k : Same H H') : Ov p H' v := by
  cases h with
  | non => exact .non
  | bl b => exact .bl b
  | int i => exact .int i
  | str z hz => exact .str z hz
  | lst n e => exact .lst n (k _ _ e)
  | tup n e => exact .tup n (k _ _ e)
  | dct n e => exact .dct n (k _ _ e)
def isI : V → Bool | .int _ => true | .bl _ => true | _ => false
def isB : V → Bool | .bl _ => true | _ => false
def isS : V → Bool | .str _ => true | _ => false
theorem kit {K : PySem.W.Frag} {p : Addr} {H : Hp} {v : V} (h : Ov p H v) : ∃ t : Value, TyX K H v t ∧
    PySem.W.kitOne K t (.type "int") = some (isI v) ∧ PySem.W.kitOne K t (.type "bool") = some (isB v) ∧ PySem.W.kitOne K t (.type "str") = some (isS v) := by
  cases h with
  | non => exact ⟨_, .base .non, kit_ty (by decide +kernel), kit_ty (by decide +kernel), kit_ty (by decide +kernel)⟩
  | bl b => exact ⟨_, .base (.bl b), kit_ty (by show kitB "bool" "int" = some true; decide +kernel), kit_ty (by show kitB "bool" "bool" = some true; decide +kernel), kit_ty (by show kitB "bool" "str" = some false; decide +kernel)⟩
  | int i => exact ⟨_, .base (.int i), kit_ty (by show kitB "int" "int" = some true; decide +kernel), kit_ty (by show kitB "int" "bool" = some false; decide +kernel), kit_ty (by show kitB "int" "str" = some false; decide +kernel)⟩
  | str z hz => exact ⟨_, .base (.str z), kit_ty (by show kitB "str" "int" = some false; decide +kernel), kit_ty (by show kitB "str" "bool" = some false; decide +kernel), kit_ty (by show kitB "str" "str" = some true; decide +kernel)⟩
  | lst n e => exact ⟨_, .base (.lst e), kit_ty (by show kitB "list" "int" = some false; decide +kernel), kit_ty (by show kitB "list" "bool" = some false; decide +kernel), kit_ty (by show kitB "list" "str" = some false; decide +kernel)⟩
  | tup n e => exact ⟨_, .base (.tup e), kit_ty (by show kitB "tuple" "int" = some false; decide +kernel), kit_ty (by show kitB "tuple" "bool" = some false; decide +kernel), kit_ty (by show kitB "tuple" "str" = some false; decide +kernel)⟩
  | dct n e => exact ⟨_, .base (.dK e), kit_ty (by show kitB "dict" "int" = some false; decide +kernel), kit_ty (by show kitB "dict" "bool" = some false; decide +kernel), kit_ty (by show kitB "dict" "str" = some false; decide +kernel)⟩
theorem len_list (z : Str) : z.length = z.cps.toList.length := rfl

theorem yes_of {σ : St} {H : Hp} {A B : Hp → Prop} (h : A H) : tYes σ H (fun b H3 => if b = true then A H3 else B H3) := by
  show (if true = true then A H else B H)
  rw [if_pos rfl]
  exact h
theorem joinL_nil : ∀ xs : List (List Nat), TL.joinL [] xs = xs.flatten
  | [] => rfl
  | [p] => by simp [TL.joinL]
  | p :: q :: r => by
    show p ++ ([] ++ TL.joinL [] (q :: r)) = _
    rw [joinL_nil (q :: r)]
    simp
theorem join_len (ys : List Str) (h : ∀ y ∈ ys, y.length = 1) : (Txt.join ("" : Str) ys).length = ys.length := by
  rw [len_list, TL.join_eq]
  show (TL.tl (Str.join ("" : Str) ys)).length = _
  rw [TL.tl_join]
  show (TL.joinL [] (ys.map TL.tl)).length = _
  rw [joinL_nil]
  induction ys with
  | nil => rfl
  | cons y ys ih =>
    have h1 := h y (List.mem_cons_self ..)
    have h2 := ih fun z hz => h z (List.mem_cons_of_mem _ hz)
    have h3 : (TL.tl y).length = 1 := h1
    simp only [List.map_cons, List.flatten_cons, List.length_append, List.length_cons, h2, h3]
    omega
theorem sum_len (ys : List Str) (h : ∀ y ∈ ys, y.length = 1) : (ys.map (·.length)).sum = ys.length := by
  induction ys with
  | nil => rfl
  | cons y ys ih =>
    have h1 := h y (List.mem_cons_self ..)
    have h2 := ih fun z hz => h z (List.mem_cons_of_mem _ hz)
    simp only [List.map_cons, List.sum_cons, List.length_cons, h1, h2]
    omega
theorem at_mem {α : Type} {xs : List α} {d : Int} (h0 : 0 ≤ d) (h1 : d < (xs.length : Int)) : ∃ v, atI xs d = some v ∧ v ∈ xs := by
  obtain ⟨j, rfl⟩ := Int.eq_ofNat_of_zero_le h0
  have hj : j < xs.length := by omega
  exact ⟨xs[j], atI_nat (by simp [hj]), List.getElem_mem hj⟩
theorem at_int {ns : List Int} {d : Int} (h0 : 0 ≤ d) (h1 : d < (ns.length : Int)) : ∃ n, atI (ns.map V.int) d = some (V.int n) := by
  obtain ⟨j, rfl⟩ := Int.eq_ofNat_of_zero_le h0
  have hj : j < ns.length := by omega
  exact ⟨ns[j], atI_nat (by simp [hj])⟩
theorem dp_signs {K : PySem.W.Frag} {H : Hp} : ∀ cs : List Nat, DpAll K H (cs.map (fun c => V.str ⟨#[c]⟩)) (cs.map (fun c => PyData.str ⟨#[c]⟩))
  | [] => .nil
  | _ :: cs => .cons (.str _) (dp_signs cs)
theorem can_signs : ∀ cs : List Nat, (∀ c ∈ cs, c < 128) → PyData.canLayAll0 (cs.map (fun c => PyData.str ⟨#[c]⟩)) = true
  | [], _ => rfl
  | c :: cs, h => by
    have h1 := h c (List.mem_cons_self ..)
    have h2 : PyData.canLay0 (.str ⟨#[c]⟩) = true := by
      rw [PyData.canLay0]
      have : c < 0x110000 := by omega
      simp [PyData.strOk, this]
    rw [List.map_cons, PyData.canLayAll0, can_signs cs fun x hx => h x (List.mem_cons_of_mem _ hx), h2]
    rfl
theorem deep_signs : ∀ cs : List Nat, PyData.depthAll (cs.map (fun c => PyData.str ⟨#[c]⟩)) ≤ 1
  | [] => by simp [PyData.depthAll]
  | _ :: cs => by
    have := deep_signs cs
    rw [List.map_cons, PyData.depthAll, PyData.depth]
    omega
theorem shaped_signs (cs : List Nat) (hc : ∀ c ∈ cs, c < 128) : SeqAt.shaped (.list (cs.map (fun c => PyData.str ⟨#[c]⟩))) = true := by
  have h := deep_signs cs
  unfold SeqAt.shaped
  rw [PyData.canLay0, can_signs cs hc]
  have h2 : PyData.depth (.list (cs.map (fun c => PyData.str ⟨#[c]⟩))) ≤ 64 := by
    rw [PyData.depth]
    omega
  simp [h2]
theorem Gd.cut {z : Str} (h : Gd z) (lo hi : Option Int) : ∀ c ∈ (cutS z lo hi).cps.toList, c < 128 := by
  intro c hc
  unfold cutS at hc
  have : c ∈ z.cps.toList := List.mem_of_mem_drop (List.mem_of_mem_take (by simpa using hc))
  exact h.2 c this
theorem toList_app (x y : Str) : (x ++ y).cps.toList = x.cps.toList ++ y.cps.toList := by
  show (x.cps ++ y.cps).toList = _
  simp
theorem len_app (x y : Str) : (x ++ y).length = x.length + y.length := by
  rw [len_list, len_list, len_list, toList_app, List.length_append]
theorem pe_as {X : Cx} {e : Expr} {t t' : TE} (h : PE X e t) (k : ∀ σ H Q, t' σ H Q → t σ H Q) : PE X e t' := ⟨fun pins s σ H Q I q => h.run pins s σ H Q I (k σ H Q q)⟩
theorem same_al {p : Addr} {H H1 H2 : Hp} (hp : H p = none) (s : Same H H1) (k : Al p H1 H2) : Same H H2 := fun q o e =>
  k.2 q o (fun z => by subst z; rw [hp] at e; cases e) (s q o e)
theorem at_str {ys : List Str} {d : Int} (h0 : 0 ≤ d) (h1 : d < (ys.length : Int)) : ∃ y, y ∈ ys ∧ atI (ys.map V.str) d = some (V.str y) := by
  obtain ⟨j, rfl⟩ := Int.eq_ofNat_of_zero_le h0
  have hj : j < ys.length := by omega
  exact ⟨ys[j], List.getElem_mem hj, atI_nat (by simp [hj])⟩
theorem line {n : Nat} (h : n ≤ 1000) : n ≤ sizeLine := Nat.le_trans h (by decide)
end Bxs
namespace Bxs
open PySem L2
open NumText (AllDigits digitsVal)
theorem sig (s : String) : (Str.ofString s).cps.toList = s.toList.map Char.toNat := by
  simp only [Str.ofString_eq_toList, List.toList_toArray]
def isNeg (L : List Nat) : Bool := decide (L.take 1 = [45])
def bd (L : List Nat) : List Nat := if isNeg L then L.drop 1 else L
def dg (c : Nat) : Bool := decide (48 ≤ c) && decide (c ≤ 57)
def okL (L : List Nat) : Bool := (decide (1 ≤ (bd L).length) && decide ((bd L).length ≤ 4)) && (bd L).all dg
def numV (L : List Nat) : Int := if isNeg L then -((digitsVal (bd L) : Nat) : Int) else ((digitsVal (bd L) : Nat) : Int)
def res (z : Str) : V := if okL z.cps.toList = true then (if V.str (Str.ofString (toString (numV z.cps.toList))) = V.str z then .int (numV z.cps.toList) else .non) else .non
theorem dg_all {L : List Nat} (h : L.all dg = true) : AllDigits L := fun c hc => by
  have := List.all_eq_true.mp h c hc
  simp only [dg, Bool.and_eq_true, decide_eq_true_eq] at this
  exact this
theorem all_dg {L : List Nat} (h : AllDigits L) : L.all dg = true := List.all_eq_true.mpr fun c hc => by
  have := h c hc
  simp [dg, this]
theorem fold_lt : ∀ (cs : List Nat) (a : Nat), AllDigits cs → cs.foldl (fun acc c => acc * 10 + (c - 48)) a < (a + 1) * 10 ^ cs.length
  | [], a, _ => by simp
  | c :: cs, a, h => by
    have h1 := fold_lt cs (a * 10 + (c - 48)) h.tail
    have h2 := h.head
    refine Nat.lt_of_lt_of_le h1 ?_
    rw [List.length_cons, Nat.pow_succ, Nat.mul_comm (10 ^ cs.length) 10, ← Nat.mul_assoc]
    exact Nat.mul_le_mul_right _ (by omega)
theorem val_lt {cs : List Nat} (h : AllDigits cs) (hl : cs.length ≤ 4) : digitsVal cs < 10000 := by
  have h1 := fold_lt cs 0 h
  have h2 : 10 ^ cs.length ≤ 10 ^ 4 := Nat.pow_le_pow_right (by decide) hl
  unfold digitsVal
  omega
theorem ok_parts {L : List Nat} (h : okL L = true) : 1 ≤ (bd L).length ∧ (bd L).length ≤ 4 ∧ AllDigits (bd L) := by
  simp only [okL, Bool.and_eq_true, decide_eq_true_eq] at h
  exact ⟨h.1.1, h.1.2, dg_all h.2⟩
theorem numV_small {L : List Nat} (h : okL L = true) : (numV L).natAbs < 10000 := by
  obtain ⟨_, h2, h3⟩ := ok_parts h
  have := val_lt h3 h2
  unfold numV
  split <;> omega
theorem log_small {n : Int} (h : n.natAbs < 20000) : n.natAbs.log2 < 1920 := by
  by_cases z : n.natAbs = 0
  · rw [z]
    decide
  · exact (Nat.log2_lt z).mpr (Nat.lt_of_lt_of_le h (by
      have : 2 ^ 15 ≤ 2 ^ 1920 := Nat.pow_le_pow_right (by decide) (by decide)
      omega))
/-- int(text) of such a text -/
theorem int_of {z : Str} (h : okL z.cps.toList = true) : intText? z = some (numV z.cps.toList) ∧ z.length ≤ 640 := by
  obtain ⟨h1, h2, h3⟩ := ok_parts h
  have hl : z.length = z.cps.toList.length := rfl
  by_cases hn : isNeg z.cps.toList = true
  · have e : bd z.cps.toList = z.cps.toList.drop 1 := if_pos hn
    have e2 : z.cps.toList = 45 :: z.cps.toList.drop 1 := by
      have h4 := of_decide_eq_true hn
      have h5 := List.take_append_drop 1 z.cps.toList
      rw [h4] at h5
      exact h5.symm
    rw [e] at h1 h2 h3
    have h6 : z.cps.toList.length = (z.cps.toList.drop 1).length + 1 := by
      have := congrArg List.length e2
      rw [List.length_cons] at this
      exact this
    refine ⟨?_, by omega⟩
    have h7 := PySem.intText_neg e2 h3 (fun q => by rw [q] at h1; simp at h1) (by omega)
    rw [h7, numV, if_pos hn, e]
  · have e : bd z.cps.toList = z.cps.toList := if_neg hn
    rw [e] at h1 h2 h3
    refine ⟨?_, by omega⟩
    have h7 := PySem.intText_digits h3 (fun q => by rw [q] at h1; simp at h1) (by omega)
    rw [h7, numV, if_neg hn, e]
theorem not_neg {L : List Nat} (h : AllDigits L) : isNeg L = false := by
  cases L with
  | nil => rfl
  | cons c cs =>
    have := h c (List.mem_cons_self ..)
    have h2 : ¬ c = 45 := by omega
    simp [isNeg, h2]
/-- a number's own text is read back -/
theorem res_num {n : Int} (h : n.natAbs < 10000) : res (Str.ofString (toString n)) = .int n := by
  rcases Int.lt_or_le n 0 with hneg | hpos
  · obtain ⟨m, hm⟩ := Int.eq_ofNat_of_zero_le (show 0 ≤ 0 - n by omega)
    have e : (Str.ofString (toString n)).cps.toList = 45 :: TL.numL m := by
      rw [PyProof.Rows.toString_neg hneg, hm, sig, String.toList_append, List.map_append, ← sig, ← sig]
      show _ ++ TL.tl (Str.ofString (toString ((m : Nat) : Int))) = _
      rw [TL.tl_num]
      rfl
    have hl := TL.numL_len (n := m) (k := 4) (by decide) (by omega)
    have hne := TL.numL_ne m
    have h0 : isNeg (45 :: TL.numL m) = true := by simp [isNeg]
    have hb : bd (45 :: TL.numL m) = TL.numL m := by rw [bd, if_pos h0]; rfl
    have hlen : 1 ≤ (TL.numL m).length := List.length_pos_iff.mpr hne
    have hok : okL (45 :: TL.numL m) = true := by
      rw [okL, hb]
      simp [hlen, hl, all_dg (TL.numL_digits m)]
    have hnum : numV (45 :: TL.numL m) = n := by
      rw [numV, if_pos h0, hb, TL.numL_val]
      omega
    rw [res, e, if_pos hok, hnum, if_pos rfl]
  · obtain ⟨m, rfl⟩ := Int.eq_ofNat_of_zero_le hpos
    have e : (Str.ofString (toString ((m : Nat) : Int))).cps.toList = TL.numL m := TL.tl_num m
    have hl := TL.numL_len (n := m) (k := 4) (by decide) (by omega)
    have hne := TL.numL_ne m
    have h0 := not_neg (TL.numL_digits m)
    have hb : bd (TL.numL m) = TL.numL m := by rw [bd, h0]; rfl
    have hlen : 1 ≤ (TL.numL m).length := List.length_pos_iff.mpr hne
    have hok : okL (TL.numL m) = true := by
      rw [okL, hb]
      simp [hlen, hl, all_dg (TL.numL_digits m)]
    have hnum : numV (TL.numL m) = ((m : Nat) : Int) := by
      rw [numV, h0, hb, TL.numL_val]
      rfl
    rw [res, e, if_pos hok, hnum, if_pos rfl]
theorem num_text {n : Int} (h0 : 0 ≤ n) (h : n < 20000) : 1 ≤ (Str.ofString (toString n)).length ∧ (Str.ofString (toString n)).length ≤ 5 ∧ ∀ c ∈ (Str.ofString (toString n)).cps.toList, c < 128 := by
  obtain ⟨m, rfl⟩ := Int.eq_ofNat_of_zero_le h0
  have e : (Str.ofString (toString ((m : Nat) : Int))).cps.toList = TL.numL m := TL.tl_num m
  rw [len_list, e]
  refine ⟨List.length_pos_iff.mpr (TL.numL_ne m), TL.numL_len (by decide) (by omega), fun c hc => ?_⟩
  have := TL.numL_digits m c hc
  omega
theorem num_gd {n : Int} (h : n.natAbs < 10000) : Gd (Str.ofString (toString n)) := by
  rcases Int.lt_or_le n 0 with hneg | hpos
  · have h1 := num_text (n := 0 - n) (by omega) (by omega)
    have e : (Str.ofString (toString n)).cps.toList = 45 :: (Str.ofString (toString (0 - n))).cps.toList := by
      rw [PyProof.Rows.toString_neg hneg, sig, String.toList_append, List.map_append, ← sig, ← sig]
      rfl
    refine ⟨?_, fun c hc => ?_⟩
    · rw [len_list, e, List.length_cons]
      have := h1.2.1
      rw [len_list] at this
      omega
    · rw [e] at hc
      rcases List.mem_cons.mp hc with rfl | hc
      · decide
      · exact h1.2.2 c hc
  · have h1 := num_text (n := n) hpos (by omega)
    exact ⟨by omega, h1.2.2⟩
end Bxs
namespace Bxs
open PySem L2
open NumText (AllDigits digitsVal)
structure Blt (mg : Str → Option Value) : Prop where
  isi : mg "isinstance" = none
  str : mg "str" = none
  int : mg "int" = none
  len : mg "len" = none
  all : mg "all" = none
  max : mg "max" = none
  min : mg "min" = none
  rng : mg "range" = none
  rep : mg "repr" = none
def strRes (v : V) : V := match v with | .str z => res z | _ => .non
theorem reprV {X : Cx} : CallR X (.builtin "repr") (fun xs H Q => (∃ i, xs = [.int i] ∧ i.natAbs.log2 < 1920 ∧ Q (.str (Str.ofString (toString i))) H) ∨ (xs = [.non] ∧ Q (.str "None") H)) := by
  intro pins s σ H xs us Q I r h
  rcases h with ⟨i, rfl, hz, q⟩ | ⟨rfl, q⟩
  · obtain ⟨u, rfl, t, rfl⟩ := vals1 r
    exact PySem.P.repr_of_int hz ⟨.str _, H, I.tok _, ⟨_, rfl⟩, q⟩
  · obtain ⟨u, rfl, hu⟩ := vals1 r
    obtain rfl : u = Value.none := hu
    exact PySem.P.repr_of_none ⟨.str _, H, I.tok _, ⟨_, rfl⟩, q⟩
theorem mulS {X : Cx} : OpR X (binaryOp .Mult) (fun x y H Q => ∃ z n, x = .str z ∧ y = .int n ∧ MulOk z n ∧ Q (.str (Txt.mul z n)) H) := by
  intro pins s σ H x y v u Q I rx ry h
  obtain ⟨z, n, rfl, rfl, ok, q⟩ := h
  obtain ⟨t, rfl⟩ := rx
  obtain ⟨t2, rfl⟩ := ry
  exact PySem.SB.mul ok fun t' k => ⟨.str _, H, I.tok _, ⟨_, rfl⟩, q⟩
def spParse : Sp := fun vs H Q _ => ∃ (p : Addr) (v : V), vs = [v] ∧ Ov p H v ∧ ∀ H', Same H H' → Q (strRes v) H'
def spDue : Sp := fun vs H Q _ => ∃ z : Str, vs = [.str z] ∧ Gd z ∧ ∀ H', Same H H' → Q (res z) H'
def spText : Sp := fun vs H Q _ => ∃ p : Addr, vs = [.ref p] ∧ Bx H p ∧ ∀ (z : Str) (H' : Hp), Gd z → Al p H H' → Q (.str z) H'
theorem digits_in (c : Nat) : decide (c ∈ ("0123456789" : Str).cps.toList) = dg c := by
  have e : ("0123456789" : Str).cps.toList = List.range' 48 10 := by decide +kernel
  rw [e, dg, ← Bool.decide_and]
  exact decide_eq_decide.mpr (by rw [List.mem_range'_1]; omega)
theorem minus_list : ("-" : Str).cps.toList = [45] := by decide +kernel
theorem pre_list (z : Str) : (Txt.removeprefix z "-").cps.toList = bd z.cps.toList := by
  rw [PySem.StrLaws.removeprefix_eq, PySem.StrLaws.subAt_eq]
  have hl : ("-" : Str).length = 1 := by decide +kernel
  rw [hl, minus_list]
  have hz : z.length = z.cps.toList.length := rfl
  by_cases h : isNeg z.cps.toList = true
  · have h1 := of_decide_eq_true h
    have h2 : 1 ≤ z.length := by
      rw [hz]
      rcases hL : z.cps.toList with _ | ⟨c, cs⟩
      · rw [hL] at h1
        simp at h1
      · simp
    rw [bd, if_pos h, if_pos (by simp [h1, h2])]
    show (List.toArray _).toList = _
    rw [List.take_of_length_le (by rw [List.length_drop, hz]; omega)]
  · have h1 : ¬ z.cps.toList.take 1 = [45] := fun q => h (decide_eq_true q)
    rw [bd, if_neg h, if_neg (by simp [h1])]
theorem cut_all (z : Str) : (cutS z (some 1) none).cps.toList = z.cps.toList.drop 1 := by
  unfold cutS
  have e0 : HT.sIx z.length 0 (some 1) = min 1 z.length := HT.sIx_nat _ _ 1
  rw [e0, HT.sIx_none]
  show (List.toArray _).toList = _
  have hz : z.length = z.cps.toList.length := rfl
  by_cases h : 1 ≤ z.length
  · rw [Nat.min_eq_left h, List.take_of_length_le (by rw [List.length_drop, hz]; omega)]
  · have : z.cps.toList = [] := List.eq_nil_of_length_eq_zero (by omega)
    rw [this]
    simp
theorem cut_one (z : Str) : (cutS z none (some 1)).cps.toList = z.cps.toList.take 1 := by
  unfold cutS
  have e0 : HT.sIx z.length z.length (some 1) = min 1 z.length := HT.sIx_nat _ _ 1
  rw [e0, HT.sIx_none]
  show (List.toArray _).toList = _
  have hz : z.length = z.cps.toList.length := rfl
  by_cases h : 1 ≤ z.length
  · rw [Nat.min_eq_left h]
    simp
  · have : z.cps.toList = [] := List.eq_nil_of_length_eq_zero (by omega)
    rw [this]
    simp
theorem str_eq {a b : Str} : decide (V.str a = V.str b) = decide (a.cps.toList = b.cps.toList) := by
  refine decide_eq_decide.mpr ⟨fun h => ?_, fun h => ?_⟩
  · injection h with h
    rw [h]
  · rw [PySem.Str.ext' (Array.toList_inj.mp h)]
theorem first_minus (z : Str) : decide (V.str (cutS z none (some 1)) = V.str "-") = isNeg z.cps.toList := by
  rw [str_eq, cut_one, minus_list]
  rfl
theorem len_bd {z : Str} (h : Gd z) : (bd z.cps.toList).length ≤ 1000 ∧ ∀ c ∈ bd z.cps.toList, c < 128 := by
  have hz : z.length = z.cps.toList.length := rfl
  have h1 := h.1
  unfold bd
  split
  · exact ⟨by rw [List.length_drop]; omega, fun c hc => h.2 c (List.mem_of_mem_drop hc)⟩
  · exact ⟨by omega, h.2⟩
/-- which number a sign is -/
theorem sign_at {c : Nat} (h : 48 ≤ c ∧ c ≤ 57) : ∃ rest, Builtin.Str.occurrences ("0123456789" : Str) ⟨#[c]⟩ 0 ("0123456789" : Str).length 1 = (c - 48) :: rest := by
  obtain ⟨k, hk, rfl⟩ : ∃ k, k < 10 ∧ c = 48 + k := ⟨c - 48, by omega, by omega⟩
  have : ∀ k, k < 10 → Builtin.Str.occurrences ("0123456789" : Str) ⟨#[48 + k]⟩ 0 ("0123456789" : Str).length 1 = [k] := by decide +kernel
  exact ⟨[], by rw [this k hk, show 48 + k - 48 = k by omega]⟩
section
variable {P : Program} {w : World} {K : PySem.W.Frag} {mg : Str → Option Value} {base : Heap}
theorem scParse : FnScope ["text", "digits", "number", "digit"] ["text"] (defScope sParse) := ⟨rfl, rfl, rfl, by decide +kernel, rfl, by decide +kernel, by decide +kernel⟩
theorem ok_parse {f : Addr} {fd : FuncData} {t1 t2 : Tok} (F : Fun K "parse_number" "parse_number" sParse f fd) (gD : mg "DIGITS" = some (.str "0123456789" t1)) (gM : mg "MOST_DIGITS" = some (.int 4 t2)) (T : Blt mg) :
    FnOk P w K mg base CX0 1 f fd ["text"] spParse := by
  refine F.ok scParse (fun vs H Q E h => ?_) (fun cdv A outer s H vs Q E hr h => ?_)
  · obtain ⟨_, _, rfl, _⟩ := h
    rfl
  · obtain ⟨p, v, rfl, hv, hQ⟩ := h
    have nd := scParse.nd
    refine ⟨_, pss_cons (ps_if (pt_not (pt_val (pe_callB call_isi (by rfl) T.isi (by decide +kernel) (pa_cons (pv 0) (pa_cons (pe_bltn (v := .ty "str") (by rfl) T.str (by decide +kernel) rfl) pa_nil)))))
        (pss_one (ps_ret pe_non)) pss_nil)
      (pss_cons (ps_set (i := 1) nd rfl (Or.inl rfl) (pe_bm PySem.F.plainAttrs_str PySem.F.slot_str_removeprefix PySem.F.type_str_removeprefix mt_removeprefix (pv 0) (pa_cons pe_str pa_nil)))
      (pss_cons (ps_if (PW.pt (pw_or (pt_not (pt_chain op_le op_le pe_int (pe_callB call_len_str (by rfl) T.len PySem.boot_len (pa_cons (pv 1) pa_nil)) (pe_glob (v := .int 4) (by rfl) gM ⟨_, rfl⟩)))
          (pw_or1 (pt_not (pt_val (pe_callB (cr_all rfl) (by rfl) T.all (by decide +kernel) (pa_cons
            (pe_lc (own := [("digit", 3)]) (g := gName 3) (tt := tYes) rfl nd (pi_str (pv 1)) (blkOk_by (own := [("digit", 3)]) (N := ["text", "digits", "number", "digit"]) (sc := defScope sParse) (by decide +kernel))
              (fun _ _ _ _ _ => pg_name (i := 3) nd rfl (Or.inl rfl)) (fun _ _ _ _ _ => pts_nil) (fun _ _ _ _ _ => pe_cmpR op_in_sign (pv 3) (pe_glob (v := .str "0123456789") (by rfl) gD ⟨_, rfl⟩) (by rfl))) pa_nil)))))))
        (pss_one (ps_ret pe_non)) pss_nil)
      (pss_cons (ps_set (i := 2) nd rfl (Or.inl rfl) (pe_callTy call_int_str (by rfl) T.int (by decide +kernel) (pa_cons (pv 0) pa_nil)))
      (pss_one (ps_ret (pe_ifExp (pt_cmpR op_eq (pe_callTy call_str_int (by rfl) T.str (by decide +kernel) (pa_cons (pv 2) pa_nil)) (pv 0) (nomark _)) (pv 2) pe_non)))))), ?_⟩
    obtain ⟨t, ty, _, _, k3⟩ := kit (K := K) hv
    refine ⟨_, rfl, _, _, _, _, _, rfl, .ty _, ty, k3, ?_⟩
    refine ⟨_, rfl, ?_⟩
    cases v with
    | str z =>
      have gz : Gd z := by
        cases hv with
        | str _ h => exact h
      have hb := len_bd gz
      have hQ : ∀ H', Same H H' → Q (res z) H' := hQ
      refine ⟨_, rfl, rfl, z, _, rfl, rfl, line gz.1, ?_⟩
      have eD := pre_list z
      generalize Txt.removeprefix z "-" = D at eD
      have lD : D.length = (bd z.cps.toList).length := by rw [len_list, eD]
      have no : okL z.cps.toList = false → Q .non H := fun h => by
        have := hQ H (Same.refl H)
        rw [res, h, if_neg (by decide)] at this
        exact this
      refine ⟨_, rfl, _, rfl, line (by omega), _, _, rfl, rfl, _, rfl, ?_⟩
      cases h1 : decide ((1 : Int) ≤ (D.length : Int)) with
      | false =>
        have : ¬ 1 ≤ (bd z.cps.toList).length := by
          have := of_decide_eq_false h1
          omega
        exact ⟨_, rfl, no (by simp [okL, this])⟩
      | true =>
        refine iteT ⟨_, _, rfl, rfl, _, rfl, ?_⟩
        cases h6 : decide ((D.length : Int) ≤ 4) with
        | false =>
          have : ¬ (bd z.cps.toList).length ≤ 4 := by
            have := of_decide_eq_false h6
            omega
          exact no (by simp [okL, this])
        | true =>
          have a1 : 1 ≤ (bd z.cps.toList).length := by
            have := of_decide_eq_true h1
            omega
          have a4 : (bd z.cps.toList).length ≤ 4 := by
            have := of_decide_eq_true h6
            omega
          refine iteF ⟨_, rfl, _, rfl, fun B hB => ?_⟩
          refine lc_it walk_str (fun i H' => Same H H' ∧ H' B = some (.lst (((D.cps.toList.take i).map dg).map V.bl))) ⟨fun q o e => by rw [upd_ne (ne_of_none e hB)]; exact e, upd_same⟩ (fun _ _ _ _ => trivial) ?_ ?_
          · rintro i x H1 H2 hi ⟨s1, d1⟩ ⟨rfl, c, hc, rfl⟩
            refine ⟨rfl, yes_of ?_⟩
            refine ⟨_, rfl, c, _, rfl, rfl, _, d1, ?_, ?_, ?_⟩
            · have : i ≤ 1000 := by
                have : D.cps.size = D.length := rfl
                omega
              simp only [List.length_map, List.length_take]
              exact Nat.lt_of_le_of_lt (Nat.le_trans (Nat.min_le_left _ _) this) (by decide)
            · intro q o e
              rw [upd_ne (fun z => by subst z; rw [hB] at e; cases e)]
              exact s1 _ _ e
            · have ec : D.cps.toList[i]? = some c := by simpa using hc
              rw [upd_same, digits_in, List.take_add_one, ec]
              simp
          · rintro H1 ⟨s1, d1⟩
            have e : (D.cps.toList.take D.cps.size).map dg = D.cps.toList.map dg := by rw [List.take_of_length_le (by simp)]
            rw [e, eD] at d1
            refine ⟨_, _, rfl, SqL.of d1, _, rfl, ?_⟩
            have ea : (List.map dg (bd z.cps.toList)).all id = (bd z.cps.toList).all dg := by rw [List.all_map]; rfl
            rw [ea]
            have hQ1 := hQ H1 s1
            cases hd : (bd z.cps.toList).all dg with
            | false =>
              have hk : okL z.cps.toList = false := by simp [okL, hd]
              rw [res, hk, if_neg (by decide)] at hQ1
              exact hQ1
            | true =>
              have hk : okL z.cps.toList = true := by simp [okL, hd, a1, a4]
              obtain ⟨i1, i2⟩ := int_of hk
              rw [res, if_pos hk] at hQ1
              have lg := log_small (Nat.lt_trans (numV_small hk) (by decide))
              refine ⟨_, rfl, _, _, rfl, i1, i2, ?_⟩
              refine ⟨_, rfl, _, rfl, lg, _, rfl, rfl, _, rfl, ?_⟩
              refine ite2 (fun h => ?_) (fun h => ?_)
              · rw [if_pos (of_decide_eq_true h)] at hQ1
                exact ⟨_, rfl, hQ1⟩
              · rw [if_neg (fun q => h (decide_eq_true q))] at hQ1
                exact hQ1
    | _ => exact hQ H (Same.refl H)
end
end Bxs
namespace Bxs
open PySem L2
open NumText (AllDigits digitsVal)
theorem none_bad (cs : List Nat) : PyData.eqv (.list ((cs.filter fun c => !dg c).map (fun c => PyData.str ⟨#[c]⟩))) (.list []) = cs.all dg := by
  rw [PyData.eqv]
  induction cs with
  | nil => rfl
  | cons c cs ih =>
    cases h : dg c with
    | true => simp [List.filter_cons, h, ih]
    | false => simp [List.filter_cons, h, PyData.eqvAll]
/-- the number so far -/
def acc (cs : List Nat) : Int := ((digitsVal cs : Nat) : Int)
theorem acc_next (cs : List Nat) {c : Nat} (h : 48 ≤ c ∧ c ≤ 57) : 10 * acc cs + (((c - 48 : Nat)) : Int) = acc (cs ++ [c]) := by
  unfold acc digitsVal
  rw [List.foldl_append]
  simp only [List.foldl_cons, List.foldl_nil]
  omega
theorem at_intM {ns : List Int} {d : Int} (h0 : 0 ≤ d) (h1 : d < (ns.length : Int)) : ∃ n, n ∈ ns ∧ atI (ns.map V.int) d = some (V.int n) := by
  obtain ⟨j, rfl⟩ := Int.eq_ofNat_of_zero_le h0
  have hj : j < ns.length := by omega
  exact ⟨ns[j], List.getElem_mem hj, atI_nat (by simp [hj])⟩
abbrev heads : List Str := ["", "-", "0", "-0", "+", " ", "--"]
theorem heads_ok : ∀ y ∈ heads, y.length ≤ 2 ∧ ∀ c ∈ y.cps.toList, c < 128 := by decide +kernel
abbrev signs2 : Str := "0123456789-+ ._aeOl\n~"
theorem signs2_gd : ∀ c ∈ signs2.cps.toList, c < 128 := by decide +kernel
theorem zeros_len : (Txt.mul ("0" : Str) 190).length = 190 := by decide +kernel
theorem zeros_gd : ∀ c ∈ (Txt.mul ("0" : Str) 190).cps.toList, c < 128 := by decide +kernel
theorem gd_app {x y : Str} (hx : ∀ c ∈ x.cps.toList, c < 128) (hy : ∀ c ∈ y.cps.toList, c < 128) : ∀ c ∈ (x ++ y).cps.toList, c < 128 := fun c hc => by
  rw [toList_app, List.mem_append] at hc
  exact hc.elim (hx c) (hy c)
section
variable {P : Program} {w : World} {K : PySem.W.Frag} {mg : Str → Option Value} {base : Heap}
theorem scDue : FnScope ["_law_text_here", "_law_digits", "_law_sign", "_law_number"] ["_law_text_here"] (defScope sDue) := ⟨rfl, rfl, rfl, by decide +kernel, rfl, by decide +kernel, by decide +kernel⟩
theorem ok_due {f : Addr} {fd : FuncData} (F : Fun K "_law_due" "_law_due" sDue f fd) (T : Blt mg) : FnOk P w K mg base CX0 1 f fd ["_law_text_here"] spDue := by
  refine F.ok scDue (fun vs H Q E h => ?_) (fun cdv A outer s H vs Q E hr h => ?_)
  · obtain ⟨_, rfl, _⟩ := h
    rfl
  · obtain ⟨z, rfl, gz, hQ⟩ := h
    have nd := scDue.nd
    refine ⟨_, pss_cons (ps_set (i := 1) nd rfl (Or.inl rfl) (pe_as (t' := fun σ H Q => ∃ z : Str, σ[0]? = some (some (.str z)) ∧ Gd z ∧ ∀ D : Str, D.cps.toList = bd z.cps.toList → Q (.str D) H) (pe_ifExp (pt_cmpR op_eq (pe_slice sl_str (pv 0) po_none (po_some pe_int)) pe_str (nomark _)) (pe_slice sl_str (pv 0) (po_some pe_int) po_none) (pv 0)) ?e1))
      (pss_cons (ps_if (PW.pt (pw_or (pt_not (pt_chain op_le op_le pe_int (pe_callB call_len_str (by rfl) T.len PySem.boot_len (pa_cons (pv 1) pa_nil)) pe_int))
          (pw_or1 (pt_cmpR (op_neD hr.units) (pe_lc (own := [("_law_sign", 2)]) (g := gName 2) rfl nd (pi_str (pv 1)) (blkOk_by (own := [("_law_sign", 2)]) (N := ["_law_text_here", "_law_digits", "_law_sign", "_law_number"]) (sc := defScope sDue) (by decide +kernel))
            (fun _ _ _ _ _ => pg_name (i := 2) nd rfl (Or.inl rfl)) (fun _ _ _ _ _ => pts_one (pt_cmpR op_notIn_sign (pv 2) pe_str (by rfl))) (fun _ _ _ _ _ => pv 2)) (pe_lst pa_nil) (nomark _)))))
        (pss_one (ps_ret pe_non)) pss_nil)
      (pss_cons (ps_set (i := 3) nd rfl (Or.inl rfl) pe_int)
      (pss_cons (ps_for PassesOwn.never rfl (pi_str (pv 1)) (pg_name (i := 2) nd rfl (Or.inl rfl))
        (pss_one (ps_set (i := 3) nd rfl (Or.inl rfl) (pe_op op_add (pe_op op_mul pe_int (pv 3)) (pe_bm PySem.F.plainAttrs_str PySem.F.slot_str_index PySem.F.type_str_index mt_sindex pe_str (pa_cons (pv 2) pa_nil))))))
      (pss_cons (ps_set (i := 3) nd rfl (Or.inl rfl) (pe_as (t' := fun σ H Q => ∃ (z : Str) (n : Int), σ[0]? = some (some (.str z)) ∧ σ[3]? = some (some (.int n)) ∧ Gd z ∧ Q (.int (if isNeg z.cps.toList = true then -n else n)) H) (pe_ifExp (pt_cmpR op_eq (pe_slice sl_str (pv 0) po_none (po_some pe_int)) pe_str (nomark _)) (pe_un un_neg (pv 3)) (pv 3)) ?e2))
      (pss_one (ps_ret (pe_ifExp (pt_cmpR op_eq (pe_callTy call_str_int (by rfl) T.str (by decide +kernel) (pa_cons (pv 3) pa_nil)) (pv 0) (nomark _)) (pv 3) pe_non))))))), ?_⟩
    case e1 =>
      rintro σ H Q ⟨z, e0, gz, hq⟩
      refine ⟨_, e0, _, rfl, z, rfl, line gz.1, rfl, _, rfl, ?_⟩
      rw [first_minus]
      cases hn : isNeg z.cps.toList with
      | true => exact ⟨_, e0, _, rfl, z, rfl, line gz.1, hq _ (by rw [cut_all, bd, if_pos hn])⟩
      | false => exact ⟨_, e0, hq _ (by rw [bd, if_neg (by rw [hn]; decide)])⟩
    case e2 =>
      rintro σ H Q ⟨z, n, e0, e3, gz, hq⟩
      refine ⟨_, e0, _, rfl, z, rfl, line gz.1, rfl, _, rfl, ?_⟩
      rw [first_minus]
      cases hn : isNeg z.cps.toList with
      | true =>
        rw [hn, if_pos rfl] at hq
        exact ⟨_, e3, _, rfl, hq⟩
      | false =>
        rw [hn, if_neg (by decide)] at hq
        exact ⟨_, e3, hq⟩
    have hb := len_bd gz
    refine ⟨z, rfl, gz, fun D eD => ?_⟩
    have lD : D.length = (bd z.cps.toList).length := by rw [len_list, eD]
    have no : okL z.cps.toList = false → ∀ H', Same H H' → Q .non H' := fun h H' s => by
      have := hQ H' s
      rw [res, h, if_neg (by decide)] at this
      exact this
    refine ⟨_, rfl, _, rfl, line (by omega), _, _, rfl, rfl, _, rfl, ?_⟩
    cases h1 : decide ((1 : Int) ≤ (D.length : Int)) with
    | false =>
      have : ¬ 1 ≤ (bd z.cps.toList).length := by
        have := of_decide_eq_false h1
        omega
      exact ⟨_, rfl, no (by simp [okL, this]) H (Same.refl H)⟩
    | true =>
      refine iteT ⟨_, _, rfl, rfl, _, rfl, ?_⟩
      cases h6 : decide ((D.length : Int) ≤ 4) with
      | false =>
        have : ¬ (bd z.cps.toList).length ≤ 4 := by
          have := of_decide_eq_false h6
          omega
        exact no (by simp [okL, this]) H (Same.refl H)
      | true =>
        have a1 : 1 ≤ (bd z.cps.toList).length := by
          have := of_decide_eq_true h1
          omega
        have a4 : (bd z.cps.toList).length ≤ 4 := by
          have := of_decide_eq_true h6
          omega
        refine iteF ⟨_, rfl, _, rfl, fun B hB => ?_⟩
        refine lc_it walk_str (fun i H' => Same H H' ∧ H' B = some (.lst (((D.cps.toList.take i).filter (fun c => !dg c)).map (fun c => V.str ⟨#[c]⟩)))) ⟨fun q o e => by rw [upd_ne (ne_of_none e hB)]; exact e, upd_same⟩ (fun _ _ _ _ => trivial) ?_ ?_
        · rintro i x H2 H1 hi ⟨s1, d1⟩ ⟨rfl, c, hc, rfl⟩
          have ec : D.cps.toList[i]? = some c := by simpa using hc
          refine ⟨rfl, ?_⟩
          refine ⟨_, rfl, _, _, rfl, rfl, _, rfl, ?_⟩
          rw [digits_in]
          cases hd : dg c with
          | true =>
            refine ⟨s1, ?_⟩
            rw [d1, List.take_add_one, ec]
            simp [List.filter_append, List.filter_cons, hd]
          | false =>
            refine ⟨_, rfl, _, d1, ?_, ?_, ?_⟩
            · have : i ≤ 1000 := by
                have : D.cps.size = D.length := rfl
                omega
              rw [List.length_map]
              exact Nat.lt_of_le_of_lt (Nat.le_trans (List.length_filter_le ..) (Nat.le_trans (by rw [List.length_take]; exact Nat.min_le_left ..) this)) (by decide)
            · intro q o e
              rw [upd_ne (fun z => by subst z; rw [hB] at e; cases e)]
              exact s1 _ _ e
            · rw [upd_same, List.take_add_one, ec]
              simp [List.filter_append, List.filter_cons, hd]
        · rintro H1 ⟨s1, d1⟩
          have e : D.cps.toList.take D.cps.size = D.cps.toList := by rw [List.take_of_length_le (by simp)]
          rw [e, eD] at d1
          refine ⟨Nat.zero_le _, fun e2 n2 => ?_⟩
          have ne : B ≠ e2 := ne_of_none d1 n2
          refine ⟨.list _, .list [], .lst (SqL.of (by rw [upd_ne ne]; exact d1)) (dp_signs _), .lst (SqL.of upd_same) .nil, shaped_signs _ (fun c hc => hb.2 c (List.mem_filter.mp hc).1), by rfl, _, rfl, ?_⟩
          rw [none_bad]
          have s2 : Same H (upd H1 e2 (.lst [])) := fun q o h => by rw [upd_ne (ne_of_none (s1 _ _ h) n2)]; exact s1 _ _ h
          cases hd : (bd z.cps.toList).all dg with
          | false => exact no (by simp [okL, hd]) _ s2
          | true =>
            have hk : okL z.cps.toList = true := by simp [okL, hd, a1, a4]
            have hdig := dg_all hd
            refine ⟨_, rfl, _, rfl, ?_⟩
            refine for_it walk_str (fun i σ H' => ∃ w2, σ = [some (.str z), some (.str D), w2, some (.int (acc (D.cps.toList.take i)))] ∧ H' = upd H1 e2 (.lst [])) ⟨_, rfl, rfl⟩ (fun _ _ _ _ _ => trivial) ?_ ?_
            · rintro i x _ H2 H3 hi ⟨w2, rfl, rfl⟩ ⟨rfl, c, hc, rfl⟩
              have ec : D.cps.toList[i]? = some c := by simpa using hc
              have hcd := hdig c (by rw [← eD]; exact List.mem_of_getElem? ec)
              obtain ⟨rest, ho⟩ := sign_at hcd
              refine ⟨_, rfl, _, _, rfl, rfl, .inl ⟨by decide, by decide⟩, rfl, _, rfl, _, _, _, rest, rfl, rfl, ho, _, _, rfl, rfl, ?_⟩
              have ea : 10 * acc (D.cps.toList.take i) + ((c - 48 : Nat) : Int) = acc (D.cps.toList.take (i + 1)) := by
                rw [acc_next _ hcd, List.take_add_one, ec]
                rfl
              exact ⟨some (.str ⟨#[c]⟩), by rw [← ea]; rfl, rfl⟩
            · rintro _ H2 ⟨w2, rfl, rfl⟩
              rw [e, eD]
              refine ⟨z, _, rfl, rfl, gz, ?_⟩
              have hnum : (if isNeg z.cps.toList = true then -acc (bd z.cps.toList) else acc (bd z.cps.toList)) = numV z.cps.toList := rfl
              rw [hnum]
              have lg := log_small (Nat.lt_trans (numV_small hk) (by decide))
              have hQ1 := hQ _ s2
              rw [res, if_pos hk] at hQ1
              refine ⟨_, rfl, _, rfl, lg, _, rfl, rfl, _, rfl, ?_⟩
              refine ite2 (fun h => ?_) (fun h => ?_)
              · rw [if_pos (of_decide_eq_true h)] at hQ1
                exact ⟨_, rfl, hQ1⟩
              · rw [if_neg (fun q => h (decide_eq_true q))] at hQ1
                exact hQ1
theorem scText : FnScope ["_law_box_here", "_law_first", "_law_text_here", "_law_at", "_law_way", "_law_signs", "_law_sign"] ["_law_box_here"] (defScope sText) := ⟨rfl, rfl, rfl, by decide +kernel, rfl, by decide +kernel, by decide +kernel⟩
theorem ok_text {f g : Addr} {fd gd : FuncData} (F : Fun K "_law_text" "_law_text" sText f fd) (G : Fun K "_law_take" "_law_take" sTake g gd) (b : Binds K gd ["_law_box_here", "_law_size"] []) (gT : mg "_law_take" = some (.ref g)) (T : Blt mg) :
    FnOk P w K mg base CX0 2 f fd ["_law_box_here"] spText := by
  refine F.ok scText (fun vs H Q E h => ?_) (fun cdv A outer s H vs Q E hr h => ?_)
  · obtain ⟨_, rfl, _⟩ := h
    rfl
  · obtain ⟨p, rfl, B0, hQ⟩ := h
    have nd := scText.nd
    have GT := ok_take (P := P) (w := w) (base := base) G T.int
    refine ⟨_, pss_cons (ps_set (i := 1) nd rfl (Or.inl rfl) (pe_ix ix_list (pe_lst (pa_cons pe_int (pa_cons pe_int (pa_cons pe_int (pa_cons pe_int (pa_cons pe_int
          (pa_cons (pe_call GT hr (by rfl) gT G.kp b .nil pass0 (pa_cons (pv 0) (pa_cons pe_int pa_nil))) (pa_cons (pe_call GT hr (by rfl) gT G.kp b .nil pass0 (pa_cons (pv 0) (pa_cons pe_int pa_nil))) pa_nil))))))))
        (pe_call GT hr (by rfl) gT G.kp b .nil pass0 (pa_cons (pv 0) (pa_cons pe_int pa_nil))) (fun _ _ => rfl)))
      (pss_cons (ps_set (i := 2) nd rfl (Or.inl rfl) (pe_op op_add_str (pe_ix ix_list (pe_lst (pa_cons pe_str (pa_cons pe_str (pa_cons pe_str (pa_cons pe_str (pa_cons pe_str (pa_cons pe_str (pa_cons pe_str pa_nil))))))))
          (pe_callB (call_max2 rfl) (by rfl) T.max (by decide +kernel) (pa_cons pe_int (pa_cons (pe_op op_sub (pe_call GT hr (by rfl) gT G.kp b .nil pass0 (pa_cons (pv 0) (pa_cons pe_int pa_nil))) pe_int) pa_nil))) (fun _ _ => rfl))
        (pe_callTy call_str_int (by rfl) T.str (by decide +kernel) (pa_cons (pv 1) pa_nil))))
      (pss_cons (ps_par (i := 3) (j := 4) (by rfl) nd rfl rfl (by decide) rfl rfl (pa_cons (pe_call GT hr (by rfl) gT G.kp b .nil pass0 (pa_cons (pv 0) (pa_cons (pe_callB call_len_str (by rfl) T.len PySem.boot_len (pa_cons (pv 2) pa_nil)) pa_nil)))
          (pa_cons (pe_call GT hr (by rfl) gT G.kp b .nil pass0 (pa_cons (pv 0) (pa_cons pe_int pa_nil))) pa_nil)) (by rfl))
      (pss_cons (ps_set (i := 5) nd rfl (Or.inl rfl) pe_str)
      (pss_cons (ps_set (i := 6) nd rfl (Or.inl rfl) (pe_ix ix_str (pv 5) (pe_call GT hr (by rfl) gT G.kp b .nil pass0 (pa_cons (pv 0) (pa_cons (pe_callB call_len_str (by rfl) T.len PySem.boot_len (pa_cons (pv 5) pa_nil)) pa_nil))) (fun _ _ => rfl)))
      (pss_cons (ps_if (pt_cmpR op_eq (pv 4) pe_int (nomark _)) (pss_one (ps_ret (pe_op op_add_str (pe_op op_add_str (pe_slice sl_str (pv 2) po_none (po_some (pv 3))) (pv 6)) (pe_slice sl_str (pv 2) (po_some (pe_op op_add (pv 3) pe_int)) po_none)))) pss_nil)
      (pss_cons (ps_if (pt_cmpR op_eq (pv 4) pe_int (nomark _)) (pss_one (ps_ret (pe_op op_add_str (pe_op op_add_str (pe_slice sl_str (pv 2) po_none (po_some (pv 3))) (pv 6)) (pe_slice sl_str (pv 2) (po_some (pv 3)) po_none)))) pss_nil)
      (pss_cons (ps_if (pt_cmpR op_eq (pv 4) pe_int (nomark _)) (pss_one (ps_ret (pe_op op_add_str (pe_slice sl_str (pv 2) po_none (po_some (pv 3))) (pe_slice sl_str (pv 2) (po_some (pe_op op_add (pv 3) pe_int)) po_none)))) pss_nil)
      (pss_one (ps_ret (pe_ifExp (PW.pt (pw_and (pt_cmpR op_eq (pv 4) pe_int (nomark _)) (pw_and1 (pt_cmpR op_eq (pe_call GT hr (by rfl) gT G.kp b .nil pass0 (pa_cons (pv 0) (pa_cons pe_int pa_nil))) pe_int (nomark _)))))
        (pe_op op_add_str (pv 2) (pe_op mulS pe_str pe_int)) (pv 2))))))))))), ?_⟩
    refine ⟨_, rfl, p, 10000, rfl, B0, by decide, by decide, fun x1 H1 _ _ tk1 => ⟨_, rfl, p, 20000, rfl, tk1.1, by decide, by decide, fun x2 H2 _ _ tk2 => ⟨by show 7 ≤ sizeLine; decide, fun l3 n3 => ?_⟩⟩⟩
    refine ⟨_, rfl, p, 7, rfl, tk2.1.up n3, by decide, by decide, fun d4 H4 h40 h41 tk4 => ?_⟩
    have hL4 := (tk4.2 l3 (tk2.1.ne n3).symm).trans upd_same
    obtain ⟨n, hnm, hn⟩ := at_intM (ns := [0, 9, 10, 9999, 10000, x1, x2]) h40 (by simpa using h41)
    have hb : 0 ≤ n ∧ n < 20000 := by
      simp only [List.mem_cons, List.not_mem_nil, or_false] at hnm
      omega
    obtain ⟨n0, n1⟩ := hb
    refine ⟨l3, _, d4, .int n, rfl, rfl, SqL.of hL4, hn, ?_⟩
    have k4 : Al p H H4 := tk1.al.trans (tk2.al.trans ((Al.up tk2.1 n3).trans tk4.al))
    refine ⟨by show 7 ≤ sizeLine; decide, fun l5 n5 => ?_⟩
    refine ⟨_, rfl, p, 14, rfl, k4.1.up n5, by decide, by decide, fun d6 H6 h60 h61 tk6 => ?_⟩
    have hL6 := (tk6.2 l5 (k4.1.ne n5).symm).trans upd_same
    have k6 : Al p H H6 := k4.trans ((Al.up k4.1 n5).trans tk6.al)
    refine ⟨_, _, rfl, rfl, _, _, rfl, ?_⟩
    have hj : 0 ≤ (if d6 - 7 > 0 then d6 - 7 else 0) ∧ (if d6 - 7 > 0 then d6 - 7 else 0) < 7 := by split <;> omega
    generalize (if d6 - 7 > 0 then d6 - 7 else 0) = j at hj
    obtain ⟨pre, hpm, hpre⟩ := at_str (ys := heads) hj.1 (by simpa using hj.2)
    obtain ⟨hp1, hp2⟩ := heads_ok pre hpm
    refine ⟨l5, _, j, .str pre, rfl, rfl, SqL.of hL6, hpre, ?_⟩
    obtain ⟨t1, t2, t3⟩ := num_text n0 n1
    refine ⟨_, rfl, n, rfl, log_small (by omega), _, _, rfl, rfl, line (by omega), ?_⟩
    have zlen := len_app pre (Str.ofString (toString n))
    have zgd := gd_app hp2 t3
    generalize (pre ++ Str.ofString (toString n)) = z at zlen zgd
    have gz : Gd z := ⟨by omega, zgd⟩
    have zl : z.length ≤ 7 := by omega
    refine ⟨_, rfl, _, rfl, _, rfl, line (by omega), p, _, rfl, tk6.1, by omega, by omega, fun at7 H7 _ _ tk7 => ⟨_, rfl, p, 6, rfl, tk7.1, by decide, by decide, fun way H8 _ _ tk8 => ⟨_, _, rfl, ?_⟩⟩⟩
    refine ⟨_, rfl, _, rfl, _, rfl, _, rfl, by decide +kernel, p, _, rfl, tk8.1, by decide +kernel, by decide +kernel, fun d9 H9 h90 h91 tk9 => ?_⟩
    obtain ⟨c, hc, hcm⟩ := at_mem (xs := signs2.cps.toList) h90 h91
    have cgd : ∀ e ∈ (⟨#[c]⟩ : Str).cps.toList, e < 128 := fun e he => by
      have : e = c := by simpa using he
      rw [this]
      exact signs2_gd c hcm
    have clen : (⟨#[c]⟩ : Str).length = 1 := rfl
    have k9 : Al p H H9 := k6.trans (tk7.al.trans (tk8.al.trans tk9.al))
    have a1 := cutS_length z (none : Option Int) (some at7)
    have a2 := cutS_length z (some (at7 + 1)) (none : Option Int)
    have a3 := cutS_length z (some at7) (none : Option Int)
    have g1 := gz.cut (none : Option Int) (some at7)
    have g2 := gz.cut (some (at7 + 1)) (none : Option Int)
    have g3 := gz.cut (some at7) (none : Option Int)
    have b1 := len_app (cutS z none (some at7)) ⟨#[c]⟩
    have b2 := len_app (cutS z none (some at7) ++ ⟨#[c]⟩) (cutS z (some (at7 + 1)) none)
    have b3 := len_app (cutS z none (some at7) ++ ⟨#[c]⟩) (cutS z (some at7) none)
    have b4 := len_app (cutS z none (some at7)) (cutS z (some (at7 + 1)) none)
    have b5 := len_app z (Txt.mul ("0" : Str) 190)
    rw [zeros_len] at b5
    refine ⟨_, _, c, rfl, rfl, by decide +kernel, hc, ?_⟩
    refine ⟨_, rfl, rfl, _, rfl, ?_⟩
    refine ite2 (fun _ => ?_) (fun _ => ?_)
    · exact ⟨_, rfl, _, rfl, _, rfl, _, rfl, line gz.1, _, rfl, _, _, rfl, rfl, line (by omega), _, rfl, _, rfl, _, _, rfl, rfl, _, rfl, _, rfl, line gz.1, _, _, rfl, rfl, line (by omega), hQ _ _ ⟨by omega, gd_app (gd_app g1 cgd) g2⟩ k9⟩
    refine ⟨_, rfl, rfl, _, rfl, ?_⟩
    refine ite2 (fun _ => ?_) (fun _ => ?_)
    · exact ⟨_, rfl, _, rfl, _, rfl, _, rfl, line gz.1, _, rfl, _, _, rfl, rfl, line (by omega), _, rfl, _, rfl, _, rfl, _, rfl, line gz.1, _, _, rfl, rfl, line (by omega), hQ _ _ ⟨by omega, gd_app (gd_app g1 cgd) g3⟩ k9⟩
    refine ⟨_, rfl, rfl, _, rfl, ?_⟩
    refine ite2 (fun _ => ?_) (fun _ => ?_)
    · exact ⟨_, rfl, _, rfl, _, rfl, _, rfl, line gz.1, _, rfl, _, rfl, _, _, rfl, rfl, _, rfl, _, rfl, line gz.1, _, _, rfl, rfl, line (by omega), hQ _ _ ⟨by omega, gd_app g1 g2⟩ k9⟩
    refine ⟨_, rfl, rfl, _, rfl, ?_⟩
    refine ite2 (fun _ => ?_) (fun _ => ?_)
    · refine ⟨_, rfl, p, 4, rfl, tk9.1, by decide, by decide, fun d10 H10 _ _ tk10 => ⟨rfl, _, rfl, ?_⟩⟩
      refine ite2 (fun _ => ?_) (fun _ => ?_)
      · refine ⟨_, rfl, _, _, rfl, rfl, ⟨by decide, fun _ _ => by decide +kernel, fun _ _ => by decide +kernel⟩, _, _, rfl, rfl, ?_, ?_⟩
        · rw [zeros_len]
          exact line (by omega)
        · exact hQ _ _ ⟨by omega, gd_app zgd zeros_gd⟩ (k9.trans tk10.al)
      · exact ⟨_, rfl, hQ _ _ gz (k9.trans tk10.al)⟩
    · exact ⟨_, rfl, hQ _ _ gz k9⟩
end
end Bxs
namespace Bxs
open PySem L2
theorem res_cases (z : Str) : (∃ n : Int, res z = .int n ∧ n.natAbs < 10000) ∨ res z = .non := by
  unfold res
  split
  · next h =>
    split
    · exact .inl ⟨_, rfl, numV_small h⟩
    · exact .inr rfl
  · exact .inr rfl
def spLaw (K : PySem.W.Frag) : Sp := fun vs H Q _ => ∃ (a : Addr) (ns : List Int), vs = [.ref a] ∧ SqL K H a (ns.map V.int) ∧ ns.length ≤ 63 ∧ ∀ H', Q (.bl true) H'
abbrev lawN : List Str := ["_law_script", "_law_k", "_law_box_here", "_law_turn", "_law_text_here", "_law_again", "_law_number", "_law_odd"]
theorem scLaw : FnScope lawN ["_law_script"] (defScope sLaw) := ⟨rfl, rfl, rfl, by decide +kernel, rfl, by decide +kernel, by decide +kernel⟩
structure Tops (K : PySem.W.Frag) (mg : Str → Option Value) where
  (aParse aCell aBox aTake aText aDue : Addr)
  (dParse dCell dBox dTake dText dDue : FuncData)
  (t1 t2 : Tok)
  B : Blt mg
  gD : mg "DIGITS" = some (.str "0123456789" t1)
  gM : mg "MOST_DIGITS" = some (.int 4 t2)
  fParse : Fun K "parse_number" "parse_number" sParse aParse dParse
  fCell : Fun K "_law_cell" "_law_cell" sCell aCell dCell
  fBox : Fun K "_law_box" "_law_box" sBox aBox dBox
  fTake : Fun K "_law_take" "_law_take" sTake aTake dTake
  fText : Fun K "_law_text" "_law_text" sText aText dText
  fDue : Fun K "_law_due" "_law_due" sDue aDue dDue
  gParse : mg "parse_number" = some (.ref aParse)
  gCell : mg "_law_cell" = some (.ref aCell)
  gBox : mg "_law_box" = some (.ref aBox)
  gTake : mg "_law_take" = some (.ref aTake)
  gText : mg "_law_text" = some (.ref aText)
  gDue : mg "_law_due" = some (.ref aDue)
  bParse : Binds K dParse ["text"] []
  bCell : Binds K dCell ["_law_script", "_law_k"] []
  bBox : Binds K dBox ["_law_cell_here"] []
  bTake : Binds K dTake ["_law_box_here", "_law_size"] []
  bText : Binds K dText ["_law_box_here"] []
  bDue : Binds K dDue ["_law_text_here"] []
section
variable {P : Program} {w : World} {K : PySem.W.Frag} {mg : Str → Option Value} {base : Heap}
theorem ok_law {f : Addr} {fd : FuncData} (F : Fun K "law" "law" sLaw f fd) (Z : Tops K mg) : Rp.FnG P w K mg base 4 f fd ["_law_script"] (spLaw K) := by
  have T := Z.B
  have GP : FnOk P w K mg base CX0 1 Z.aParse Z.dParse ["text"] spParse := ok_parse Z.fParse Z.gD Z.gM T
  have GC : FnOk P w K mg base CX0 1 Z.aCell Z.dCell ["_law_script", "_law_k"] (spCell K) := ok_cell Z.fCell T.len
  have GB : FnOk P w K mg base CX0 1 Z.aBox Z.dBox ["_law_cell_here"] spBox := ok_box Z.fBox T.max T.int
  have GT : FnOk P w K mg base CX0 1 Z.aTake Z.dTake ["_law_box_here", "_law_size"] spTake := ok_take Z.fTake T.int
  have GX : FnOk P w K mg base CX0 2 Z.aText Z.dText ["_law_box_here"] spText := ok_text Z.fText Z.fTake Z.bTake Z.gTake T
  have GD : FnOk P w K mg base CX0 1 Z.aDue Z.dDue ["_law_text_here"] spDue := ok_due Z.fDue T
  refine Rp.fnG F scLaw (fun vs H Q E h => ?_) (fun cdv A outer s H vs Q E hg hr h => ?_)
  · obtain ⟨a, ns, rfl, _⟩ := h
    rfl
  · obtain ⟨a, ns, rfl, hS, hlen, hQ⟩ := h
    have nd := scLaw.nd
    have hr1 : Room 1 _ := hr.mono (by decide)
    have hr2 : Room 2 _ := hr.mono (by decide)
    refine ⟨_, (pss_cons (ps_for PassesOwn.never rfl (pi_range1 (by rfl) T.rng (pa_cons (pe_callB (call_max2 rfl) (by rfl) T.max (by decide +kernel) (pa_cons pe_int (pa_cons
          (pe_callB (call_min2 rfl) (by rfl) T.min (by decide +kernel) (pa_cons pe_int (pa_cons (pe_callB call_len_seq (by rfl) T.len PySem.boot_len (pa_cons (pv 0) pa_nil)) pa_nil))) pa_nil))) pa_nil))
        (pg_name (i := 1) nd rfl (Or.inl rfl)) <|
          pss_cons (ps_set (i := 2) nd rfl (Or.inl rfl) (pe_call GB hr1 (by rfl) Z.gBox Z.fBox.kp Z.bBox .nil pass0 (pa_cons (pe_call GC hr1 (by rfl) Z.gCell Z.fCell.kp Z.bCell .nil pass0 (pa_cons (pv 0) (pa_cons (pv 1) pa_nil))) pa_nil))) <|
          pss_cons (ps_for PassesOwn.never rfl (pi_range1 (by rfl) T.rng (pa_cons pe_int pa_nil)) (pg_name (i := 3) nd rfl (Or.inl rfl)) <|
            pss_cons (ps_set (i := 4) nd rfl (Or.inl rfl) (pe_call GX hr2 (by rfl) Z.gText Z.fText.kp Z.bText .nil pass0 (pa_cons (pv 2) pa_nil))) <|
            pss_cons (ps_for PassesOwn.never rfl (pi_range1 (by rfl) T.rng (pa_cons pe_int pa_nil)) (pg_name (i := 5) nd rfl (Or.inl rfl)) <|
              pss_one (ps_if (pt_cmpR op_ne (pe_callB reprV (by rfl) T.rep (by decide +kernel) (pa_cons (pe_call GP hr1 (by rfl) Z.gParse Z.fParse.kp Z.bParse .nil pass0 (pa_cons (pv 4) pa_nil)) pa_nil))
                (pe_callB reprV (by rfl) T.rep (by decide +kernel) (pa_cons (pe_call GD hr1 (by rfl) Z.gDue Z.fDue.kp Z.bDue .nil pass0 (pa_cons (pv 4) pa_nil)) pa_nil)) (nomark _)) (pss_one (ps_ret pe_bl)) pss_nil)) <|
            pss_cons (ps_set (i := 6) nd rfl (Or.inl rfl) (pe_ix ix_list (pe_lst (pa_cons (pe_call GT hr1 (by rfl) Z.gTake Z.fTake.kp Z.bTake .nil pass0 (pa_cons (pv 2) (pa_cons pe_int pa_nil)))
                (pa_cons (pe_un un_neg (pe_call GT hr1 (by rfl) Z.gTake Z.fTake.kp Z.bTake .nil pass0 (pa_cons (pv 2) (pa_cons pe_int pa_nil)))) pa_nil)))
              (pe_call GT hr1 (by rfl) Z.gTake Z.fTake.kp Z.bTake .nil pass0 (pa_cons (pv 2) (pa_cons pe_int pa_nil))) (fun _ _ => rfl))) <|
            pss_one (ps_if (pt_cmpR op_ne (pe_callB reprV (by rfl) T.rep (by decide +kernel) (pa_cons (pe_call GP hr1 (by rfl) Z.gParse Z.fParse.kp Z.bParse .nil pass0
                (pa_cons (pe_callTy call_str_int (by rfl) T.str (by decide +kernel) (pa_cons (pv 6) pa_nil)) pa_nil)) pa_nil))
              (pe_callB reprV (by rfl) T.rep (by decide +kernel) (pa_cons (pv 6) pa_nil)) (nomark _)) (pss_one (ps_ret pe_bl)) pss_nil)) <|
          pss_cons (ps_set (i := 7) nd rfl (Or.inl rfl) (pe_ix ix_list (pe_lst (pa_cons pe_non (pa_cons pe_bl (pa_cons pe_int (pa_cons pe_int (pa_cons (pe_lst pa_nil) (pa_cons (pe_lst (pa_cons pe_str pa_nil)) (pa_cons (pe_tup (pa_cons pe_str pa_nil))
                (pa_cons pe_dnewK (pa_cons (pe_disp (pps_cons pe_str pe_int pps_nil) (by rfl) (by rfl) (fun z => by cases z) (by decide)) (pa_cons (pe_op op_pow pe_int pe_int) pa_nil)))))))))))
              (pe_call GT hr1 (by rfl) Z.gTake Z.fTake.kp Z.bTake .nil pass0 (pa_cons (pv 2) (pa_cons pe_int pa_nil))) (fun _ _ => rfl))) <|
          pss_one (ps_if (PW.pt (pw_or (pt_cmpR op_notN (pe_call GP hr1 (by rfl) Z.gParse Z.fParse.kp Z.bParse .nil pass0 (pa_cons (pv 7) pa_nil)) pe_non (nomark _))
            (pw_or1 (pt_cmpR op_notN (pe_call GP hr1 (by rfl) Z.gParse Z.fParse.kp Z.bParse .nil pass0 (pa_cons pe_str pa_nil)) pe_non (nomark _))))) (pss_one (ps_ret pe_bl)) pss_nil))
      <| pss_one (ps_ret pe_bl)), ?_⟩
    have hl : (ns.map V.int).length ≤ 63 := by rw [List.length_map]; exact hlen
    refine ⟨_, rfl, a, _, rfl, .inl hS, _, _, rfl, _, _, rfl, _, rfl, (by split <;> (try split) <;> omega), (by split <;> (try split) <;> omega), ?_⟩
    refine for_range (lo := 0) (n := _) (fun _ σ H' => ∃ w1 w2 w3 w4 w5 w6 w7, σ = [some (.ref a), w1, w2, w3, w4, w5, w6, w7] ∧ Same H H') ⟨_, _, _, _, _, _, _, rfl, Same.refl H⟩ ?_ ?_
    · rintro i _ H1 _ ⟨w1, w2, w3, w4, w5, w6, w7, rfl, s1⟩
      refine ⟨_, rfl, _, rfl, a, ns, _, rfl, s1.seq hS, (by omega), fun c => ⟨c, rfl, fun p H2 np sm bx off => ?_⟩⟩
      have hp : H p = none := s1.free np
      refine ⟨_, rfl, by decide, by decide, for_range (lo := 0) (n := _) (fun _ σ H' => ∃ w1 w3 w4 w5 w6 w7, σ = [some (.ref a), w1, some (.ref p), w3, w4, w5, w6, w7] ∧ Bx H' p ∧ Same H H')
        ⟨_, _, _, _, _, _, rfl, bx, s1.trans sm⟩ ?_ ?_⟩
      · rintro j _ H3 _ ⟨w1, w3, w4, w5, w6, w7, rfl, b3, s3⟩
        refine ⟨_, rfl, p, rfl, b3, fun z H4 gz k4 => ?_⟩
        refine ⟨_, rfl, by decide, by decide, for_range (lo := 0) (n := _) (fun _ σ H' => ∃ w3 w5 w6 w7, σ = [some (.ref a), w1, some (.ref p), w3, some (.str z), w5, w6, w7] ∧ Al p H4 H') ⟨_, _, _, _, rfl, Al.refl k4.1⟩ ?_ ?_⟩
        · rintro m _ H5 _ ⟨w3, w5, w6, w7, rfl, k5⟩
          have fin : ∀ H6 H7, Same H5 H6 → Same H6 H7 → Al p H4 H7 := fun H6 H7 s6 s7 => by
            obtain ⟨c1, c2, c3, e⟩ := k5.1
            exact k5.trans ⟨⟨c1, c2, c3, s7 _ _ (s6 _ _ e)⟩, fun q o _ e => s7 _ _ (s6 _ _ e)⟩
          rcases res_cases z with ⟨n, e, hn⟩ | e
          · have lg := log_small (n := n) (by omega)
            refine ⟨_, rfl, p, _, rfl, .str z gz, fun H6 s6 => ?_⟩
            rw [show strRes (.str z) = V.int n from e]
            refine .inl ⟨n, rfl, lg, _, rfl, z, rfl, gz, fun H7 s7 => ?_⟩
            rw [e]
            exact .inl ⟨n, rfl, lg, rfl, _, rfl, iteNS rfl ⟨_, _, _, _, rfl, fin H6 H7 s6 s7⟩⟩
          · refine ⟨_, rfl, p, _, rfl, .str z gz, fun H6 s6 => ?_⟩
            rw [show strRes (.str z) = V.non from e]
            refine .inr ⟨rfl, _, rfl, z, rfl, gz, fun H7 s7 => ?_⟩
            rw [e]
            exact .inr ⟨rfl, rfl, _, rfl, iteNS rfl ⟨_, _, _, _, rfl, fin H6 H7 s6 s7⟩⟩
        · rintro _ H5 ⟨w3, w5, w6, w7, rfl, k5⟩
          refine ⟨_, rfl, p, 10000, rfl, k5.1, by decide, by decide, fun x1 H6 x10 x11 tk6 => ⟨_, rfl, p, 10000, rfl, tk6.1, by decide, by decide, fun x2 H7 x20 x21 tk7 => ⟨_, rfl, by show 2 ≤ sizeLine; decide, fun l8 n8 => ?_⟩⟩⟩
          refine ⟨_, rfl, p, 2, rfl, tk7.1.up n8, by decide, by decide, fun d9 H9 h90 h91 tk9 => ?_⟩
          have hL9 := (tk9.2 l8 (tk7.1.ne n8).symm).trans upd_same
          obtain ⟨n, hnm, hn⟩ := at_intM (ns := [x1, -x2]) h90 (by simpa using h91)
          have hb : n.natAbs < 10000 := by
            simp only [List.mem_cons, List.not_mem_nil, or_false] at hnm
            omega
          refine ⟨l8, _, d9, .int n, rfl, rfl, SqL.of hL9, hn, ?_⟩
          have k9 : Al p H3 H9 := k4.trans (k5.trans (tk6.al.trans (tk7.al.trans ((Al.up tk7.1 n8).trans tk9.al))))
          have hres := res_num hb
          have lg := log_small (n := n) (by omega)
          refine ⟨_, rfl, n, rfl, lg, p, _, rfl, .str _ (num_gd hb), fun H10 s10 => .inl ⟨n, ?_, lg, ?_⟩⟩
          · show [res (Str.ofString (toString n))] = _
            rw [hres]
          · refine ⟨_, rfl, .inl ⟨n, rfl, lg, rfl, _, rfl, iteNS rfl ?_⟩⟩
            have k10 : Al p H9 H10 := by
              obtain ⟨c1, c2, c3, e⟩ := k9.1
              exact ⟨⟨c1, c2, c3, s10 _ _ e⟩, fun q o _ e => s10 _ _ e⟩
            exact ⟨_, _, _, _, _, _, rfl, k10.1, same_al hp s3 (k9.trans k10)⟩
      · rintro _ H3 ⟨w1, w3, w4, w5, w6, w7, rfl, B0, s3⟩
        refine ⟨Nat.zero_le _, fun l1 n1 => ⟨by show 1 ≤ sizeLine; decide, fun l2 n2 => ⟨by show 1 ≤ sizeLine; decide, fun l3 n3 => fun l4 n4 => fun l5 n5 => ⟨upd_same, [(Sum.inr "7", .int 7)], rfl, by decide, _, _, rfl, rfl, ⟨by decide, by decide, by decide⟩, by show 10 ≤ sizeLine; decide, fun l8 n8 => ?_⟩⟩⟩⟩
        rw [upd_upd]
        rw [upd_upd] at n8
        have B1 := B0.up (o := .lst []) n1
        have B2 := B1.up (o := .lst [.str "7"]) n2
        have B3 := B2.up (o := .tup [.str "7"]) n3
        have B4 := B3.up (o := .dK []) n4
        have B5 := B4.up (o := .dK (mergeK [] [(Sum.inr "7", .int 7)])) n5
        have a1 := Al.up (o := .lst []) B0 n1
        have a2 := Al.up (o := .lst [.str "7"]) B1 n2
        have a3 := Al.up (o := .tup [.str "7"]) B2 n3
        have a4 := Al.up (o := .dK []) B3 n4
        have a5 := Al.up (o := .dK (mergeK [] [(Sum.inr "7", .int 7)])) B4 n5
        refine ⟨_, rfl, p, 10, rfl, B5.up n8, by decide, by decide, fun d H9 h0 h1 tk => ?_⟩
        have a8 := (Al.up B5 n8).trans tk.al
        have hL := (tk.2 l8 (B5.ne n8).symm).trans upd_same
        have o5 := (Ov.dct (B4.ne n5).symm (H := upd _ l5 _) upd_same).al a8
        have o4 := (Ov.dct (B3.ne n4).symm (H := upd _ l4 _) upd_same).al (a5.trans a8)
        have o3 := (Ov.tup (B2.ne n3).symm (H := upd _ l3 _) upd_same).al (a4.trans (a5.trans a8))
        have o2 := (Ov.lst (B1.ne n2).symm (H := upd _ l2 _) upd_same).al (a3.trans (a4.trans (a5.trans a8)))
        have o1 := (Ov.lst (B0.ne n1).symm (H := upd _ l1 _) upd_same).al (a2.trans (a3.trans (a4.trans (a5.trans a8))))
        obtain ⟨v, hv, hm⟩ := at_mem (xs := [V.non, V.bl true, V.int 0, V.int 7, V.ref l1, V.ref l2, V.ref l3, V.ref l4, V.ref l5, V.int (10 ^ (20 : Int).toNat)]) h0 (by simpa using h1)
        have ov : Ov p H9 v ∧ strRes v = .non := by
          simp only [List.mem_cons, List.not_mem_nil, or_false] at hm
          rcases hm with rfl | rfl | rfl | rfl | rfl | rfl | rfl | rfl | rfl | rfl
          · exact ⟨.non, rfl⟩
          · exact ⟨.bl _, rfl⟩
          · exact ⟨.int _, rfl⟩
          · exact ⟨.int _, rfl⟩
          · exact ⟨o1, rfl⟩
          · exact ⟨o2, rfl⟩
          · exact ⟨o3, rfl⟩
          · exact ⟨o4, rfl⟩
          · exact ⟨o5, rfl⟩
          · exact ⟨.int _, rfl⟩
        refine ⟨l8, _, d, v, rfl, rfl, SqL.of hL, hv, ?_⟩
        refine ⟨_, rfl, p, v, rfl, ov.1, fun H10 s10 => ⟨rfl, _, rfl, ?_⟩⟩
        rw [ov.2]
        refine iteF ⟨p, _, rfl, .str "" ⟨by decide, by decide +kernel⟩, fun H11 s11 => ⟨rfl, _, rfl, ?_⟩⟩
        have e0 : strRes (.str "") = .non := by decide +kernel
        rw [e0]
        refine iteNS rfl ?_
        exact ⟨_, _, _, _, _, _, _, rfl, (same_al hp s3 (a1.trans (a2.trans (a3.trans (a4.trans (a5.trans a8)))))).trans (s10.trans s11)⟩
    · rintro _ H1 ⟨w1, w2, w3, w4, w5, w6, w7, rfl, s1⟩
      exact hQ H1
end
end Bxs
namespace Bxs
open PySem L2
theorem all_mk {l : PySem.W.OpenLaw} {w : World} {K : PySem.W.Frag} {h : Heap} {mg : Str → Option Value} {fa : Addr} (X : K.In h) (G : h.Ns mainGlobals mg) (hfa : mg "law" = some (.ref fa))
    {od an : Option Addr} {sl : Array (Option Value)} {oc kV dc pm cd ct : Value} {f0 : Addr}
    {od0 an0 : Option Addr} {sl0 : Array (Option Value)} {oc0 kV0 dc0 pm0 cd0 ct0 : Value} {f0' : Addr}
    {od1 an1 : Option Addr} {sl1 : Array (Option Value)} {oc1 kV1 dc1 pm1 cd1 ct1 : Value} {f1' : Addr}
    {od2 an2 : Option Addr} {sl2 : Array (Option Value)} {oc2 kV2 dc2 pm2 cd2 ct2 : Value} {f2' : Addr}
    {od3 an3 : Option Addr} {sl3 : Array (Option Value)} {oc3 kV3 dc3 pm3 cd3 ct3 : Value} {f3' : Addr}
    {od4 an4 : Option Addr} {sl4 : Array (Option Value)} {oc4 kV4 dc4 pm4 cd4 ct4 : Value} {f4' : Addr}
    {od5 an5 : Option Addr} {sl5 : Array (Option Value)} {oc5 kV5 dc5 pm5 cd5 ct5 : Value} {f5' : Addr}
    (a0 : PySem.W.nsIn K mainGlobals "parse_number" = some (some (.ref f0'))) (l0 : K.lookup f0' = some ⟨oc0, od0, .func (PySem.W.fnOf "parse_number" "parse_number" (defArgs sParse) (defBody sParse) (defScope sParse) .none kV0 dc0 pm0 an0 cd0 ct0), sl0⟩) (c0 : PySem.W.codeIn K cd0 "parse_number" = true) (k0 : PySem.W.keepIn K (.ref f0') = true)
    (a1 : PySem.W.nsIn K mainGlobals "_law_cell" = some (some (.ref f1'))) (l1 : K.lookup f1' = some ⟨oc1, od1, .func (PySem.W.fnOf "_law_cell" "_law_cell" (defArgs sCell) (defBody sCell) (defScope sCell) .none kV1 dc1 pm1 an1 cd1 ct1), sl1⟩) (c1 : PySem.W.codeIn K cd1 "_law_cell" = true) (k1 : PySem.W.keepIn K (.ref f1') = true)
    (a2 : PySem.W.nsIn K mainGlobals "_law_box" = some (some (.ref f2'))) (l2 : K.lookup f2' = some ⟨oc2, od2, .func (PySem.W.fnOf "_law_box" "_law_box" (defArgs sBox) (defBody sBox) (defScope sBox) .none kV2 dc2 pm2 an2 cd2 ct2), sl2⟩) (c2 : PySem.W.codeIn K cd2 "_law_box" = true) (k2 : PySem.W.keepIn K (.ref f2') = true)
    (a3 : PySem.W.nsIn K mainGlobals "_law_take" = some (some (.ref f3'))) (l3 : K.lookup f3' = some ⟨oc3, od3, .func (PySem.W.fnOf "_law_take" "_law_take" (defArgs sTake) (defBody sTake) (defScope sTake) .none kV3 dc3 pm3 an3 cd3 ct3), sl3⟩) (c3 : PySem.W.codeIn K cd3 "_law_take" = true) (k3 : PySem.W.keepIn K (.ref f3') = true)
    (a4 : PySem.W.nsIn K mainGlobals "_law_text" = some (some (.ref f4'))) (l4 : K.lookup f4' = some ⟨oc4, od4, .func (PySem.W.fnOf "_law_text" "_law_text" (defArgs sText) (defBody sText) (defScope sText) .none kV4 dc4 pm4 an4 cd4 ct4), sl4⟩) (c4 : PySem.W.codeIn K cd4 "_law_text" = true) (k4 : PySem.W.keepIn K (.ref f4') = true)
    (a5 : PySem.W.nsIn K mainGlobals "_law_due" = some (some (.ref f5'))) (l5 : K.lookup f5' = some ⟨oc5, od5, .func (PySem.W.fnOf "_law_due" "_law_due" (defArgs sDue) (defBody sDue) (defScope sDue) .none kV5 dc5 pm5 an5 cd5 ct5), sl5⟩) (c5 : PySem.W.codeIn K cd5 "_law_due" = true) (k5 : PySem.W.keepIn K (.ref f5') = true)
    (aL : PySem.W.nsIn K mainGlobals "law" = some (some (.ref f0))) (lL : K.lookup f0 = some ⟨oc, od, .func (PySem.W.fnOf "law" "law" (defArgs sLaw) (defBody sLaw) (defScope sLaw) .none kV dc pm an cd ct), sl⟩) (cL : PySem.W.codeIn K cd "law" = true) (kL : PySem.W.keepIn K (.ref f0) = true)
    {tk0 : Tok} (v0 : PySem.W.nsIn K mainGlobals "DIGITS" = some (some (.str "0123456789" tk0)))
    {tk1 : Tok} (v1 : PySem.W.nsIn K mainGlobals "MOST_DIGITS" = some (some (.int 4 tk1)))
    (z_isinstance : PySem.W.nsIn K mainGlobals "isinstance" = some none)
    (z_str : PySem.W.nsIn K mainGlobals "str" = some none)
    (z_int : PySem.W.nsIn K mainGlobals "int" = some none)
    (z_len : PySem.W.nsIn K mainGlobals "len" = some none)
    (z_all : PySem.W.nsIn K mainGlobals "all" = some none)
    (z_max : PySem.W.nsIn K mainGlobals "max" = some none)
    (z_min : PySem.W.nsIn K mainGlobals "min" = some none)
    (z_range : PySem.W.nsIn K mainGlobals "range" = some none)
    (z_repr : PySem.W.nsIn K mainGlobals "repr" = some none)
    : ∃ fd : FuncData, (∀ (s : Shared) (v : Value), BindsTo s fd ⟨[v], []⟩ [("_law_script", v)]) ∧ ∀ base : Heap, K.In base → base.Ns mainGlobals mg → Rp.FnG l.prog w K mg base 4 fa fd ["_law_script"] (spLaw K) := by
  have e := hfa.symm.trans (PySem.W.mg_of X G aL)
  cases e
  have F0 := fun_mk (st := sParse) l0 c0 k0
  have b0 := F0.binds (ps := ["text"]) fun _ _ _ _ _ _ us hl => match us, hl with | [_], _ => rfl
  have F1 := fun_mk (st := sCell) l1 c1 k1
  have b1 := F1.binds (ps := ["_law_script", "_law_k"]) fun _ _ _ _ _ _ us hl => match us, hl with | [_, _], _ => rfl
  have F2 := fun_mk (st := sBox) l2 c2 k2
  have b2 := F2.binds (ps := ["_law_cell_here"]) fun _ _ _ _ _ _ us hl => match us, hl with | [_], _ => rfl
  have F3 := fun_mk (st := sTake) l3 c3 k3
  have b3 := F3.binds (ps := ["_law_box_here", "_law_size"]) fun _ _ _ _ _ _ us hl => match us, hl with | [_, _], _ => rfl
  have F4 := fun_mk (st := sText) l4 c4 k4
  have b4 := F4.binds (ps := ["_law_box_here"]) fun _ _ _ _ _ _ us hl => match us, hl with | [_], _ => rfl
  have F5 := fun_mk (st := sDue) l5 c5 k5
  have b5 := F5.binds (ps := ["_law_text_here"]) fun _ _ _ _ _ _ us hl => match us, hl with | [_], _ => rfl
  have Z : Tops K mg := {
    aParse := f0', dParse := _, fParse := F0, gParse := PySem.W.mg_of X G a0, bParse := b0,
    aCell := f1', dCell := _, fCell := F1, gCell := PySem.W.mg_of X G a1, bCell := b1,
    aBox := f2', dBox := _, fBox := F2, gBox := PySem.W.mg_of X G a2, bBox := b2,
    aTake := f3', dTake := _, fTake := F3, gTake := PySem.W.mg_of X G a3, bTake := b3,
    aText := f4', dText := _, fText := F4, gText := PySem.W.mg_of X G a4, bText := b4,
    aDue := f5', dDue := _, fDue := F5, gDue := PySem.W.mg_of X G a5, bDue := b5,
    t1 := tk0, gD := PySem.W.mg_of X G v0,
    t2 := tk1, gM := PySem.W.mg_of X G v1,
    B := ⟨PySem.W.mg_none_of X G z_isinstance, PySem.W.mg_none_of X G z_str, PySem.W.mg_none_of X G z_int, PySem.W.mg_none_of X G z_len, PySem.W.mg_none_of X G z_all, PySem.W.mg_none_of X G z_max, PySem.W.mg_none_of X G z_min, PySem.W.mg_none_of X G z_range, PySem.W.mg_none_of X G z_repr⟩ }
  exact ⟨PySem.W.fnOf "law" "law" (defArgs sLaw) (defBody sLaw) (defScope sLaw) .none kV dc pm an cd ct, fun s v => .of_eq rfl, fun base _ _ => ok_law (fun_mk (st := sLaw) lL cL kL) Z⟩
end Bxs

open PySem PySem.W PyProof.Rows in
set_option maxRecDepth 100000 in
set_option maxHeartbeats 0 in
theorem PySem.Challenge.cw_seenrules_k02_numbers_read_holds : PySem.Challenge.rw_seenrules_k02_numbers_read.Holds := by
  w_on; o_law; k_head; (case hw => w_witness2)
  k_fill
  refine Rp.walkG (l := PySem.Challenge.rw_seenrules_k02_numbers_read) (sp := Bxs.spLaw) (k := 4) (x := "_law_script") rfl (by decide) rfl ⟨rfl, by decide, by decide⟩ (fun w h Y => PySem.W.kIn_of Y) ?F (fun K H a ns hl _ hS => ⟨a, ns, rfl, hS, hl, fun _ => rfl⟩)
  case F =>
    intro w mg fa h KX G hmg
    refine' Bxs.all_mk KX G hmg ?a0 ?l0 ?c0 ?k0 ?a1 ?l1 ?c1 ?k1 ?a2 ?l2 ?c2 ?k2 ?a3 ?l3 ?c3 ?k3 ?a4 ?l4 ?c4 ?k4 ?a5 ?l5 ?c5 ?k5 ?aL ?lL ?cL ?kL ?v0 ?v1 ?z_isinstance ?z_str ?z_int ?z_len ?z_all ?z_max ?z_min ?z_range ?z_repr
    (case a0 => k_is)
    (case l0 => k_is)
    (case c0 => k_is)
    (case k0 => k_is)
    (case a1 => k_is)
    (case l1 => k_is)
    (case c1 => k_is)
    (case k1 => k_is)
    (case a2 => k_is)
    (case l2 => k_is)
    (case c2 => k_is)
    (case k2 => k_is)
    (case a3 => k_is)
    (case l3 => k_is)
    (case c3 => k_is)
    (case k3 => k_is)
    (case a4 => k_is)
    (case l4 => k_is)
    (case c4 => k_is)
    (case k4 => k_is)
    (case a5 => k_is)
    (case l5 => k_is)
    (case c5 => k_is)
    (case k5 => k_is)
    (case aL => k_is)
    (case lL => k_is)
    (case cL => k_is)
    (case kL => k_is)
    (case v0 => k_is)
    (case v1 => k_is)
    (case z_isinstance => k_is)
    (case z_str => k_is)
    (case z_int => k_is)
    (case z_len => k_is)
    (case z_all => k_is)
    (case z_max => k_is)
    (case z_min => k_is)
    (case z_range => k_is)
    (case z_repr => k_is)
#print axioms PySem.Challenge.cw_seenrules_k02_numbers_read_holds
