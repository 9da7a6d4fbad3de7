import PyProof.Rows.All
import Wide.All
import OpenK.AllK
import Wide.FinOn
import HandS.ForMost
import HandS.Flow
import HandS.Wide
import HandS.WideBits
import HandS.RaiseMore
import HandS.SortInts
import HandS.ForExc
import HandS.ExcInit
import HandS.ExcIs
import HandS.ExcValue
import HandS.IsInst
import KE.KExcIs
import HandS.WordsExc
import HandS.ExcOwn
import HandS.Zip
import HandS.Star
import HandS.SetFor
import HandS.NoneIn
import HandS.Style
import KE.GoesEnum
import HandS.Text
import HandS.StrMore
import HandS.Deep
import PyProof.StrOps2
import HandS.Conv
import PySem.Challenge.RW_castchains_k13_same_functions
set_option Elab.async false
set_option linter.all false
set_option maxRecDepth 100000
set_option maxHeartbeats 4000000
/-! A promise that is kept where no repr is under way; repr of plain data; powers of great ints; the frame around one list of ints that changes. -/
namespace Cc
open PySem PySem.Spec PyProof.Rows L2

/-! ### promises where no repr is under way -/
structure FnG (P : Program) (w : World) (K : PySem.W.Frag) (mg : Str → Option Value) (base : Heap) (CX : CXT) (k : Nat) (f : Addr) (fd : FuncData) (ps : List Str) (sp : Sp) : Prop where
  long : ∀ vs H Q E, sp vs H Q E → vs.length = ps.length
  goes : ∀ (A : Around), A.guards = some [] → Room k A → ∀ (outer : List Env) (s : Shared) (H : Hp), Env0 P w K mg base A outer s H → ∀ (args : Args) (us : List Value) (vs : List V) (Q : VK) (E : XK),
    BindsTo s fd args (ps.zip us) → Vals vs us → sp vs H Q E → codeAny (model P w) A (.call (.ref f) args) (CR CX outer P w H s Q E) s
section
variable {P : Program} {w : World} {K : PySem.W.Frag} {mg : Str → Option Value} {base : Heap} {CX : CXT} {k : Nat} {f : Addr} {fd : FuncData} {N ps : List Str} {sp : Sp}
theorem FnG.of (F : FnOk P w K mg base CX k f fd ps sp) : FnG P w K mg base CX k f fd ps sp :=
  ⟨F.len, fun A _ hr outer s H e0 args us vs Q E hb rv hs => F.run A outer s H args us vs Q E hr e0 hb rv hs⟩
theorem FnG.mono {j : Nat} (F : FnG P w K mg base CX j f fd ps sp) (h : j ≤ k) : FnG P w K mg base CX k f fd ps sp :=
  ⟨F.long, fun A hg hr => F.goes A hg (hr.mono h)⟩

theorem ce_of {cX : Cx} {outer : List Env} {s s' : Shared} {H H' : Hp} {Q : VK} {σ : L2.St} {v : V} {u : Value}
    (J : Inv cX [] σ H' s') (e0 : cX.prog = P) (e1 : cX.w = w) (e2 : cX.s_0 = s) (e3 : cX.H_0 = H) (e4 : cX.outer = outer) (e5 : cX.ex = []) (rv : RelV v u) (q : Q v H') : CE outer P w H s Q u s' := by
  subst e0 e1 e2 e3 e4
  refine ⟨v, H', J.os, J.bare, ?_, J.hok, rv, q⟩
  have b := J.base
  rw [e5] at b
  exact b
/-- a def by its body, at one place in a run -/
theorem def_at {qual : Str} {scope : Scope} {name : Str} {params : Arguments} {body : List Stmt} {dV kV doc pm cdv ct oc : Value} {an od : Option Addr} {osl : Array (Option Value)}
    (lk : K.lookup f = some ⟨oc, od, .func (PySem.W.fnOf name qual params body scope dV kV doc pm an cdv ct), osl⟩) (hcd : PySem.W.codeIn K cdv qual = true) (S : FnScope N ps scope)
    {A : Around} {outer : List Env} {s : Shared} {H : Hp} {args : Args} {us : List Value} {vs : List V} {Q : VK} {E : XK} {t : TS}
    (hr : Room (k + 1) A) (e0 : Env0 P w K mg base A outer s H) (hb : BindsTo s (PySem.W.fnOf name qual params body scope dV kV doc pm an cdv ct) args (ps.zip us)) (rv : Vals vs us) (hl : vs.length = ps.length)
    (ht : PSs (cxOf CX P w K mg base N qual scope f cdv A outer s H E) body t) (hq : t { nx := fun _ H' => Q .non H', rt := Q } (start N vs) H) :
    codeAny (model P w) A (.call (.ref f) args) (CR CX outer P w H s Q E) s := by
  have inK : K.In s.heap := e0.mod.kin.keeps fun b o e => (e0.bs b o e).1
  refine codeAny_call_function hr.depth (inK _ _ lk) rfl S.co S.gen rfl (PySem.W.codeRec_of inK hcd) (hb _ _ _ _ ?_)
  have kinds : ∀ y ∈ ps.zip us, scope.names.lookup y.1 = some .local ∨ (scope.names.lookup y.1 = some .cell ∧ ((cellsFrom (s.heap.objs.size + 1) scope.names []).lookup y.1).isSome = true) := by
    intro y hy
    obtain ⟨n, v⟩ := y
    cases S.par n (List.of_mem_zip hy).1 with
    | inl q => exact .inl q
    | inr q => exact .inr ⟨q, PySem.W.cellsFrom_some _ _ _ (.inl q)⟩
  refine wpAny_newFunctionEnv_cells S.kind kinds fun env he s1 x => ?_
  cases he
  have lim : s.heap.NoLimit := e0.mod.nolimit.keeps fun b o e => (e0.bs b o e).1
  refine ⟨lim.keeps x.toInCall.keep, codeAny_func ?_⟩
  have I : Inv (cxOf CX P w K mg base N qual scope f cdv A outer s H E) [] (start N vs) H s1 := inv_start S hr.hd e0 hl rv x
  refine wpAny_mono (ht.run [] s1 (start N vs) H _ I hq) (fun fl s' hs => ?_) fun _ _ h => h
  cases fl with
  | next =>
    obtain ⟨σ', H', J, q⟩ := hs
    exact ce_of (v := V.non) (u := Value.none) J rfl rfl rfl rfl rfl rfl rfl q
  | ret u =>
    obtain ⟨v, σ', H', J, rv', q⟩ := hs
    exact ce_of J rfl rfl rfl rfl rfl rfl rv' q
  | brk =>
    obtain ⟨_, _, _, q⟩ := hs
    exact False.elim q
  | cont =>
    obtain ⟨_, _, _, q⟩ := hs
    exact False.elim q
/-- a def of the text, its body read where no repr is under way -/
theorem okG {x qual : Str} {st : Stmt} (F : Fun K x qual st f fd) (S : FnScope N ps (defScope st)) (len : ∀ vs H Q E, sp vs H Q E → vs.length = ps.length)
    (hbody : ∀ (cdv : Value) (A : Around) (outer : List Env) (s : Shared) (H : Hp) (vs : List V) (Q : VK) (E : XK), A.guards = some [] → Room k (A.deeper (envOfC qual (defScope st) s.heap.objs.size f cdv)) → sp vs H Q E →
      ∃ t, PSs (cxOf CX0 P w K mg base N qual (defScope st) f cdv A outer s H E).nox (defBody st) t ∧ t { nx := fun _ H' => Q .non H', rt := Q } (start N vs) H) :
    FnG P w K mg base CX0 (k + 1) f fd ps sp := by
  obtain ⟨oc, od, kV, doc, pm, an, cdv, ct, osl, rfl, lk, hcd⟩ := F.ex
  refine ⟨len, fun A hg hr outer s H e0 args us vs Q E hb rv hs => ?_⟩
  obtain ⟨t, h, q⟩ := hbody cdv A outer s H vs Q E hg (hr.deeper _) hs
  exact def_at lk hcd S hr e0 hb rv (len _ _ _ _ hs) h.nox q
end

section
variable {X : Cx} {CX : CXT} {k : Nat} {f : Addr} {fd : FuncData} {ps : List Str} {sp : Sp} {dvs : List V} {ds : List Value} {E : XK} {x : Str} {p pos : Pos} {e : Expr} {es : List Expr} {t : TA}
theorem runG {pins : List (Addr × Obj)} {σ : L2.St} {H : Hp} {s : Shared} {Q : VK} {us : List Value} {vs : List V} (F : FnG X.prog X.w X.K X.mg X.base CX k f fd ps sp) (hG : X.A.guards = some []) (hr : Room k X.A) (hb : Binds X.K fd ps ds) (hd : Vals dvs ds) (hx : Passes CX X E)
    (I : Inv X pins σ H s) (r : Vals vs us) (h : sp (vs ++ dvs) H Q E) : wpAny (model X.prog X.w) X.A (call (.ref f) us) (EP X pins σ Q) X.xe s := by
  have both : Vals (vs ++ dvs) (us ++ ds) := r.append hd
  have many : (us ++ ds).length = ps.length := both.length.symm.trans (F.long _ _ _ _ h)
  refine wpAny_call (codeAny_mono (F.goes X.A hG hr X.stack s H I.env0 ⟨us, []⟩ (us ++ ds) (vs ++ dvs) Q E (hb s us I.kIn many) both h) fun r s' hq => ?_)
  match r, hq with
  | .error e, hq => exact hx pins σ H s e s' I hq
  | .ok (.ret u), hq => exact I.after hq
  | .ok .next, hq => exact hq.elim
  | .ok .brk, hq => exact hq.elim
  | .ok .cont, hq => exact hq.elim
/-- f(e, ..) -/
theorem pe_callG (F : FnG X.prog X.w X.K X.mg X.base CX k f fd ps sp) (hG : X.A.guards = some []) (hr : Room k X.A) (hg : Gl X x) (hm : X.mg x = some (.ref f)) (hk : PySem.W.keepIn X.K (.ref f) = true) (hb : Binds X.K fd ps ds) (hd : Vals dvs ds) (hx : Passes CX X E)
    (ha : PA X (e :: es) t) (hdb : (x == ("__debug__" : Str)) = false := by decide) (he : starEach (e :: es) X.env = (false, eval e X.env) :: starEach es X.env := by rfl) (hpl : (backTo pos (starEach es X.env)).any (·.1) = false := by rfl) :
    PE X (.Call (.Name x p) (e :: es) [] pos) (tCall sp dvs E t) :=
  ⟨fun pins s σ H Q I h => wpAny_Call_Name_kw (ld_glob I hg hm (PySem.W.callWith_K (h₀ := X.base) I.ok.mod.kin hk (thn (ha.run pos pins s σ H _ I h) fun us s1 ⟨vs, H1, I1, r, q⟩ => ⟨I1.kIn, runG F hG hr hb hd hx I1 r q⟩) he hpl) hdb)⟩
end

/-! ### the law's own call -/
theorem law_at {P : Program} {w : World} {K : PySem.W.Frag} {mg mb : Str → Option Value} {k : Nat} {fa a : Addr} {fd : FuncData} {x : Str} {sp : Sp} {s₁ : Shared} {vs : List Value} {ns : List Int}
    (inK : K.In s₁.heap) (hns : s₁.heap.Ns mainGlobals mg) (hb : s₁.heap.Ns builtinsNs mb) (hbb : ∀ x : Str, x ≠ "__name__" → mb x = bootBuiltins x) (hlim : s₁.heap.NoLimit) (hg : s₁.gens = #[])
    (ha : s₁.heap.get? a = some { cls := .type "list", data := .seq vs.toArray }) (hi : IntsAre vs ns) (hl : ns.length ≤ sizeLine) (hr : Room k callerA)
    (F : ∀ base : Heap, K.In base → base.Ns mainGlobals mg → FnG P w K mg base CX0 k fa fd [x] sp) (hbind : ∀ (s : Shared) (u : Value), BindsTo s fd ⟨[u], []⟩ [(x, u)])
    (hsp : ∀ H : Hp, Only H → SqL K H a (ns.map V.int) → sp [.ref a] H (fun v _ => v = .bl true) fun _ _ _ => False) :
    codeAny (model P w) callerA (.call (.ref fa) ⟨[.ref a], []⟩) (fun r s' => r = .ok (.ret (.bool true)) ∧ OldK s₁.heap s'.heap ∧ s'.os = s₁.os ∧ AllBare s'.gens) s₁ := by
  -- what is tracked is the script at most
  suffices core : ∀ H : Hp, (∀ b u, H b = some u → b = a ∧ u = .frz { cls := .type "list", data := .seq vs.toArray } (.lst (ns.map V.int)) ∧ K.lookup a = none) → SqL K H a (ns.map V.int) → HOk P w H s₁.heap →
      codeAny (model P w) callerA (.call (.ref fa) ⟨[.ref a], []⟩) (fun r s' => r = .ok (.ret (.bool true)) ∧ OldK s₁.heap s'.heap ∧ s'.os = s₁.os ∧ AllBare s'.gens) s₁ by
    cases hk : K.lookup a with
    | none =>
      refine core (fun b => if b = a then some (.frz { cls := .type "list", data := .seq vs.toArray } (.lst (ns.map V.int))) else none) (fun b u z => ?_) (.inl (.inr ⟨_, if_pos rfl⟩)) fun b u z => ?_
      · by_cases hb : b = a
        · exact ⟨hb, Option.some.inj (z.symm.trans (if_pos hb)), hk⟩
        · exact nomatch (if_neg hb).symm.trans z
      · by_cases hb : b = a
        · obtain rfl := Option.some.inj ((if_pos hb).symm.trans z)
          subst hb
          exact ⟨ha, by rw [List.length_map]; exact hl, vs, _, vals_ints hi, ha⟩
        · exact nomatch (if_neg hb).symm.trans z
    | some o =>
      have e := (inK a o hk).symm.trans ha
      cases e
      refine core (fun _ => none) (fun b u z => nomatch (show (none : Option HO) = some u from z)) (.inr ⟨_, vs.toArray, _, hk, rfl, rfl, rfl, ?_, ?_⟩) fun b u z => nomatch (show (none : Option HO) = some u from z)
      · rw [List.size_toArray, hi.length]; exact hl
      · simpa using vals_ints hi
  intro H only hS hok
  have off : ∀ {b : Addr} {o : Obj}, s₁.heap.get? b = some o → (b = a → False) → (hidT s₁.heap H).get? b = some o := fun {b o} e hne => hidT_get e (by
    cases q : H b with
    | none => rfl
    | some u => exact (hne (only b u q).1).elim)
  have dic : ∀ {b : Addr} {m : Str → Option Value}, s₁.heap.Ns b m → (hidT s₁.heap H).Ns b m := fun {b m} ⟨o, es, ep, e, d, r⟩ => ⟨o, es, ep, off e (fun hba => by
    rw [hba, ha] at e
    cases e
    exact nomatch (show Data.seq vs.toArray _ = Data.dict es ep from d)), d, r⟩
  have inB : K.In (hidT s₁.heap H) := fun b o e => hidT_get (inK b o e) (by
    cases q : H b with
    | none => rfl
    | some u =>
      obtain ⟨hba, _, hn⟩ := only b u q
      rw [hba, hn] at e
      cases e)
  have md : Mod K mg (hidT s₁.heap H) := ⟨inB, dic hns, ⟨mb, dic hb, hbb⟩, let ⟨mc, h1, h2⟩ := hlim; ⟨mc, dic h1, h2⟩⟩
  have e0 : Env0 P w K mg (hidT s₁.heap H) callerA [] s₁ H := ⟨rfl, md, fun _ _ e => of_hidT e, Nat.le_of_eq (hidT_size _ _), trivial, fun b hb => absurd (show b ∈ ([] : List Addr) from hb) (fun z => nomatch z), hok, .of_eq hg⟩
  have oH : Only H := fun b => by
    cases q : H b with
    | none => exact .inl rfl
    | some u => exact .inr ⟨_, _, congrArg some (only b u q).2.1⟩
  refine codeAny_mono ((F _ inB (dic hns)).goes callerA rfl hr [] s₁ H e0 ⟨[.ref a], []⟩ [.ref a] [.ref a] _ _ (hbind s₁ (.ref a)) (.cons rfl .nil) (hsp H oH hS)) fun r s' h => ?_
  match r, h with
  | .error e, h => exact h.elim
  | .ok .next, h => exact h.elim
  | .ok .brk, h => exact h.elim
  | .ok .cont, h => exact h.elim
  | .ok (.ret u), h =>
    obtain ⟨v, H', os, bare, un, hok', rv, q⟩ := h
    cases (show v = .bl true from q)
    cases (show u = Value.bool true from rv)
    refine ⟨rfl, OldK.of_keep fun b o e => ?_, os, bare⟩
    cases q : H b with
    | none => exact un.keep b o e q (fun z => nomatch z) (fun z => nomatch z)
    | some u =>
      obtain ⟨_, rfl, _⟩ := only b u q
      have e1 := (hok b _ q).1
      have e2 := (hok' b _ (un.frzs b _ _ q)).1
      exact e2.trans (e1.symm.trans e)
/-- the goal behind k_head -/
theorem walkG {l : PySem.W.OpenLaw} {n k : Nat} {q : Program} {loose : List Str} {XP : (Str → Option Value) → Heap → Prop} {YP : World → Heap → Prop} {d : DefRec} {K : Params → PySem.W.Frag} {sp : PySem.W.Frag → Sp} {x : Str}
    (hn : l.most = some n) (hn2 : n ≤ sizeLine) (hdf : d.params.defaults = []) (hr : Room k callerA) (hY : ∀ (w : World) (h : Heap), YP w h → (K w.params).In h)
    (F : ∀ (w : World) (mg : Str → Option Value) (fa : Addr) (h : Heap), (K w.params).In h → h.Ns mainGlobals mg → mg d.name = some (.ref fa) →
      ∃ fd : FuncData, (∀ (s : Shared) (u : Value), BindsTo s fd ⟨[u], []⟩ [(x, u)]) ∧ ∀ base : Heap, (K w.params).In base → base.Ns mainGlobals mg → FnG l.prog w (K w.params) mg base CX0 k fa fd [x] (sp (K w.params)))
    (hsp : ∀ (K : PySem.W.Frag) (H : Hp) (a : Addr) (ns : List Int), ns.length ≤ n → Only H → SqL K H a (ns.map V.int) → sp K [.ref a] H (fun v _ => v = .bl true) fun _ _ _ => False) :
    PySem.W.WalkO q loose XP YP l.row.toRowW d [] (fun f vs => PySem.call f vs) := by
  refine Att.attach_call hn hdf fun w s₀ s₁ mg mb fa o pm cd doc a vs ns G Y ho hd hcd hmg hobj hints hlen hg => ?_
  obtain ⟨fd, hb, hF⟩ := F w mg fa _ (hY w _ Y) G.T.g hmg
  exact law_at (hY w _ Y) G.T.g G.T.b G.T.builtins G.T.nolimit hg hobj hints (Nat.le_trans hlen hn2) hr hF hb fun H oH hS => hsp (K w.params) H a ns hlen oH hS

/-! ### repr of plain data -/
section
variable {X : Cx}
def rRepD (K : PySem.W.Frag) : List V → Hp → VK → Prop := fun xs H Q => ∃ v d, xs = [v] ∧ Dp K H v d ∧ d.showable = true ∧ d.depth ≤ 60 ∧ d.shown.length ≤ sizeLine ∧ Q (.str d.shown) H
theorem noDict {K : PySem.W.Frag} {H : Hp} : (∀ (d : PyData) (v : V), Dp K H v d → d.hasDict = false) ∧ True := by
  refine ⟨?_, trivial⟩
  intro d
  refine PyData.rec (motive_1 := fun d => ∀ v, Dp K H v d → d.hasDict = false) (motive_2 := fun ds => ∀ vs, DpAll K H vs ds → PyData.hasDictAll ds = false) (motive_3 := fun _ => True) (motive_4 := fun _ => True) ?_ ?_ ?_ ?_ ?_ ?_ ?_ ?_ ?_ ?_ ?_ ?_ d
  · intro v _; simp only [PyData.hasDict]
  · intro b v _; simp only [PyData.hasDict]
  · intro i v _; simp only [PyData.hasDict]
  · intro x v _; simp only [PyData.hasDict]
  · intro ds ih v h
    cases h with
    | lst _ ha => simp only [PyData.hasDict]; exact ih _ ha
  · intro ds ih v h
    cases h with
    | tup _ ha => simp only [PyData.hasDict]; exact ih _ ha
  · intro kvs _ v h
    cases h
  · intro vs _; simp only [PyData.hasDictAll]
  · intro d ds ih1 ih2 vs h
    cases h with
    | cons h1 h2 => simp only [PyData.hasDictAll, ih1 _ h1, ih2 _ h2, Bool.or_self]
  all_goals (intros; trivial)
theorem cr_repD (hG : X.A.guards = some []) (hu : X.A.units + 64 < cLine) : CallR X (.builtin "repr") (rRepD X.K) := by
  intro pins s σ H xs us Q I r h
  obtain ⟨v, d, rfl, hd, hs, hdp, hz, q⟩ := h
  obtain ⟨u, rfl, ru⟩ := vals1 r
  cases v with
  | ref a =>
    cases ru
    obtain ⟨as, rd⟩ := Dp.reads I d _ _ hd rfl
    exact repr_of_reads' rd hs (PyData.noDict_hsm (noDict.1 d _ hd)) hG (by omega) (fun _ _ e => e) (fun h' u tk hk => ⟨.str _, H, I.kept hk, ⟨_, rfl⟩, q⟩) hz
  | int i =>
    cases hd
    obtain ⟨t, rfl⟩ := ru
    exact PySem.P.repr_of_int (by simpa [PyData.showable] using hs) ⟨.str _, H, I.tok _, ⟨_, rfl⟩, q⟩
  | str x =>
    cases hd
    obtain ⟨t, rfl⟩ := ru
    exact PySem.P.repr_of_str ⟨.str _, H, I.tok _, ⟨_, rfl⟩, q⟩ hz
  | non =>
    cases hd
    cases ru
    exact PySem.P.repr_of_none ⟨.str _, H, I.tok _, ⟨_, rfl⟩, q⟩
  | bl b =>
    cases hd
    cases ru
    exact PySem.P.repr_of_bool ⟨.str _, H, I.tok _, ⟨_, rfl⟩, q⟩
  | byt b => cases hd
  | flt b => cases hd
  | ty n => cases hd
/-- a power of a great int -/
theorem op_powX : OpR X (binaryOp .Pow) (rI (fun i j => 0 ≤ j ∧ j ≤ 64 ∧ i.natAbs < 2 ^ 4000) fun i j => .int (i ^ j.toNat)) := opI fun i j _ _ _ _ _ hc q => by
  refine pow_int hc.1 ?_ q
  have b : (Builtin.Int.intBits i : Int) ≤ 4001 := by
    have h := PySem.Flt.log2_lt_of (k := 4000) (by omega) hc.2.2
    unfold Builtin.Int.intBits
    split <;> omega
  have n0 : (0 : Int) ≤ Builtin.Int.intBits i := Int.natCast_nonneg _
  have : (Builtin.Int.intBits i : Int) * j ≤ 4001 * 64 := Int.mul_le_mul b hc.2.1 hc.1 (by decide)
  have e : (2 : Int) ^ 27 = 134217728 := by decide
  omega
end
end Cc

set_option Elab.async false
set_option linter.all false
set_option maxRecDepth 100000
set_option maxHeartbeats 4000000
namespace Cc
open PySem PySem.Spec PyProof.Rows L2

/-! ### a def of the text by its name -/
def Tx (K : PySem.W.Frag) (mg : Str → Option Value) (x : Str) (st : Stmt) : Prop := ∃ f fd, Fun K x x st f fd ∧ mg x = some (.ref f)
/-- what a def of this name keeps -/
def Pr (P : Program) (w : World) (K : PySem.W.Frag) (mg : Str → Option Value) (base : Heap) (CX : CXT) (k : Nat) (x : Str) (ps : List Str) (sp : Sp) : Prop :=
  ∃ f fd, FnG P w K mg base CX k f fd ps sp ∧ mg x = some (.ref f) ∧ PySem.W.keepIn K (.ref f) = true ∧ Binds K fd ps []
section
variable {P : Program} {w : World} {K : PySem.W.Frag} {mg : Str → Option Value} {base : Heap} {k : Nat} {x : Str} {st : Stmt} {N ps : List Str} {sp : Sp}
theorem mkP (T : Tx K mg x st) (S : FnScope N ps (defScope st))
    (bi : ∀ (kV doc pm : Value) (an : Option Addr) (cdv ct : Value) (us : List Value), us.length = ps.length → bindArgs (PySem.W.fnOf x x (defArgs st) (defBody st) (defScope st) .none kV doc pm an cdv ct) ⟨us, []⟩ = pure (ps.zip us))
    (len : ∀ vs H Q E, sp vs H Q E → vs.length = ps.length)
    (hbody : ∀ (f : Addr) (cdv : Value) (A : Around) (outer : List Env) (s : Shared) (H : Hp) (vs : List V) (Q : VK) (E : XK), A.guards = some [] → Room k (A.deeper (envOfC x (defScope st) s.heap.objs.size f cdv)) → sp vs H Q E →
      ∃ t, PSs (cxOf CX0 P w K mg base N x (defScope st) f cdv A outer s H E).nox (defBody st) t ∧ t { nx := fun _ H' => Q .non H', rt := Q } (start N vs) H) :
    Pr P w K mg base CX0 (k + 1) x ps sp := by
  obtain ⟨f, fd, F, g⟩ := T
  exact ⟨f, fd, okG F S len (hbody f), g, F.kp, F.binds bi⟩
end
/-- the same of the def wherever its object stands -/
def PrAt (P : Program) (w : World) (K : PySem.W.Frag) (mg : Str → Option Value) (base : Heap) (CX : CXT) (k : Nat) (x : Str) (st : Stmt) (ps : List Str) (sp : Sp) : Prop :=
  ∀ f fd, Fun K x x st f fd → FnG P w K mg base CX k f fd ps sp
section
variable {P : Program} {w : World} {K : PySem.W.Frag} {mg : Str → Option Value} {base : Heap} {k : Nat} {x : Str} {st : Stmt} {N ps : List Str} {sp : Sp}
theorem mkA (S : FnScope N ps (defScope st)) (len : ∀ vs H Q E, sp vs H Q E → vs.length = ps.length)
    (hbody : ∀ (f : Addr) (cdv : Value) (A : Around) (outer : List Env) (s : Shared) (H : Hp) (vs : List V) (Q : VK) (E : XK), A.guards = some [] → Room k (A.deeper (envOfC x (defScope st) s.heap.objs.size f cdv)) → sp vs H Q E →
      ∃ t, PSs (cxOf CX0 P w K mg base N x (defScope st) f cdv A outer s H E).nox (defBody st) t ∧ t { nx := fun _ H' => Q .non H', rt := Q } (start N vs) H) :
    PrAt P w K mg base CX0 (k + 1) x st ps sp := fun f fd F => okG F S len (hbody f)
theorem tx_mk {f : Addr} {h : Heap} {oc : Value} {od an : Option Addr} {osl : Array (Option Value)} {kV doc pm cdv ct : Value} (X : K.In h) (G : h.Ns mainGlobals mg) (a : PySem.W.nsIn K mainGlobals x = some (some (.ref f)))
    (l : K.lookup f = some ⟨oc, od, .func (PySem.W.fnOf x x (defArgs st) (defBody st) (defScope st) .none kV doc pm an cdv ct), osl⟩) (c : PySem.W.codeIn K cdv x = true) (kp : PySem.W.keepIn K (.ref f) = true) : Tx K mg x st :=
  ⟨f, _, fun_mk l c kp, PySem.W.mg_of X G a⟩
end
section
variable {X : Cx} {CX : CXT} {j k : Nat} {ps : List Str} {sp : Sp} {x : Str} {p pos : Pos} {e : Expr} {es : List Expr} {t : TA}
theorem pe_P (h : Pr X.prog X.w X.K X.mg X.base CX0 j x ps sp) (hr : Room k X.A) (hG : X.A.guards = some []) (hg : Gl X x) (ha : PA X (e :: es) t) (hj : j ≤ k := by decide)
    (hdb : (x == ("__debug__" : Str)) = false := by decide) (he : starEach (e :: es) X.env = (false, eval e X.env) :: starEach es X.env := by rfl) (hpl : (backTo pos (starEach es X.env)).any (·.1) = false := by rfl) :
    PE X (.Call (.Name x p) (e :: es) [] pos) (tCall sp [] E0 t) := by
  obtain ⟨f, fd, F, g, kp, b⟩ := h
  exact pe_callG F hG (hr.mono hj) hg g kp b .nil pass0 ha hdb he hpl
end

/-! ### readings, one step each -/
theorem cxK {CX : CXT} {P : Program} {w : World} {K : PySem.W.Frag} {mg : Str → Option Value} {base : Heap} {N : List Str} {qual : Str} {scope : Scope} {f : Addr} {cd : Value} {A : Around} {outer : List Env} {s : Shared} {H : Hp} {E : XK} :
    (cxOf CX P w K mg base N qual scope f cd A outer s H E).K = K := rfl
theorem cxKn {CX : CXT} {P : Program} {w : World} {K : PySem.W.Frag} {mg : Str → Option Value} {base : Heap} {N : List Str} {qual : Str} {scope : Scope} {f : Addr} {cd : Value} {A : Around} {outer : List Env} {s : Shared} {H : Hp} {E : XK} :
    (cxOf CX P w K mg base N qual scope f cd A outer s H E).nox.K = K := rfl
section
variable {σ : L2.St} {H : Hp} {Q : VK} {K : PySem.W.Frag} {v x : V} {a b i' : Int} {i n : Nat} {s z : Str} {o : Option V} {k : Bool}
theorem x_var0 {r : L2.St} : tVar 0 (some v :: r) H Q ↔ Q v H := ⟨fun ⟨u, e, q⟩ => by cases e; exact q, fun q => ⟨v, rfl, q⟩⟩
theorem x_varS {r : L2.St} : tVar (n + 1) (o :: r) H Q ↔ tVar n r H Q := Iff.rfl
theorem x_c : tC v σ H Q ↔ Q v H := Iff.rfl
theorem x_op {r : R2} {ta tb : TE} : tOp r ta tb σ H Q ↔ ta σ H fun x H1 => tb σ H1 fun y H2 => r x y H2 Q := Iff.rfl
theorem x_un {r : V → Hp → VK → Prop} {ta : TE} : tUn r ta σ H Q ↔ ta σ H fun x H1 => r x H1 Q := Iff.rfl
theorem x_I0 {g : Int → Int → V} : rI0 g (.int a) (.int b) H Q ↔ Q (g a b) H := ⟨fun ⟨_, _, e1, e2, q⟩ => by cases e1; cases e2; exact q, fun q => ⟨_, _, rfl, rfl, q⟩⟩
theorem x_I {C : Int → Int → Prop} {g : Int → Int → V} : rI C g (.int a) (.int b) H Q ↔ C a b ∧ Q (g a b) H := ⟨fun ⟨_, _, e1, e2, q⟩ => by cases e1; cases e2; exact q, fun q => ⟨_, _, rfl, rfl, q⟩⟩
theorem x_rU {g : Int → V} : rU g (.int a) H Q ↔ Q (g a) H := ⟨fun ⟨_, e1, q⟩ => by cases e1; exact q, fun q => ⟨_, rfl, q⟩⟩
theorem x_nil {Q : List V → Hp → Prop} : tNil σ H Q ↔ Q [] H := Iff.rfl
theorem x_cons {ta : TE} {tr : TA} {Q : List V → Hp → Prop} : tCons ta tr σ H Q ↔ ta σ H fun x H1 => tr σ H1 fun xs H2 => Q (x :: xs) H2 := Iff.rfl
theorem x_test {te : TE} {Q : Bool → Hp → Prop} : tTest te σ H Q ↔ te σ H fun x H1 => ∃ k, x = .bl k ∧ Q k H1 := Iff.rfl
theorem x_B {te : TE} {Q : Bool → Hp → Prop} : tB te σ H Q ↔ te σ H fun x H1 => ∃ k, x = .bl k ∧ Q k H1 := Iff.rfl
theorem x_bl {Q : Bool → Prop} : (∃ c, V.bl k = V.bl c ∧ Q c) ↔ Q k := ⟨fun ⟨_, e, q⟩ => by cases e; exact q, fun q => ⟨_, rfl, q⟩⟩
theorem x_call {sp : Sp} {dvs : List V} {E : XK} {t : TA} : tCall sp dvs E t σ H Q ↔ t σ H fun vs H1 => sp (vs ++ dvs) H1 Q E := Iff.rfl
theorem x_CB {r : List V → Hp → VK → Prop} {t : TA} : tCB r t σ H Q ↔ t σ H fun vs H1 => r vs H1 Q := Iff.rfl
theorem x_tup {t : TA} : tTup t σ H Q ↔ t σ H fun xs H1 => xs.length ≤ sizeLine ∧ ∀ p, H1 p = none → Q (.ref p) (upd H1 p (.tup xs)) := Iff.rfl
theorem x_lst {t : TA} : tLst t σ H Q ↔ t σ H fun xs H1 => xs.length ≤ sizeLine ∧ ∀ p, H1 p = none → Q (.ref p) (upd H1 p (.lst xs)) := Iff.rfl
theorem x_not {t : TT} {Q : Bool → Hp → Prop} : tNot t σ H Q ↔ t σ H fun c H1 => Q (!c) H1 := Iff.rfl
theorem x_seq {t u : TS} {D : Ends} : tSeq t u D σ H ↔ t { D with nx := u D } σ H := Iff.rfl
theorem x_asg {te : TE} {g : TG} {D : Ends} : tAsg te g D σ H ↔ te σ H fun x H1 => g x σ H1 D.nx := Iff.rfl
theorem x_name {Q : L2.St → Hp → Prop} : gName i v σ H Q ↔ Q (σ.set i (some v)) H := Iff.rfl
theorem x_sub {to ti : TE} {t : TSet} {Q : L2.St → Hp → Prop} : gSub to ti t v σ H Q ↔ to σ H fun o H1 => ti σ H1 fun i H2 => t o i v H2 fun H3 => Q σ H3 := Iff.rfl
theorem x_ret {te : TE} {D : Ends} : tRet te D σ H ↔ te σ H D.rt := Iff.rfl
theorem x_ifS {c : TT} {t u : TS} {D : Ends} : tIfS c t u D σ H ↔ c σ H fun b H1 => if b = true then t D σ H1 else u D σ H1 := Iff.rfl
theorem x_next {D : Ends} : tNext D σ H ↔ D.nx σ H := Iff.rfl
theorem x_ixL {p : Addr} {xs : List V} (h : SqL K H p xs) (ha : atI xs i' = some v) (q : Q v H) : rIxL K (.ref p) (.int i') H Q := ⟨p, xs, i', v, rfl, rfl, h, ha, q⟩
theorem x_ixT {p : Addr} {xs : List V} (h : SqT K H p xs) (ha : atI xs i' = some v) (q : Q v H) : rIxT K (.ref p) (.int i') H Q := ⟨p, xs, i', v, rfl, rfl, h, ha, q⟩
theorem x_ite {c : Prop} [Decidable c] {A B : Prop} : (if decide c = true then A else B) ↔ ((c → A) ∧ (¬ c → B)) := by
  by_cases h : c
  · simp [h]
  · simp [h]
theorem x_iteN {c : Prop} [Decidable c] {A B : Prop} : (if (!decide c) = true then A else B) ↔ ((¬ c → A) ∧ (c → B)) := by
  by_cases h : c
  · simp [h]
  · simp [h]
theorem x_T {A B : Prop} : (if true = true then A else B) ↔ A := by simp
theorem x_F {A B : Prop} : (if false = true then A else B) ↔ B := by simp
theorem x_tT {A B : Prop} : (if (!true) = true then A else B) ↔ B := by simp
theorem x_tF {A B : Prop} : (if (!false) = true then A else B) ↔ A := by simp
theorem x_eqII {a b : Int} : scal (.int a) (.int b) = true := rfl
theorem x_eqSS {a b : Str} : scal (.str a) (.str b) = true := rfl
theorem x_eqBB {a b : Bool} : scal (.bl a) (.bl b) = true := rfl
theorem x_Eq : rEq v x H Q ↔ (scal v x = true ∧ Q (.bl (decide (v = x))) H) := Iff.rfl
theorem x_Ne : rNe v x H Q ↔ (scal v x = true ∧ Q (.bl (!decide (v = x))) H) := Iff.rfl
theorem x_and {t u : TT} {Q : Bool → Hp → Prop} : tAnd t u σ H Q ↔ t σ H fun c H1 => if c = true then u σ H1 Q else Q false H1 := Iff.rfl
theorem x_or {t u : TT} {Q : Bool → Hp → Prop} : tOr t u σ H Q ↔ t σ H fun c H1 => if c = true then Q true H1 else u σ H1 Q := Iff.rfl
theorem x_andV {ta tb : TE} : tAndV ta tb σ H Q ↔ ta σ H fun x H1 => ∃ c, x = .bl c ∧ if c = true then tb σ H1 Q else Q (.bl false) H1 := Iff.rfl
theorem x_orV {ta tb : TE} : tOrV ta tb σ H Q ↔ ta σ H fun x H1 => ∃ c, x = .bl c ∧ if c = true then Q (.bl true) H1 else tb σ H1 Q := Iff.rfl
theorem x_notV {ta : TE} : tNotV ta σ H Q ↔ ta σ H fun x H1 => ∃ c, x = .bl c ∧ Q (.bl (!c)) H1 := Iff.rfl
theorem x_if {t : TT} {ta tb : TE} : tIf t ta tb σ H Q ↔ t σ H fun c H1 => if c = true then ta σ H1 Q else tb σ H1 Q := Iff.rfl
theorem x_par {i j : Nat} {ta : TA} {D : Ends} : tPar i j ta D σ H ↔ ta σ H fun vs H1 => ∃ v w, vs = [v, w] ∧ D.nx ((σ.set i (some v)).set j (some w)) H1 := Iff.rfl
theorem x_two {v w : V} {Q : V → V → Prop} : (∃ a b, [v, w] = [a, b] ∧ Q a b) ↔ Q v w := ⟨fun ⟨_, _, e, q⟩ => by cases e; exact q, fun q => ⟨_, _, rfl, q⟩⟩
theorem x_drop {te : TE} {D : Ends} : tDrop te D σ H ↔ te σ H fun _ H1 => D.nx σ H1 := Iff.rfl
theorem x_BM {T : String} {r : V → List V → Hp → VK → Prop} {to : TE} {t : TA} : tBM K T r to t σ H Q ↔ to σ H fun x H1 => tyV K T x H1 ∧ t σ H1 fun xs H2 => r x xs H2 Q := Iff.rfl
theorem x_app {l : Addr} {xs : List V} (h : H l = some (.lst xs)) (hz : xs.length < sizeLine) (q : Q .non (upd H l (.lst (xs ++ [v])))) : rAppend (.ref l) [v] H Q := ⟨l, xs, v, rfl, rfl, h, hz, q⟩
theorem x_tyL {l : Addr} {xs : List V} (h : SqL K H l xs) : tyV K "list" (.ref l) H := Or.inl ⟨rfl, _, h⟩
theorem x_set0 {r : L2.St} {u : Option V} : List.set (o :: r) 0 u = u :: r := rfl
theorem x_setS {r : L2.St} {u : Option V} : List.set (o :: r) (n + 1) u = o :: List.set r n u := rfl
theorem x_setL {p : Addr} {xs : List V} {j : Nat} {Q : Hp → Prop} (h : H p = some (.lst xs)) (hj : ixN xs.length i' = some j) (q : Q (upd H p (.lst (xs.set j v)))) : rSetL (.ref p) (.int i') v H Q := ⟨p, xs, i', j, rfl, rfl, h, hj, q⟩
/-- what is left of a for loop over J -/
def Lp (J : It) (g : TG) (tb : TS) (D : Ends) (σ : L2.St) (H1 : Hp) : Prop := ∃ W : Nat → Nat → L2.St → Hp → Prop, (∃ m, W 0 m σ H1) ∧ ∀ i m σ H, W i m σ H →
  (J.stop i H ∧ D.nx σ H) ∨ (J.go i H ∧ ∃ N : L2.St → Hp → Prop, (∀ σ' H', N σ' H' → ∃ m', m' < m ∧ W (i + 1) m' σ' H') ∧ ∀ x H', J.yld i H x H' → g x σ H' fun σ2 H2 => tb { D with nx := N, ct := N, bk := D.nx } σ2 H2)
theorem x_forL {te : TE} {g : TG} {tb : TS} {D : Ends} : tFor (iList K te) g tb D σ H ↔ te σ H fun x H1 => ∃ a, x = .ref a ∧ (∃ xs, SqL K H1 a xs) ∧ Lp (Itl K a) g tb D σ H1 := Iff.rfl
theorem x_forT {te : TE} {g : TG} {tb : TS} {D : Ends} : tFor (iTup K te) g tb D σ H ↔ te σ H fun x H1 => ∃ a, x = .ref a ∧ (∃ xs, SqT K H1 a xs) ∧ Lp (Itt K a) g tb D σ H1 := Iff.rfl
theorem x_forR1 {ta : TA} {g : TG} {tb : TS} {D : Ends} : tFor (iRng1 ta) g tb D σ H ↔ ta σ H fun vs H1 => ∃ j : Int, vs = [.int j] ∧ -(2 ^ 62) ≤ j ∧ j < 2 ^ 62 ∧ Lp (Itr 0 j.toNat) g tb D σ H1 := Iff.rfl
theorem x_forR2 {ta : TA} {g : TG} {tb : TS} {D : Ends} : tFor (iRng2 ta) g tb D σ H ↔ ta σ H fun vs H1 => ∃ i j : Int, vs = [.int i, .int j] ∧ (-(2 ^ 62) ≤ i ∧ i < 2 ^ 62 ∧ -(2 ^ 62) ≤ j ∧ j < 2 ^ 62) ∧ Lp (Itr i (j - i).toNat) g tb D σ H1 := Iff.rfl
theorem x_forE {ta : TA} {g : TG} {tb : TS} {D : Ends} : tFor (iEnum K ta) g tb D σ H ↔ ta σ H fun vs H1 => ∃ a xs, vs = [.ref a] ∧ SqL K H1 a xs ∧ Lp (Ite K a) g tb D σ H1 := Iff.rfl
theorem lpL {a : Addr} {xs : List V} {g : TG} {tb : TS} {D : Ends} (Pv : Nat → L2.St → Hp → Prop) (h0 : Pv 0 σ H) (hl : ∀ i σ H, i ≤ xs.length → Pv i σ H → SqL K H a xs)
    (hs : ∀ i x σ H, xs[i]? = some x → Pv i σ H → g x σ H fun σ2 H2 => tb { D with nx := Pv (i + 1), ct := Pv (i + 1), bk := D.nx } σ2 H2) (hd : ∀ σ H, Pv xs.length σ H → D.nx σ H) : Lp (Itl K a) g tb D σ H := for_list Pv h0 hl hs hd
theorem lpT {a : Addr} {xs : List V} {g : TG} {tb : TS} {D : Ends} (Pv : Nat → L2.St → Hp → Prop) (h0 : Pv 0 σ H) (hl : ∀ i σ H, i ≤ xs.length → Pv i σ H → SqT K H a xs)
    (hs : ∀ i x σ H, xs[i]? = some x → Pv i σ H → g x σ H fun σ2 H2 => tb { D with nx := Pv (i + 1), ct := Pv (i + 1), bk := D.nx } σ2 H2) (hd : ∀ σ H, Pv xs.length σ H → D.nx σ H) : Lp (Itt K a) g tb D σ H := for_tup Pv h0 hl hs hd
theorem lpR {lo : Int} {m : Nat} {g : TG} {tb : TS} {D : Ends} (Pv : Nat → L2.St → Hp → Prop) (h0 : Pv 0 σ H)
    (hs : ∀ i σ H, i < m → Pv i σ H → g (.int (lo + i)) σ H fun σ2 H2 => tb { D with nx := Pv (i + 1), ct := Pv (i + 1), bk := D.nx } σ2 H2) (hd : ∀ σ H, Pv m σ H → D.nx σ H) : Lp (Itr lo m) g tb D σ H := for_range Pv h0 hs hd
theorem lpE {a : Addr} {xs : List V} {g : TG} {tb : TS} {D : Ends} (Pv : Nat → L2.St → Hp → Prop) (h0 : Pv 0 σ H) (hl : ∀ i σ H, i ≤ xs.length → Pv i σ H → SqL K H a xs)
    (hs : ∀ i x σ H T, xs[i]? = some x → Pv i σ H → H T = none → g (.ref T) σ (upd H T (.tup [.int (i : Nat), x])) fun σ2 H2 => tb { D with nx := Pv (i + 1), ct := Pv (i + 1), bk := D.nx } σ2 H2) (hd : ∀ σ H, Pv xs.length σ H → D.nx σ H) : Lp (Ite K a) g tb D σ H := by
  refine ⟨fun i m σ H => m = xs.length - i ∧ i ≤ xs.length ∧ Pv i σ H, ⟨xs.length, by simp, Nat.zero_le _, h0⟩, ?_⟩
  rintro i m σ H ⟨rfl, hi, p⟩
  have q := hl i σ H hi p
  by_cases hlt : i < xs.length
  · refine .inr ⟨⟨xs, xs[i], q, by simp [hlt]⟩, Pv (i + 1), fun σ' H' p' => ⟨xs.length - (i + 1), by omega, rfl, hlt, p'⟩, fun x H' y => ?_⟩
    obtain ⟨T, z, rfl, nT, rfl, f⟩ := y
    have e := f xs q
    exact hs i z σ H T e p nT
  · have e : i = xs.length := by omega
    subst e
    exact .inl ⟨⟨xs, q, Nat.le_refl _⟩, hd σ H p⟩
theorem x_ref {b : Addr} {P : Addr → Prop} : (∃ a, V.ref b = V.ref a ∧ P a) ↔ P b := ⟨fun ⟨_, e, q⟩ => by cases e; exact q, fun q => ⟨_, rfl, q⟩⟩
theorem x_int1 {a : Int} {P : Int → Prop} : (∃ i, V.int a = V.int i ∧ P i) ↔ P a := ⟨fun ⟨_, e, q⟩ => by cases e; exact q, fun q => ⟨_, rfl, q⟩⟩
theorem x_oneI {a : Int} {P : Int → Prop} : (∃ i, [V.int a] = [V.int i] ∧ P i) ↔ P a := ⟨fun ⟨_, e, q⟩ => by cases e; exact q, fun q => ⟨_, rfl, q⟩⟩
theorem x_oneB {P : Bool → Prop} : (∃ i, [V.bl k] = [V.bl i] ∧ P i) ↔ P k := ⟨fun ⟨_, e, q⟩ => by cases e; exact q, fun q => ⟨_, rfl, q⟩⟩
theorem x_noBI {P : Int → Prop} : (∃ i, [V.bl k] = [V.int i] ∧ P i) ↔ False := ⟨fun ⟨_, e, _⟩ => (nomatch e), fun q => q.elim⟩
theorem x_twoI {a b : Int} {P : Int → Int → Prop} : (∃ i j, [V.int a, V.int b] = [V.int i, V.int j] ∧ P i j) ↔ P a b := ⟨fun ⟨_, _, e, q⟩ => by cases e; exact q, fun q => ⟨_, _, rfl, q⟩⟩
theorem x_sl {r : V → Option Int → Option Int → Hp → VK → Prop} {te : TE} {tl th : TO} : tSl r te tl th σ H Q ↔ te σ H fun x H1 => tl σ H1 fun l H2 => th σ H2 fun u H3 => r x l u H3 Q := Iff.rfl
theorem x_noP {Q : Option Int → Hp → Prop} : tNoPart σ H Q ↔ Q none H := Iff.rfl
theorem x_part {te : TE} {Q : Option Int → Hp → Prop} : tPart te σ H Q ↔ te σ H fun x H1 => ∃ i, x = .int i ∧ Q (some i) H1 := Iff.rfl
theorem x_slL {a : Addr} {xs : List V} {lo hi : Option Int} (h : SqL K H a xs) (q : ∀ p, H p = none → Q (.ref p) (upd H p (.lst (cutV xs lo hi)))) : rSlL K (.ref a) lo hi H Q := ⟨a, xs, rfl, h, q⟩
theorem same_new {H : Hp} {p : Addr} {o : HO} (h : H p = none) : Same H (upd H p o) := fun b x e => by rw [upd_ne (ne_of_none e h)]; exact e
theorem same_mut {H H' : Hp} {p : Addr} {o : HO} (e : Same H H') (h : H p = none) : Same H (upd H' p o) := fun a u ha => by rw [upd_ne (ne_of_none ha h)]; exact e a u ha
theorem x_gtup {a : Addr} {xs : List V} {t : TGs} {Q : L2.St → Hp → Prop} (h : SqT K H a xs) (hl : xs.length = n) (q : t xs σ H Q) : gTup K n t (.ref a) σ H Q := ⟨a, xs, rfl, h, hl, q⟩
theorem x_gcons {t : TG} {u : TGs} {xs : List V} {Q : L2.St → Hp → Prop} : gCons t u (v :: xs) σ H Q ↔ t v σ H fun σ' H' => u xs σ' H' Q := ⟨fun ⟨_, _, e, q⟩ => by cases e; exact q, fun q => ⟨_, _, rfl, q⟩⟩
theorem x_gnil {Q : L2.St → Hp → Prop} : gNil [] σ H Q ↔ Q σ H := ⟨fun ⟨_, q⟩ => q, fun q => ⟨rfl, q⟩⟩
theorem x_dec {a b : Int} : decide (V.int a = V.int b) = decide (a = b) := by
  by_cases h : a = b
  · simp [h]
  · rw [decide_eq_false h, decide_eq_false (fun e => h (V.int.inj e))]
theorem x_decS {a b : Str} : decide (V.str a = V.str b) = decide (a = b) := by
  by_cases h : a = b
  · simp [h]
  · rw [decide_eq_false h, decide_eq_false (fun e => h (V.str.inj e))]
end
theorem atI_in {xs : List V} {i : Int} (h0 : 0 ≤ i) (h1 : i < xs.length) : ∃ x, atI xs i = some x ∧ x ∈ xs := by
  have hj : i.toNat < xs.length := by omega
  refine ⟨xs[i.toNat], ?_, List.getElem_mem hj⟩
  have e := atI_nat (xs := xs) (j := i.toNat) (List.getElem?_eq_getElem hj)
  rwa [Int.toNat_of_nonneg h0] at e
/-- an if without else: what follows is shown once, for all heaps of which I holds -/
theorem joinI {c A : Prop} {G : Hp → Prop} {H : Hp} (I : Hp → Prop) (hI : I H) (t : ∀ H, I H → G H) (ha : c → (∀ H, I H → G H) → A) : (c → A) ∧ (¬ c → G H) := ⟨fun h => ha h t, fun _ => t H hI⟩
theorem joinE {c A : Prop} {G : Hp → Prop} {H : Hp} (I : Hp → Prop) (hI : I H) (t : ∀ H, I H → G H) (ha : ¬ c → (∀ H, I H → G H) → A) : (c → G H) ∧ (¬ c → A) := ⟨fun _ => t H hI, fun h => ha h t⟩
end Cc

set_option Elab.async false
set_option linter.all false
set_option maxRecDepth 100000
set_option maxHeartbeats 4000000
/-! When repr of plain data is short enough. -/
namespace Cc
open PySem PySem.Spec PyProof.Rows L2
mutual
def smallD : PyData → Prop
  | .none => True
  | .bool _ => True
  | .int i => i.natAbs < 10 ^ 500
  | .str x => ∀ c ∈ x.cps.toList, c < 16 ^ 8
  | .list xs => smallL xs
  | .tuple xs => smallL xs
  | .dict _ => False
def smallL : List PyData → Prop
  | [] => True
  | x :: xs => smallD x ∧ smallL xs
end
mutual
theorem small_ok : ∀ d : PyData, smallD d → d.showable = true ∧ d.leavesShort 700 = true
  | .none, _ => ⟨rfl, rfl⟩
  | .bool _, _ => ⟨rfl, rfl⟩
  | .int i, h => by
    have h1 : i.natAbs < 10 ^ 500 := by simpa only [smallD] using h
    have h2 : i.natAbs < 2 ^ 1920 := Nat.lt_trans h1 (by decide +kernel)
    refine ⟨by simp only [PyData.showable, decide_eq_true_eq]; exact log2_small h2, ?_⟩
    simp only [PyData.leavesShort, decide_eq_true_eq, PyData.shown]
    refine decide_eq_true ?_
    rw [PySem.ofString_length]
    exact Nat.le_trans (int_text_length_le10 (k := 500) (by decide) h1) (show 500 + 1 ≤ 700 by decide)
  | .str x, h => by
    refine ⟨rfl, ?_⟩
    simp only [PyData.leavesShort, List.all_eq_true, decide_eq_true_eq]
    simpa only [smallD] using h
  | .list xs, h => by
    have q := small_okL xs (by simpa only [smallD] using h)
    exact ⟨by simpa only [PyData.showable] using q.1, by simpa only [PyData.leavesShort] using q.2⟩
  | .tuple xs, h => by
    have q := small_okL xs (by simpa only [smallD] using h)
    exact ⟨by simpa only [PyData.showable] using q.1, by simpa only [PyData.leavesShort] using q.2⟩
  | .dict _, h => by simp only [smallD] at h
theorem small_okL : ∀ ds : List PyData, smallL ds → PyData.showableAll ds = true ∧ PyData.leavesShortAll 700 ds = true
  | [], _ => ⟨rfl, rfl⟩
  | d :: ds, h => by
    have h' : smallD d ∧ smallL ds := by simpa only [smallL] using h
    have q1 := small_ok d h'.1
    have q2 := small_okL ds h'.2
    exact ⟨by simp only [PyData.showableAll, q1.1, q2.1, Bool.and_self], by simp only [PyData.leavesShortAll, q1.2, q2.2, Bool.and_self]⟩
end
def Rok (d : PyData) : Prop := d.showable = true ∧ d.depth ≤ 60 ∧ d.shown.length ≤ sizeLine
theorem rok_of {d : PyData} (h : smallD d) (hd : d.depth ≤ 60) (hb : d.bulk ≤ 20000) : Rok d := by
  have q := small_ok d h
  refine ⟨q.1, hd, ?_⟩
  have z := PyData.shown_le_bulk 700 (by decide) d q.2
  have : (700 + 2) * d.bulk ≤ 702 * 20000 := Nat.mul_le_mul (by omega) hb
  rw [sizeLine_eq]
  omega
section
variable {K : PySem.W.Frag} {H : Hp} {Q : VK} {v : V} {d : PyData}
theorem x_repD (h : Dp K H v d) (r : Rok d) (q : Q (.str d.shown) H) : rRepD K [v] H Q := ⟨v, d, rfl, h, r.1, r.2.1, r.2.2, q⟩
end
theorem nat_abs_lt {i : Int} (h0 : -(10 ^ 400) < i) (h1 : i < 10 ^ 400) : i.natAbs < 10 ^ 500 := by
  have h : i.natAbs < 10 ^ 400 := by
    rcases Int.natAbs_eq i with e | e
    · rw [e] at h1; exact_mod_cast h1
    · rw [e] at h0
      have : ((i.natAbs : Nat) : Int) < 10 ^ 400 := by omega
      exact_mod_cast this
  exact Nat.lt_trans h (by decide +kernel)
end Cc

set_option Elab.async false
set_option linter.all false
set_option maxRecDepth 100000
set_option maxHeartbeats 4000000
/-! Data in a growing heap; comprehensions; a text repeated. -/
namespace Cc
open PySem PySem.Spec PyProof.Rows L2
theorem Same.tup' {K : PySem.W.Frag} {H H' : Hp} {a : Addr} {xs : List V} (e : Same H H') (h : SqT K H a xs) : SqT K H' a xs := by
  rcases h with (h | ⟨o, h⟩) | h
  · exact .inl (.inl (e _ _ h))
  · exact .inl (.inr ⟨o, e _ _ h⟩)
  · exact .inr h
mutual
theorem Dp.same {K : PySem.W.Frag} {H H' : Hp} (e : Same H H') : ∀ (d : PyData) {v : V}, Dp K H v d → Dp K H' v d
  | .none, _, h => by cases h; exact .non
  | .bool b, _, h => by cases h; exact .bl b
  | .int i, _, h => by cases h; exact .int i
  | .str x, _, h => by cases h; exact .str x
  | .list ds, _, h => by
    cases h with
    | lst hs ha => exact .lst (e.seq hs) (DpAll.same e ds ha)
  | .tuple ds, _, h => by
    cases h with
    | tup hs ha => exact .tup (Same.tup' e hs) (DpAll.same e ds ha)
  | .dict _, _, h => by cases h
theorem DpAll.same {K : PySem.W.Frag} {H H' : Hp} (e : Same H H') : ∀ (ds : List PyData) {vs : List V}, DpAll K H vs ds → DpAll K H' vs ds
  | [], _, h => by cases h; exact .nil
  | d :: ds, _, h => by
    cases h with
    | cons h1 h2 => exact .cons (Dp.same e d h1) (DpAll.same e ds h2)
end
theorem dpBools {K : PySem.W.Frag} {H : Hp} : ∀ bs : List Bool, DpAll K H (bs.map V.bl) (bs.map PyData.bool)
  | [] => .nil
  | b :: bs => .cons (.bl b) (dpBools bs)
/-- what is left of a comprehension over J, its list at D -/
def Lcp (J : It) (g : TG) (tt : TT) (te : TE) (vs : List Nat) (σ : L2.St) (D : Addr) (H1 : Hp) (Q : VK) : Prop := ∃ W : Nat → Nat → Hp → Prop, (∃ m, W 0 m (upd H1 D (.lst []))) ∧ ∀ i m H, W i m H →
  (J.stop i H ∧ Q (.ref D) H) ∨ (J.go i H ∧ ∃ Nx : Hp → Prop, (∀ H', Nx H' → ∃ m', m' < m ∧ W (i + 1) m' H') ∧ ∀ x H', J.yld i H x H' → g x (wipe σ vs) H' fun σ2 H2 => wipe σ2 vs = wipe σ vs ∧ tt σ2 H2 fun b H3 =>
    if b = true then te σ2 H3 fun y H4 => ∃ acc, H4 D = some (.lst acc) ∧ acc.length < sizeLine ∧ Nx (upd H4 D (.lst (acc ++ [y]))) else Nx H3)
section
variable {K : PySem.W.Frag} {σ : L2.St} {H : Hp} {Q : VK} {g : TG} {tt : TT} {te tl : TE} {ta : TA} {vs : List Nat} {D : Addr} {n : Nat} {o : Option V}
theorem x_lcR1 : tLc (iRng1 ta) g tt te vs σ H Q ↔ ta σ H fun ws H1 => ∃ j : Int, ws = [.int j] ∧ -(2 ^ 62) ≤ j ∧ j < 2 ^ 62 ∧ ∀ D, H1 D = none → Lcp (Itr 0 j.toNat) g tt te vs σ D H1 Q := Iff.rfl
theorem x_lcL : tLc (iList K tl) g tt te vs σ H Q ↔ tl σ H fun x H1 => ∃ a, x = .ref a ∧ (∃ xs, SqL K H1 a xs) ∧ ∀ D, H1 D = none → Lcp (Itl K a) g tt te vs σ D H1 Q := Iff.rfl
theorem lcR {lo : Int} {n : Nat} (Pv : Nat → Hp → Prop) (h0 : Pv 0 (upd H D (.lst [])))
    (hs : ∀ i H, i < n → Pv i H → g (.int (lo + i)) (wipe σ vs) H fun σ2 H2 => wipe σ2 vs = wipe σ vs ∧ tt σ2 H2 fun b H3 =>
      if b = true then te σ2 H3 fun y H4 => ∃ acc, H4 D = some (.lst acc) ∧ acc.length < sizeLine ∧ Pv (i + 1) (upd H4 D (.lst (acc ++ [y]))) else Pv (i + 1) H3) (hd : ∀ H, Pv n H → Q (.ref D) H) : Lcp (Itr lo n) g tt te vs σ D H Q := lc_range Pv h0 hs hd
theorem lcL {a : Addr} {xs : List V} (Pv : Nat → Hp → Prop) (h0 : Pv 0 (upd H D (.lst []))) (hl : ∀ i H, i ≤ xs.length → Pv i H → SqL K H a xs)
    (hs : ∀ i x H, xs[i]? = some x → Pv i H → g x (wipe σ vs) H fun σ2 H2 => wipe σ2 vs = wipe σ vs ∧ tt σ2 H2 fun b H3 =>
      if b = true then te σ2 H3 fun y H4 => ∃ acc, H4 D = some (.lst acc) ∧ acc.length < sizeLine ∧ Pv (i + 1) (upd H4 D (.lst (acc ++ [y]))) else Pv (i + 1) H3) (hd : ∀ H, Pv xs.length H → Q (.ref D) H) : Lcp (Itl K a) g tt te vs σ D H Q := lc_list Pv h0 hl hs hd
theorem x_yes {Q : Bool → Hp → Prop} : tYes σ H Q ↔ Q true H := Iff.rfl
theorem x_wipe0 : wipe σ [] = σ := rfl
theorem x_wipeS {v : Nat} : wipe σ (v :: vs) = (wipe σ vs).set v none := rfl
end
/-! ### a text repeated -/
theorem rep_size (a : Array Nat) : ∀ (n : Nat) (b : Array Nat), ((List.replicate n a).foldl (· ++ ·) b).size = b.size + n * a.size
  | 0, b => by simp
  | n + 1, b => by
    rw [List.replicate_succ, List.foldl_cons, rep_size a n (b ++ a), Array.size_append, Nat.succ_mul]
    omega
theorem rep_mem (a : Array Nat) : ∀ (n : Nat) (b : Array Nat) (c : Nat), c ∈ ((List.replicate n a).foldl (· ++ ·) b).toList → c ∈ b.toList ∨ c ∈ a.toList
  | 0, b, c, h => by simp at h; exact .inl (by simpa using h)
  | n + 1, b, c, h => by
    rw [List.replicate_succ, List.foldl_cons] at h
    rcases rep_mem a n (b ++ a) c h with h | h
    · rw [Array.toList_append, List.mem_append] at h
      exact h
    · exact .inr h
section
variable {X : Cx}
def rRepS : R2 := fun x y H Q => ∃ z n, x = .str z ∧ y = .int n ∧ 0 ≤ n ∧ n ≤ 1000 ∧ z.length ≤ 1000 ∧ ∀ z' : Str, z'.length ≤ z.length * n.toNat → (∀ c ∈ z'.cps.toList, c ∈ z.cps.toList) → Q (.str z') H
theorem op_repS : OpR X (binaryOp .Mult) rRepS := by
  intro pins s σ H x y v u Q I rx ry h
  obtain ⟨z, n, rfl, rfl, n0, n1, hz, q⟩ := h
  obtain ⟨t, rfl⟩ := rx
  obtain ⟨t', rfl⟩ := ry
  have hm : z.length * n.toNat ≤ 1000 * 1000 := Nat.mul_le_mul hz (by omega)
  refine PySem.P.mul_str (by simp; omega) (fun h1 _ => ?_) (fun _ _ => ?_) ?_
  · have h2 : (1000 : Int) ≤ (2 ^ 63 - 1) / n := by
      rw [Int.le_ediv_iff_mul_le (by omega)]
      omega
    omega
  · unfold PySem.Builtin.Str.tooLong
    rw [decide_eq_false]
    rw [sizeLine_eq]
    omega
  · split
    · exact ⟨by decide, ⟨.str Str.empty, H, I.tok _, ⟨_, rfl⟩, q _ (Nat.zero_le _) (fun c hc => nomatch hc)⟩⟩
    · split
      · rename_i h1 h2
        refine ⟨.str z, H, I, ⟨_, rfl⟩, q z ?_ (fun c hc => hc)⟩
        exact Nat.le_mul_of_pos_right _ (by omega)
      · refine ⟨?_, ⟨.str _, H, I.tok _, ⟨_, rfl⟩, q _ ?_ (fun c hc => ?_)⟩⟩
        · show ((List.replicate n.toNat z.cps).foldl (· ++ ·) #[]).size ≤ sizeLine
          rw [rep_size, sizeLine_eq, Nat.mul_comm, show z.cps.size = z.length from rfl]
          simp only [List.size_toArray, List.length_nil]
          omega
        · show ((List.replicate n.toNat z.cps).foldl (· ++ ·) #[]).size ≤ _
          rw [rep_size, Nat.mul_comm, show z.cps.size = z.length from rfl]
          simp only [List.size_toArray, List.length_nil]
          omega
        · rcases rep_mem _ _ _ _ hc with h | h
          · exact nomatch h
          · exact h
end
section
variable {σ : L2.St} {H : Hp} {Q : VK} {z : Str} {n : Int}
theorem x_repS (n0 : 0 ≤ n) (n1 : n ≤ 1000) (hz : z.length ≤ 1000) (q : ∀ z' : Str, z'.length ≤ z.length * n.toNat → (∀ c ∈ z'.cps.toList, c ∈ z.cps.toList) → Q (.str z') H) : rRepS (.str z) (.int n) H Q := ⟨z, n, rfl, rfl, n0, n1, hz, q⟩
theorem x_cat {l b : Addr} {xs zs : List V} (h1 : H l = some (.lst xs)) (h2 : H b = some (.lst zs)) (hz : xs.length + zs.length ≤ sizeLine) (q : ∀ p, H p = none → Q (.ref p) (upd H p (.lst (xs ++ zs)))) : rCat (.ref l) (.ref b) H Q := ⟨l, b, xs, zs, rfl, rfl, h1, h2, hz, q⟩
end
end Cc

set_option Elab.async false
set_option linter.all false
set_option maxRecDepth 100000
set_option maxHeartbeats 4000000
/-! Chains: what steps make of a number; how a chain stands in the heap. -/
namespace Cc
open PySem PySem.Spec PyProof.Rows L2
abbrev Ch := List (Str × Int)
def lowI (w : Str) (n : Int) : Int := if w = "u" then 0 else -(2 ^ (n - 1).toNat)
def castI (x : Int) (w : Str) (n : Int) : Int := lowI w n + (x - lowI w n) % 2 ^ n.toNat
def stepI (x : Int) (s : Str × Int) : Int := if s.1 = "add" then x + s.2 else castI x s.1 s.2
def convI (x : Int) (c : Ch) : Int := c.foldl stepI x
def isC (w : Str) (n : Int) : Bool := decide (w = "u" ∨ w = "s") && decide (1 ≤ n)
def okS (s : Str × Int) : Bool := decide (s.1 = "add") || isC s.1 s.2
def big : Int := 100000
def okC (c : Ch) : Prop := ∀ s ∈ c, okS s = true ∧ s.2 ≤ (if s.1 = "add" then s.2 else big)
theorem two_pos (n : Nat) : (0 : Int) < 2 ^ n := by
  have h : 0 < 2 ^ n := Nat.two_pow_pos n
  exact_mod_cast h

/-- the tuples of a chain -/
inductive Sts (K : PySem.W.Frag) (H : Hp) : List V → Ch → Prop
  | nil : Sts K H [] []
  | cons {t : Addr} {w : Str} {n : Int} {xs : List V} {c : Ch} : SqT K H t [.str w, .int n] → Sts K H xs c → Sts K H (.ref t :: xs) ((w, n) :: c)
def ChAt (K : PySem.W.Frag) (H : Hp) (a : Addr) (c : Ch) : Prop := ∃ xs, SqL K H a xs ∧ Sts K H xs c
theorem Same.tup {K : PySem.W.Frag} {H H' : Hp} {a : Addr} {xs : List V} (e : Same H H') (h : SqT K H a xs) : SqT K H' a xs := by
  rcases h with (h | ⟨o, h⟩) | h
  · exact .inl (.inl (e _ _ h))
  · exact .inl (.inr ⟨o, e _ _ h⟩)
  · exact .inr h
section
variable {K : PySem.W.Frag} {H H' : Hp} {xs : List V} {c : Ch} {a : Addr}
theorem Sts.same (e : Same H H') : ∀ {xs : List V} {c : Ch}, Sts K H xs c → Sts K H' xs c
  | _, _, .nil => .nil
  | _, _, .cons h t => .cons (Same.tup e h) (Sts.same e t)
theorem Sts.len : ∀ {xs : List V} {c : Ch}, Sts K H xs c → xs.length = c.length
  | _, _, .nil => rfl
  | _, _, .cons _ t => congrArg (· + 1) (Sts.len t)
theorem Sts.get : ∀ {xs : List V} {c : Ch} {i : Nat} {x : V}, Sts K H xs c → xs[i]? = some x → ∃ t w n, x = .ref t ∧ c[i]? = some (w, n) ∧ SqT K H t [.str w, .int n]
  | _, _, _, _, .nil, e => by simp at e
  | _, _, 0, _, .cons h _, e => by
    simp at e
    exact ⟨_, _, _, e.symm, rfl, h⟩
  | _, _, i + 1, x, .cons _ t, e => by
    obtain ⟨t', w, n, e1, e2, e3⟩ := Sts.get (i := i) (x := x) t (by simpa using e)
    exact ⟨t', w, n, e1, by simpa using e2, e3⟩
theorem ChAt.same (e : Same H H') (h : ChAt K H a c) : ChAt K H' a c := by
  obtain ⟨xs, h1, h2⟩ := h
  exact ⟨xs, e.seq h1, h2.same e⟩
end
theorem inV2 (w : Str) : inV (.str w) [.str "u", .str "s"] = decide (w = "u" ∨ w = "s") := by
  show (((("u" : Str) == w) || (("s" : Str) == w || false))) = _
  rw [Bool.or_false, Bool.eq_iff_iff]
  simp only [Bool.or_eq_true, beq_iff_eq, decide_eq_true_eq]
  exact ⟨fun h => h.elim (fun h => .inl h.symm) (fun h => .inr h.symm), fun h => h.elim (fun h => .inl h.symm) (fun h => .inr h.symm)⟩
theorem convI_take {c : Ch} {x : Int} {i : Nat} {s : Str × Int} (h : c[i]? = some s) : convI x (c.take (i + 1)) = stepI (convI x (c.take i)) s := by
  unfold convI
  rw [List.take_add_one, h, List.foldl_append]
  rfl
theorem isC_of {x : Str} {n : Int} (h : okS (x, n) = true) (hx : ¬ x = "add") : 1 ≤ n := by
  unfold okS isC at h
  simp [hx] at h
  exact h.2
end Cc

set_option Elab.async false
set_option linter.all false
set_option maxRecDepth 100000
set_option maxHeartbeats 4000000
/-! An exception of an own class made by a call with keywords. -/
namespace PySem
namespace HandSPX
open PySem.W PySem.Calls PyProof.Rows
section
variable {nm q : Str} {C N : Addr} {bs bm bmB : List Value} {hdct : Bool} {sn : List Str} {sub : List Value} {ab : Bool} {col : Option Bool} {dd : Option Addr} {k0 k1 k2 k3 k5 : Option Value} {B newId initId : String}
variable {h : Heap} {g : Array GenState} {d : Drawn} {t : Nat} {os : OsState}
theorem kwx_check_new {M : Model} {A : Around} {E : Value → Shared → Prop} {key : Str} {v : Value} {Q : Unit → Shared → Prop}
    (F : ExcBaseFacts B newId initId bmB) (hT : ∀ X : String, bm.contains (.type X) = bmB.contains (.type X))
    (hC : h.get? C = some (excClassObj nm q C N bs bm hdct sn sub ab col dd k0 k1 k2 k3 k5 newId)) (hq : Q () ⟨h, g, d, t, os⟩) :
    wpAny M A (checkBuiltinCall newId ⟨[.ref C], [(key, v)]⟩) Q E ⟨h, g, d, t, os⟩ := by
  have inB : (Value.ref C :: bm).contains (.type B) = true := by
    rw [List.contains_cons, hT]
    rw [F.hasB, Bool.or_true]
  have star := F.noStar
  simp only [checkBuiltinCall, F.newKind, F.newSplit, F.newRow]
  repeat (first
    | refine wpAny_loadPart_at hC ?_
    | (refine wpAny_isSubtype_exc hC ?_
       rw [inB])
    | refine wpAny_staticBase_exc hC ?_
    | refine wpAny_madeBy_exc hC ?_
    | simp only [bne_self_eq_false, Bool.false_eq_true, if_false]
    | wp_step)
  exact hq
theorem kwx_check_call {M : Model} {A : Around} {E : Value → Shared → Prop} {key : Str} {v : Value} {Q : Unit → Shared → Prop}
    (hC : h.get? C = some (excClassObj nm q C N bs bm hdct sn sub ab col dd k0 k1 k2 k3 k5 newId)) (hq : Q () ⟨h, g, d, t, os⟩) :
    wpAny M A (checkBuiltinCall "type.__call__" ⟨[.ref C], [(key, v)]⟩) Q E ⟨h, g, d, t, os⟩ := by
  have f3 := tc_sub
  have isT : (⟨h, g, d, t, os⟩ : Shared).TypeIs (.ref C) "type" := ⟨_, hC, rfl⟩
  simp only [checkBuiltinCall, tc_kind, tc_split]
  repeat (any_goals (first
    | assumption
    | with_reducible refine wpAny_loadPart_at hC ?_
    | with_reducible refine wpAny_onRaise ?_
    | with_reducible refine wpAny_map ?_
    | wp_step))
end
section
variable {nm q : Str} {C N : Addr} {bs bm bmB : List Value} {hdct : Bool} {sn : List Str} {sub : List Value} {ab : Bool} {col : Option Bool} {dd : Option Addr} {k0 k1 k2 k3 k5 : Option Value} {B newId initId : String}
variable {h : Heap} {g : Array GenState} {d : Drawn} {t : Nat} {os : OsState} {prog : Program} {w : World} {A : Around} {E : Value → Shared → Prop} {R : Result → Shared → Prop}
theorem kwx_new {key : Str} {v : Value} (F : ExcBaseFacts B newId initId bmB) (hT : ∀ X : String, bm.contains (.type X) = bmB.contains (.type X))
    (hC : h.get? C = some (excClassObj nm q C N bs bm hdct sn sub ab col dd k0 k1 k2 k3 k5 newId))
    (hq : R (.ok (.ret (.ref (h.objs.size + 1)))) ⟨(h.push (W.kdv_tup [])).push (excO C h.objs.size), g, d, t, os⟩) :
    codeAny (model prog w) A (.builtin newId ⟨[.ref C], [(key, v)]⟩) R ⟨h, g, d, t, os⟩ := by
  have ends := F.ends
  have inB : (Value.ref C :: bm).contains (.type B) = true := by rw [List.contains_cons, hT]; rw [F.hasB, Bool.or_true]
  have inA : (Value.ref C :: bm).contains (.type "AttributeError") = false := by rw [List.contains_cons, hT]; simp only [F.noAttr]; rfl
  have inN : (Value.ref C :: bm).contains (.type "NameError") = false := by rw [List.contains_cons, hT]; simp only [F.noName]; rfl
  refine codeAny_builtinAt F.entry ?_
  unfold Builtin.«BaseException.__new__»
  refine wpAt_bind ?_
  show wpAt _ _ _ (stack >>= _) _ _ _
  refine wpAt_bind (wpAt_stack fun p below => wpAt_of_wpAny ?_)
  wp_walk
  refine wpAt_of_wpAny ?_
  rw [F.owner]
  repeat (first
    | with_reducible refine wpAny_madeHere_exc F.canon hC ?_
    | with_reducible refine wpAny_loadPart_at hC ?_
    | (with_reducible refine wpAny_isSubtype_exc hC ?_
       first
       | rw [inB]
       | rw [inA]
       | rw [inN])
    | wp_step)
  show R _ _
  rw [Heap.size_push]
  exact hq
theorem kwx_type_call {key : Str} {v : Value} {fI : Addr} {Q : Fin → Shared → Prop} (F : ExcBaseFacts B newId initId bmB) (hT : ∀ X : String, bm.contains (.type X) = bmB.contains (.type X))
    (hC : h.get? C = some (excClassObj nm q C N bs bm hdct sn sub ab col dd k0 k1 k2 k3 k5 newId))
    (hi : W.Looks (model prog w) h (typeLookup (.ref C) "__init__") (some (.ref fI))) (hb : ∀ self, W.Looks (model prog w) h (bindSpecial (.ref fI) self) (.ref fI, [self]))
    (hq : codeAny (model prog w) A (.call (.ref fI) ⟨[.ref (h.objs.size + 1)], [(key, v)]⟩)
      (fun r s' => match r with | .ok (.ret z) => z = .none ∧ Q (.done (.ret (.ref (h.objs.size + 1)))) s' | .ok _ => False | .error e => E e s')
      ⟨(h.push (W.kdv_tup [])).push (excO C h.objs.size), g, d, t, os⟩) :
    wpAny (model prog w) A (Builtin.«type.__call__» ⟨[.ref C], [(key, v)]⟩) Q E ⟨h, g, d, t, os⟩ := by
  repeat (first
    | with_reducible refine wpAny_loadPart_at hC ?_
    | with_reducible refine wpAny_madeBy_exc hC ?_
    | wp_step)
  refine codeAny_call_builtin_code (Code.quiet_builtin _ F.quiet) (kwx_check_new F hT hC ?_)
  refine kwx_new F hT hC ?_
  show wpAny _ _ _ _ _ _
  have keep : ∀ b o, h.get? b = some o → ((h.push (W.kdv_tup [])).push (excO C h.objs.size)).get? b = some o := fun b o e => Heap.get?_push_of_some _ (Heap.get?_push_of_some _ e)
  have atC := keep _ _ hC
  have atE : ((h.push (W.kdv_tup [])).push (excO C h.objs.size)).get? (h.objs.size + 1) = some (excO C h.objs.size) := by heap_get
  have inC : (Value.ref C :: bm).contains (.ref C) = true := by simp
  have i1 := hi.keeps keep
  have b1 := (hb (.ref (h.objs.size + 1))).keeps keep
  unfold isInstance
  repeat (first
    | with_reducible refine wpAny_loadPart_at atE ?_
    | (with_reducible refine wpAny_isSubtype_exc atC ?_
       rw [inC])
    | wp_step)
  show wpAny _ _ (typeLookup (.ref C) _) _ _ _
  refine i1.at ?_
  refine wpAny_holding (wpAny_bind (b1.at ?_))
  refine wpAny_bind (wpAny_call (codeAny_mono hq fun r s' z => ?_))
  match r, z with
  | .error e, z => exact z
  | .ok .next, z => exact z.elim
  | .ok .brk, z => exact z.elim
  | .ok .cont, z => exact z.elim
  | .ok (.ret u), z =>
    obtain ⟨rfl, z⟩ := z
    first
      | exact wpAny_pure (wpAny_pure z)
      | (wp_walk; exact z)
theorem kwx_call {key : Str} {v : Value} {fI : Addr} (F : ExcBaseFacts B newId initId bmB) (hT : ∀ X : String, bm.contains (.type X) = bmB.contains (.type X))
    (hC : h.get? C = some (excClassObj nm q C N bs bm hdct sn sub ab col dd k0 k1 k2 k3 k5 newId))
    (hi : W.Looks (model prog w) h (typeLookup (.ref C) "__init__") (some (.ref fI))) (hb : ∀ self, W.Looks (model prog w) h (bindSpecial (.ref fI) self) (.ref fI, [self]))
    (hq : codeAny (model prog w) (A.under (.builtin "type.__call__" ⟨[.ref C], [(key, v)]⟩)) (.call (.ref fI) ⟨[.ref (h.objs.size + 1)], [(key, v)]⟩) (W.InitBack (h.objs.size + 1) R)
      ⟨(h.push (W.kdv_tup [])).push (excO C h.objs.size), g, d, t, os⟩) :
    codeAny (model prog w) A (.call (.ref C) ⟨[], [(key, v)]⟩) R ⟨h, g, d, t, os⟩ := by
  have f1 := tc_lookup
  have f2 := tc_bind (.ref C)
  have isT : (⟨h, g, d, t, os⟩ : Shared).TypeIs (.ref C) "type" := ⟨_, hC, rfl⟩
  refine codeAny_of_tree ?_
  show wpAny _ _ (callAny (.ref C) _) _ _ _
  repeat (any_goals (first
    | assumption
    | with_reducible refine wpAny_loadPart_at hC ?_
    | wp_step))
  refine ⟨rfl, ?_⟩
  refine codeAny_call_builtin_at (Code.quiet_builtin _ (by decide +kernel)) entry_typeCall (kwx_check_call hC (kwx_type_call F hT hC hi hb ?_))
  refine codeAny_mono hq fun r s' z => ?_
  match r, z with
  | .error e, z => exact z
  | .ok .next, z => exact z
  | .ok .brk, z => exact z
  | .ok .cont, z => exact z
  | .ok (.ret u), z => exact z
end
end HandSPX
end PySem

set_option Elab.async false
set_option linter.all false
set_option maxRecDepth 100000
set_option maxHeartbeats 4000000
/-! Exceptions of own classes as values: made, asked for their class, their field read. -/
namespace Cc
open PySem PySem.Spec PyProof.Rows L2
/-- an exception of the class cls stands at a, its own dict at d -/
def exT (a : Addr) (cls : Value) (d : Option Addr) : HO := .ext fun h => ∃ oe vs, h.get? a = some oe ∧ Zc cls d oe ∧ oe.data = .fields vs
theorem exT_ok {P : Program} {w : World} {H : Hp} {h : Heap} {a : Addr} {cls : Value} {d : Option Addr} {oe : Obj} {vs : Array Value} (e : h.get? a = some oe) (z : Zc cls d oe) (f : oe.data = .fields vs) : ObjOk P w H h a (exT a cls d) :=
  ⟨⟨oe, vs, e, z, f⟩, ⟨oe, e⟩, fun _ _ ⟨o, v, q, r⟩ k => ⟨o, v, k o q, r⟩⟩
/-- what the written part says of an exception class with an __init__ that stores value -/
structure XC (K : PySem.W.Frag) (mg : Str → Option Value) (x : Str) (C fI : Addr) : Prop where
  gC : mg x = some (.ref C)
  T : OexC K C
  I : ExcC K C
  no : PySem.W.findIn K (.ref C) "value" = some none
  iC : PySem.W.findIn K (.ref C) "__init__" = some (some (.ref fI))
  tI : PySem.W.typeIn K (.ref fI) = some (.type "function")
def spInit (K : PySem.W.Frag) (C : Addr) : Sp := fun vs H Q _ => ∃ (a : Addr) (v : V), vs = [.ref a, v] ∧ H a = some (exo a C none) ∧ ∀ dx, H dx = none → dx ≠ a → Q .non (upd (upd H dx (exd dx [("value", v)])) a (exo a C (some dx)))
section
variable {X : Cx} {x : Str} {C fI : Addr} {e : Expr} {ta : TA} {p pos : Pos} {k : Nat} {fd : FuncData}
theorem made_eq {H1 : Hp} {a d : Addr} {C : Addr} {fs : List (Str × V)} {u v : HO} (na : H1 a = none) (hne : d ≠ a) :
    upd (del (upd (upd (upd H1 a u) d (exd d fs)) a v) a) d (.xd fs) = upd H1 d (.xd fs) := by
  funext b
  by_cases hd : b = d
  · rw [hd, upd_same, upd_same]
  · rw [upd_ne hd, upd_ne hd]
    by_cases ha : b = a
    · rw [ha, del_same, na]
    · rw [del_ne ha, upd_ne ha, upd_ne hd, upd_ne ha]
/-- an exception of the class at C is made of the values vs -/
def MkR (K : PySem.W.Frag) (C : Addr) (vs : List V) (H1 : Hp) (Q : XK) : Prop := vs.length ≤ 1000 ∧ ∀ a, H1 a = none → spInit K C (.ref a :: (vs ++ [])) (upd H1 a (exo a C none))
  (fun v H2 => v = .non ∧ ∃ (d : Addr) (fs : List (Str × V)), H2 a = some (exo a C (some d)) ∧ H2 d = some (exd d fs) ∧ H1 d = none ∧ Q (.ref C) (some d) (upd (del H2 a) d (.xd fs))) (fun _ _ _ => False)
theorem mkR {K : PySem.W.Frag} {H1 : Hp} {v : V} {Q : XK} (h : ∀ d, H1 d = none → Q (.ref C) (some d) (upd H1 d (.xd [("value", v)]))) : MkR K C [v] H1 Q :=
  ⟨by simp, fun a na => ⟨a, v, rfl, upd_same, fun d hd hne => ⟨rfl, d, _, upd_same, by rw [upd_ne hne, upd_same], by rw [upd_ne hne] at hd; exact hd, by
    rw [upd_ne hne] at hd
    rw [made_eq (C := C) na hne]
    exact h d hd⟩⟩⟩
def asV (Q : VK) : XK := fun cls d H' => ∀ a, H' a = none → Q (.ref a) (upd H' a (exT a cls d))
/-- as a value -/
theorem mkV {K : PySem.W.Frag} {H1 : Hp} {v : V} {Q : VK} (h : ∀ d a, H1 d = none → upd H1 d (.xd [("value", v)]) a = none → Q (.ref a) (upd (upd H1 d (.xd [("value", v)])) a (exT a (.ref C) (some d)))) : MkR K C [v] H1 (asV Q) :=
  mkR fun d hd a ha => h d a hd ha
theorem pe_mk {t : L2.St → Hp → XK → Prop} (h : PMk X e t) : PE X e (fun σ H Q => t σ H (asV Q)) := by
  refine ⟨fun pins s σ H Q I q => thn (h pins s σ H _ I q) fun u s1 hu => ?_⟩
  obtain ⟨a, oe, vs, sI, H', cls, d, rfl, J, kp, ne, ho, hz, hf, _, na, os, ag, _, q1⟩ := hu
  obtain ⟨hp, g, dr, tk, o1⟩ := s1
  have J2 : Inv X pins σ (upd H' a (exT a cls d)) { sI with heap := hp, toks := tk } := J.laidN (t' := tk) kp ne na (exT_ok ho hz hf)
  have J3 : Inv X pins σ (upd H' a (exT a cls d)) ⟨hp, g, dr, tk, o1⟩ := ⟨J2.ok, os.trans J2.os, ag, J2.base, J2.loc, J2.cell, J2.free, J2.freeC, J2.pin, J2.hok, J2.len⟩
  exact ⟨.ref a, _, J3, rfl, q1 a na⟩
def tMk (K : PySem.W.Frag) (C : Addr) (ta : TA) : L2.St → Hp → XK → Prop := fun σ H Q => ta σ H fun vs H1 => MkR K C vs H1 Q
def tMkV (K : PySem.W.Frag) (C : Addr) (ta : TA) : TE := fun σ H Q => ta σ H fun vs H1 => MkR K C vs H1 (asV Q)
theorem pmk_ex (Y : XC X.K X.mg x C fI) (F1 : FnOk X.prog X.w X.K X.mg X.base CX0 k fI fd ["self", "value"] (spInit X.K C)) (hr : Room (k + 1) X.A) (hb : Binds X.K fd ["self", "value"] []) (hg : Gl X x) (ha : PA X [e] ta)
    (hdb : (x == ("__debug__" : Str)) = false := by decide) (he : starEach [e] X.env = (false, eval e X.env) :: starEach [] X.env := by rfl) (hpl : (backTo pos (starEach [] X.env)).any (·.1) = false := by rfl) :
    PMk X (.Call (.Name x p) [e] [] pos) (tMk X.K C ta) :=
  pmk_oex (dvs := []) Y.T Y.iC Y.tI F1 hr hb .nil (fun _ _ _ _ _ _ _ z => z.elim) hg Y.gC ha hdb he hpl
/-- x(value = e) -/
theorem pmk_exK {kws : List Keyword} (Y : XC X.K X.mg x C fI) (F1 : FnOk X.prog X.w X.K X.mg X.base CX0 k fI fd ["self", "value"] (spInit X.K C)) (hr : Room (k + 1) X.A)
    (hb : ∀ (s : Shared) (u v : Value), BindsTo s fd ⟨[u], [("value", v)]⟩ [("self", u), ("value", v)]) (hg : Gl X x) (hkw : PK X kws ta)
    (hall : (backToKw pos (keywordEach kws X.env)).all (·.1.isSome) = true := by rfl) (hks : (backToKw pos (keywordEach kws X.env)).filterMap (·.1) = [("value" : Str)] := by rfl) (hdb : (x == ("__debug__" : Str)) = false := by decide)
    (hpl : ((backTo pos (starEach [] X.env)).any (·.1) || (backToKw pos (keywordEach kws X.env)).any (·.1.isNone)) = false := by rfl) :
    PMk X (.Call (.Name x p) [] kws pos) (tMk X.K C ta) := by
  intro pins s σ H Q I h
  obtain ⟨nm, q, N, bs, bm, sn, sub, ab, col, dd, k0, k1, k2, k3, k5, hC, hbm⟩ := Y.T.cls
  refine wpAny_Call_Name_kw (ld_glob I hg Y.gC ?_ hdb)
  refine PySem.W.callWith_KW0 (h₀ := X.base) I.ok.mod.kin Y.T.kC hall ?_ hpl
  refine thn (hkw.run pos pins s σ H _ I h) fun ws s1 ⟨vs, H1, I1, rz, _, q1⟩ => ⟨I1.kIn, ?_⟩
  rw [hks]
  obtain ⟨hp, g, dr, tk, os⟩ := s1
  have more : hp.objs.size ≤ hp.objs.size + 1 := Nat.le_succ _
  have hn : H1 (hp.objs.size + 1) = none := I1.hok.fresh more
  have hq := q1 (hp.objs.size + 1) hn
  obtain ⟨v, rfl⟩ : ∃ v, vs = [v] := by
    obtain ⟨a0, v, e0, _⟩ := hq
    rw [List.append_nil] at e0
    obtain ⟨_, e2⟩ := List.cons.inj e0
    exact ⟨v, e2⟩
  cases rz with
  | @cons _ wv _ ur rv rest =>
    cases rest
    have kk : ∀ b o, hp.get? b = some o → ((hp.push (PySem.W.kdv_tup [])).push (PySem.HandSPX.excO C hp.objs.size)).get? b = some o := fun b o z => Heap.get?_push_of_some _ (Heap.get?_push_of_some _ z)
    have atE : ((hp.push (PySem.W.kdv_tup [])).push (PySem.HandSPX.excO C hp.objs.size)).get? (hp.objs.size + 1) = some (PySem.HandSPX.excO C hp.objs.size) := by heap_get
    have I2 := I1.laid (t' := tk) (a := hp.objs.size + 1) (o := exo (hp.objs.size + 1) C none) (h' := (hp.push (PySem.W.kdv_tup [])).push (PySem.HandSPX.excO C hp.objs.size)) kk more (exo_ok atE)
    show wpAny _ _ (call (.ref C) [] [("value", wv)]) _ _ _
    have both : Vals [V.ref (hp.objs.size + 1), v] [Value.ref (hp.objs.size + 1), wv] := .cons rfl (.cons rv .nil)
    refine wpAny_call (PySem.HandSPX.kwx_call F.excBase_ValueError (fun Z => PySem.HandSPX.refsVE_contains Z bm hbm) (I1.kIn _ _ hC) (PySem.W.looks_findIn I1.kIn Y.iC) (fun self => PySem.W.bind_fn I1.kIn self Y.tI) ?_)
    have run := F1.run _ X.stack _ _ ⟨[Value.ref (hp.objs.size + 1)], [("value", wv)]⟩ _ _ _ (fun _ _ _ => False) (hr.make C [] [("value", wv)]) (I2.env0.make C [] [("value", wv)]) (hb _ (Value.ref (hp.objs.size + 1)) wv) both hq
    refine codeAny_mono run fun r s' z => ?_
    match r, z with
    | .error e, z => exact z.elim
    | .ok .next, z => exact z.elim
    | .ok .brk, z => exact z.elim
    | .ok .cont, z => exact z.elim
    | .ok (.ret u), z =>
      obtain ⟨v', H2, os2, bare2, un2, hok2, rv', ev, d, fs, ea, ed, hd1, q2⟩ := z
      subst ev
      obtain ⟨h2, g2, d2, t2, os'⟩ := s'
      exact ⟨rv', mk_end (raises_own Y.T.exC Y.T.tyC) I1 more kk un2 hok2 os2 bare2 ea ed hd1 q2⟩
theorem pe_ex (Y : XC X.K X.mg x C fI) (F1 : FnOk X.prog X.w X.K X.mg X.base CX0 k fI fd ["self", "value"] (spInit X.K C)) (hr : Room (k + 1) X.A) (hb : Binds X.K fd ["self", "value"] []) (hg : Gl X x) (ha : PA X [e] ta)
    (hdb : (x == ("__debug__" : Str)) = false := by decide) (he : starEach [e] X.env = (false, eval e X.env) :: starEach [] X.env := by rfl) (hpl : (backTo pos (starEach [] X.env)).any (·.1) = false := by rfl) :
    PE X (.Call (.Name x p) [e] [] pos) (tMkV X.K C ta) := pe_mk (pmk_ex Y F1 hr hb hg ha hdb he hpl)
theorem pe_exK {kws : List Keyword} (Y : XC X.K X.mg x C fI) (F1 : FnOk X.prog X.w X.K X.mg X.base CX0 k fI fd ["self", "value"] (spInit X.K C)) (hr : Room (k + 1) X.A)
    (hb : ∀ (s : Shared) (u v : Value), BindsTo s fd ⟨[u], [("value", v)]⟩ [("self", u), ("value", v)]) (hg : Gl X x) (hkw : PK X kws ta)
    (hall : (backToKw pos (keywordEach kws X.env)).all (·.1.isSome) = true := by rfl) (hks : (backToKw pos (keywordEach kws X.env)).filterMap (·.1) = [("value" : Str)] := by rfl) (hdb : (x == ("__debug__" : Str)) = false := by decide)
    (hpl : ((backTo pos (starEach [] X.env)).any (·.1) || (backToKw pos (keywordEach kws X.env)).any (·.1.isNone)) = false := by rfl) :
    PE X (.Call (.Name x p) [] kws pos) (tMkV X.K C ta) := pe_mk (pmk_exK Y F1 hr hb hg hkw hall hks hdb hpl)
/-- the object that stands at a, with its dict -/
theorem ex_inst {pins : List (Addr × Obj)} {σ : L2.St} {H : Hp} {s : Shared} {a d : Addr} {fs : List (Str × V)} (I : Inv X pins σ H s) (ha : H a = some (exT a (.ref C) (some d))) (hd : H d = some (.xd fs)) :
    ∃ (oe od : Obj) (mA : Str → Option Value), PySem.W.InstAt s.heap a oe C (some od) ∧ (∀ name, PySem.W.lookIn name od = some (mA name)) ∧ ∀ f, RelO (fs.lookup f) (mA f) := by
  have h1 : ObjOk X.prog X.w H s.heap a (exT a (.ref C) (some d)) := I.hok a _ ha
  obtain ⟨⟨oe, vs, e, z, f⟩, _, _⟩ := h1
  have h2 : ObjOk X.prog X.w H s.heap d (.xd fs) := I.hok d _ hd
  obtain ⟨mA, hns, hr⟩ := h2
  obtain ⟨od, ho, hl⟩ := lookIn_ns hns
  exact ⟨oe, od, mA, ⟨e, z.1, by unfold PySem.W.notCls; rw [f] <;> rfl, by rw [z.2]; exact ho⟩, hl, hr⟩
/-- isinstance(e, c) -/
def rIsX (K : PySem.W.Frag) : List V → Hp → VK → Prop := fun xs H Q => ∃ (a C d : Addr) (fs : List (Str × V)) (c : V) (u : Value) (b : Bool), xs = [.ref a, c] ∧ H a = some (exT a (.ref C) (some d)) ∧ H d = some (.xd fs) ∧ ExcC K C ∧ ClsV c u ∧
  PySem.W.kitOne K (.ref C) u = some b ∧ Q (.bl b) H
theorem cr_isX : CallR X (.builtin "isinstance") (rIsX X.K) := by
  intro pins s σ H xs us Q I r h
  obtain ⟨a, C, d, fs, c, u, b, rfl, ha, hd, E, hc, e, q⟩ := h
  cases r with
  | cons rx rr =>
    cases rr with
    | cons rt rr =>
      cases rr
      cases rx
      have ec := hc.eq rt
      subst ec
      obtain ⟨oe, od, mA, J, _⟩ := ex_inst I ha hd
      exact PySem.W.kia_one (PySem.W.kitx_exc (by obtain ⟨cd, hcd, _⟩ := PySem.W.any_some E.hd; rw [hcd]; rfl) E.hg E.hk E.hs E.ha E.hn E.ht E.hm) I.kIn J e (fun z => nomatch z) fun tk => ⟨.bl b, H, I.kept (t' := tk) fun _ _ z => z, rfl, q⟩
/-- e.value -/
def tValue (K : PySem.W.Frag) (te : TE) : TE := fun σ H Q => te σ H fun x H1 => ∃ (a C d : Addr) (v : V), x = .ref a ∧ H1 a = some (exT a (.ref C) (some d)) ∧ H1 d = some (.xd [("value", v)]) ∧ ExcC K C ∧ PySem.W.findIn K (.ref C) "value" = some none ∧ Q v H1
theorem pe_value {te : TE} (he : PE X e te) (hb : attributeBase e "value" X.env (eval e X.env) = eval e X.env := by rfl) : PE X (.Attribute e "value" pos) (tValue X.K te) := by
  refine ⟨fun pins s σ H Q I h => ?_⟩
  refine attr_of hb (thn (he.run pins s σ H _ I h) fun u s1 hh => ?_)
  obtain ⟨x, H1, I1, rx, a, C, d, v, rfl, ha, hd, E, hno, q⟩ := hh
  cases rx
  obtain ⟨oe, od, mA, J, hl, hr⟩ := ex_inst I1 ha hd
  have l : List.lookup ("value" : Str) [(("value" : Str), v)] = some v := by simp [List.lookup]
  obtain ⟨u, hu, ru⟩ := RelO.some_of (v := v) (o := mA "value") (by rw [← l]; exact hr "value")
  exact PySem.HandSPX.exc_get I1.kIn J E.hg E.hk E.hs (PySem.W.findObj_own E.hd hno rfl (by rw [hl, hu])) (handed_of ru) ⟨v, H1, I1.tok _, ru, q⟩
end
section
variable {σ : L2.St} {H : Hp} {Q : VK} {K : PySem.W.Frag} {C : Addr} {ta : TA} {te : TE}
theorem x_mkV : tMkV K C ta σ H Q ↔ ta σ H fun vs H1 => MkR K C vs H1 (asV Q) := Iff.rfl
theorem x_value : tValue K te σ H Q ↔ te σ H fun x H1 => ∃ (a C d : Addr) (v : V), x = .ref a ∧ H1 a = some (exT a (.ref C) (some d)) ∧ H1 d = some (.xd [("value", v)]) ∧ ExcC K C ∧ PySem.W.findIn K (.ref C) "value" = some none ∧ Q v H1 := Iff.rfl
end
end Cc

set_option Elab.async false
set_option linter.all false
set_option maxRecDepth 100000
set_option maxHeartbeats 4000000
/-! try .. except C as n: the exception stays tracked behind the suite. -/
namespace Cc
open PySem PySem.Spec PyProof.Rows L2
section
variable {X : Cx} {pins : List (Addr × Obj)} {σ : L2.St} {H : Hp}
/-- an object that was not there at the entry and is not tracked yet is tracked from now on -/
theorem track {q t : Shared} {a : Addr} {o : HO} (I : Inv X pins σ H q) (J : Inv X pins σ H t) (fresh : q.heap.get? a = none) (na : H a = none) (hex : X.ex = []) (new : ObjOk X.prog X.w (upd H a o) t.heap a o) : Inv X pins σ (upd H a o) t := by
  have old : X.s_0.heap.get? a = none := by
    cases e : X.s_0.heap.get? a with
    | none => rfl
    | some z =>
      obtain ⟨z', e'⟩ := I.base.there a z e (by rw [hex]; simp)
      rw [fresh] at e'
      cases e'
  obtain ⟨m, hm, _⟩ := id I.loc
  have nl : X.env.locals ≠ a := fun z => by
    obtain ⟨z1, hz1⟩ : ∃ z1, q.heap.get? X.env.locals = some z1 := by
      obtain ⟨z1, _, _, h, _⟩ := hm
      exact ⟨z1, h⟩
    rw [z, fresh] at hz1
    cases hz1
  refine ⟨J.ok, J.os, J.bare, ⟨J.base.keep, J.base.slot, fun b z e n hx => ?_, J.base.there, fun b xs e => ?_, fun b z u e => ?_, fun b ps e => ?_⟩, J.loc, J.cell, ?_, fun x c hc => ?_, fun p hp => ?_, J.hok.laidN (fun _ _ h => h) na new, J.len⟩
  · rw [upd_ne (fun z' => by rw [z', old] at e; cases e)]
    exact J.base.free b z e n hx
  · have h := J.base.tups b xs e
    rw [upd_ne (ne_of_none h na)]
    exact h
  · have h := J.base.frzs b z u e
    rw [upd_ne (ne_of_none h na)]
    exact h
  · obtain ⟨more, h⟩ := J.base.tbls b ps e
    exact ⟨more, by rw [upd_ne (ne_of_none h na)]; exact h⟩
  · rw [upd_ne nl]
    exact J.free
  · have nc : c ≠ a := fun z => by
      obtain ⟨v, hv⟩ := I.cell x c hc
      obtain ⟨z1, hz1⟩ : ∃ z1, q.heap.get? c = some z1 := by
        first | (obtain ⟨z1, h, _⟩ := hv; exact ⟨z1, h⟩) | exact ⟨_, hv⟩
      rw [z, fresh] at hz1
      cases hz1
    rw [upd_ne nc]
    exact J.freeC x c hc
  · have np : p.1 ≠ a := fun z => by
      have h := (I.pin p hp).1
      rw [z, fresh] at h
      cases h
    obtain ⟨h1, h2, h3⟩ := J.pin p hp
    exact ⟨h1, by rw [upd_ne np]; exact h2, h3⟩
end
/-- what is wanted of an exception of the body, where the clause names c and slot i takes the exception, which is tracked from then on -/
def wTrk (K : PySem.W.Frag) (c : Value) (i : Nat) (ts : TS) (Wout : WX) (D : Ends) : WX := fun cls d σ H => ∃ yes, PySem.W.exmOne K cls c = some yes ∧
  (yes = true → ∀ a, H a = none → ts { nx := fun σ2 H2 => D.nx (σ2.set i none) H2, rt := D.rt, bk := fun σ2 H2 => D.bk (σ2.set i none) H2, ct := fun σ2 H2 => D.ct (σ2.set i none) H2 } (σ.set i (some (.ref a))) (upd H a (exT a cls d))) ∧
  (yes = false → Wout cls d σ H)
section
variable {X : Cx} {x n : Str} {c : Value} {i : Nat} {body suite : List Stmt} {st : Stmt} {p1 p2 p3 : Pos} {tb : WX → TS} {ts : TS} {Wout : WX} {pins : List (Addr × Obj)} {σ : L2.St} {H : Hp}
theorem inSuite {s : Shared} (a : Addr) (I : Inv X pins σ H s) : Inv (X.suite a (X.pn ++ pins)) [] σ H s :=
  ⟨I.ok.suite _ _, I.os, I.bare, I.base, I.loc, I.cell, I.free, I.freeC, fun p hp => I.pin p (by rw [List.append_nil] at hp; exact hp), I.hok, I.len⟩
theorem outSuite {s : Shared} {a : Addr} (ok : X.Ok) (I : Inv (X.suite a (X.pn ++ pins)) [] σ H s) : Inv X pins σ H s :=
  ⟨ok, I.os, I.bare, I.base, I.loc, I.cell, I.free, I.freeC, fun p hp => I.pin p (by rw [List.append_nil]; exact hp), I.hok, I.len⟩
/-- the exception has come to the clauses: h stands above sI -/
theorem caughtAt {W' : Value → Shared → Prop} {u : Value} {s' : Shared} (hs : X.stack = X.env :: X.outer) (hf : X.env.frame = some X.env.locals) (hex : X.ex = []) (hc : Names X x c) (hN : X.N.Nodup) (hi : X.N[i]? = some n) (hln : X.env.kindOf n = some .local) (tk : Takes X Wout)
    (hsu : ∀ (a : Addr) (pn : List (Addr × Obj)), PSs (X.suite a pn) (st :: suite) ts) (ok : X.Ok) (D : Ends) (xx : XE (X.tr (X.pn ++ pins) W') (wTrk X.K c i ts Wout D) u s') :
    wpAny (model X.prog X.w) X.A (noteFrame u X.env) (fun _ s₂ => wpAny (model X.prog X.w) X.A (setFlight u none) (fun _ s₃ =>
      wpAny (model X.prog X.w) X.A (handleBy u X.env [.ExceptHandler (some (.Name x p1)) (some n) (st :: suite) p2]) (SP X pins D) X.xe s₃) X.xe s₂) X.xe s' := by
  have frm : X.A.frames = some (X.env :: X.outer) := hs ▸ ok.frames
  obtain ⟨a, B, sI, pins1, σ1, H1, cls, d, rfl, I1, nb, up, sky, na, os, ag, yes, em, onYes, onNo⟩ := xx
  have I : Inv X pins σ1 H1 sI := I1.ofTry ok
  refine Sky.land Zc.steady frm hf (by rw [← hs]; exact sky) fun g1 fly1 up1 => ?_
  obtain ⟨o1, vs1, ho1, hz1, hd1⟩ := fly1.there
  have offStack : a ∉ frs (X.env :: X.outer) := fun hm => by
    obtain ⟨_, o', e', hnf⟩ := fly1.2.2.1.mem hm
    rw [ho1] at e'
    cases e'
    exact hnf _ hd1
  have fresh : sI.heap.get? a = none := by
    cases e : sI.heap.get? a with
    | none => rfl
    | some z =>
      have h := nb a z e (by show a ∉ frs X.stack; rw [hs]; exact offStack)
      rw [fly1.2.1] at h
      cases h
  have land : ∀ {g : Heap}, HandSPX.FlyingZ B (X.env :: X.outer) a (Zc cls d) g → sI.heap.UpToSlots g → Inv X pins σ1 (upd H1 a (exT a cls d)) { s' with heap := g } := fun {g} fly upg => by
    obtain ⟨o, vs, ho, hz, hd⟩ := fly.there
    exact track I (I.landed nb fly.1 upg os ag) fresh na hex (exT_ok ho hz hd)
  have T1 := inSuite a (land fly1 (up.trans up1))
  refine wpAny_handleBy_cons (codeAny_handlers_test ?_) (fun q => nomatch q)
  have ty : PySem.W.Looks (model X.prog X.w) g1 (typeOf (.ref a)) cls := fun A Q E s k q => wpAny_typeOf_ref (k _ _ ho1) (by rw [hz1.1]; exact q)
  have hit := PySem.W.exm_one (M := model X.prog X.w) (land fly1 (up.trans up1)).kIn ty em
  have cl : ∀ {Q : Value → Shared → Prop} {E : Value → Shared → Prop}, Q c { s' with heap := g1 } → wpAny (model X.prog X.w) (X.A.mark (some (.ref a))) (eval (.Name x p1) X.env) Q E { s' with heap := g1 } := fun {Q E} q => by
    obtain ⟨hg, hdbg, hm | ⟨hm, hv, hnn⟩⟩ := hc
    · exact ld_glob (X := X.suite a (X.pn ++ pins)) T1 hg hm q hdbg
    · exact ld_blt (X := X.suite a (X.pn ++ pins)) T1 hg hm hv q hnn hdbg
  refine cl (hit.here ?_)
  cases yes with
  | true =>
    refine codeAny_handlers_suite_as (HandSPX.lands_againZ fly1 fun g2 fly2 up2 => ?_)
    have T2 := inSuite a (land fly2 ((up.trans up1).trans up2))
    refine store_ok (X := X.suite a (X.pn ++ pins)) (v := .ref a) T2 hN hi (.inl hln) rfl (fun s3 T3 => ?_) (.inr hln)
    have away : ∀ {σ6 : L2.St} {H6 : Hp} {s6 : Shared} {Q : Shared → Prop}, Inv (X.suite a (X.pn ++ pins)) [] σ6 H6 s6 → (∀ s7, Inv X pins (σ6.set i none) H6 s7 → Q s7) →
        wpAny (model X.prog X.w) X.A (do bindName X.env n .none; unbindBehindTheSuite X.env n p2) (fun _ s7 => Q s7) X.xe s6 := fun T q => gone_ok (outSuite ok T) hN hi hln q
    refine wpAny_mono ((hsu a (X.pn ++ pins)).run [] s3 _ _ _ T3 (onYes rfl a na)) (fun f s4 r => ?_) (fun _ _ z => False.elim z)
    cases f with
    | next => obtain ⟨_, _, T4, q⟩ := r; exact away T4 fun _ J => ⟨_, _, J, q⟩
    | brk => obtain ⟨_, _, T4, q⟩ := r; exact away T4 fun _ J => ⟨_, _, J, q⟩
    | cont => obtain ⟨_, _, T4, q⟩ := r; exact away T4 fun _ J => ⟨_, _, J, q⟩
    | ret u => obtain ⟨_, _, _, T4, rv, q⟩ := r; exact away T4 fun _ J => ⟨_, _, _, J, rv, q⟩
  | false =>
    show wpAny _ X.A (handleBy (.ref a) X.env []) _ _ _
    refine wpAny_handleBy_nil ?_
    obtain ⟨_, _, _, o, vs, T, oT, ts', he, hz, hd, h1, _⟩ := id fly1
    unfold PySem.passOn
    refine wpAny_bind (wpAny_field he hd h1 ?_)
    rw [if_neg (show ¬ ((Value.ref T == Value.none) = true) from by simp)]
    have up_ : wpAny (model X.prog X.w) X.A (setFlight (.ref a) X.env.frame) (fun _ s4 => wpAny (model X.prog X.w) X.A (throw (.ref a) : Sem Flow) (SP X pins D) X.xe s4) X.xe { s' with heap := g1 } := by
      rw [hf]
      exact HandSPX.setFlight_upZ fly1 fun g2 held up2 => wpAny_throw (tk _ _ ⟨a, B, sI, pins, σ1, H1, cls, d, rfl, I, nb, (up.trans up1).trans up2, .inr (.inr (by rw [hs]; exact held)), na, os, ag, onNo rfl⟩)
    first
      | exact wpAny_bind (wpAny_pure (wpAny_bind up_))
      | exact wpAny_bind up_
theorem ps_trk (hs : X.stack = X.env :: X.outer) (hf : X.env.frame = some X.env.locals) (hex : X.ex = []) (hN : X.N.Nodup) (hi : X.N[i]? = some n) (hln : X.env.kindOf n = some .local) (hc : Names X x c) (tk : Takes X Wout)
    (hb : ∀ (W : WX) (pn : List (Addr × Obj)) (xe : Value → Shared → Prop), Takes (X.tr pn xe) W → PassesOwn (model X.prog X.w) X.A X.env xe → PSs (X.tr pn xe) body (tb W))
    (hsu : ∀ (a : Addr) (pn : List (Addr × Obj)), PSs (X.suite a pn) (st :: suite) ts) :
    PS X (.Try body [.ExceptHandler (some (.Name x p1)) (some n) (st :: suite) p2] [] [] p3) (fun D σ H => tb (wTrk X.K c i ts Wout D) D σ H) := by
  refine ⟨fun pins s σ H D I h => wpAny_Try_except ?_⟩
  have ok := I.ok
  refine wpAny_mono ((hb (wTrk X.K c i ts Wout D) (X.pn ++ pins) _ (fun u s' xx => caughtAt (p1 := p1) (p2 := p2) hs hf hex hc hN hi hln tk hsu ok D xx) PassesOwn.looking).run [] s σ H D (I.toTry _) h) (fun f s1 r => ?_) (fun _ _ z => z)
  cases f with
  | next => obtain ⟨_, _, T, q⟩ := r; exact wpAny_execs_nil ⟨_, _, T.ofTry ok, q⟩
  | brk => obtain ⟨_, _, T, q⟩ := r; exact ⟨_, _, T.ofTry ok, q⟩
  | cont => obtain ⟨_, _, T, q⟩ := r; exact ⟨_, _, T.ofTry ok, q⟩
  | ret u => obtain ⟨_, _, _, T, rv, q⟩ := r; exact ⟨_, _, _, T.ofTry ok, rv, q⟩
end
end Cc

set_option Elab.async false
set_option linter.all false
set_option maxRecDepth 100000
set_option maxHeartbeats 4000000
/-! Defs that may raise; calls by keyword. -/
namespace Cc
open PySem PySem.Spec PyProof.Rows L2
section
variable {P : Program} {w : World} {K : PySem.W.Frag} {mg : Str → Option Value} {base : Heap} {k : Nat} {x qual : Str} {st : Stmt} {N ps : List Str} {sp : Sp} {f : Addr} {fd : FuncData}
theorem okGX (F : Fun K x qual st f fd) (S : FnScope N ps (defScope st)) (len : ∀ vs H Q E, sp vs H Q E → vs.length = ps.length)
    (hbody : ∀ (cdv : Value) (A : Around) (outer : List Env) (s : Shared) (H : Hp) (vs : List V) (Q : VK) (E : XK), A.guards = some [] → Room k (A.deeper (envOfC qual (defScope st) s.heap.objs.size f cdv)) → sp vs H Q E →
      ∃ t, PSs (cxOf (L2.CX P w) P w K mg base N qual (defScope st) f cdv A outer s H E) (defBody st) t ∧ t { nx := fun _ H' => Q .non H', rt := Q } (start N vs) H) :
    FnG P w K mg base (L2.CX P w) (k + 1) f fd ps sp := by
  obtain ⟨oc, od, kV, doc, pm, an, cdv, ct, osl, rfl, lk, hcd⟩ := F.ex
  refine ⟨len, fun A hg hr outer s H e0 args us vs Q E hb rv hs => ?_⟩
  obtain ⟨t, h, q⟩ := hbody cdv A outer s H vs Q E hg (hr.deeper _) hs
  exact def_at lk hcd S hr e0 hb rv (len _ _ _ _ hs) h q
theorem mkPX (T : Tx K mg x st) (S : FnScope N ps (defScope st))
    (bi : ∀ (kV doc pm : Value) (an : Option Addr) (cdv ct : Value) (us : List Value), us.length = ps.length → bindArgs (PySem.W.fnOf x x (defArgs st) (defBody st) (defScope st) .none kV doc pm an cdv ct) ⟨us, []⟩ = pure (ps.zip us))
    (len : ∀ vs H Q E, sp vs H Q E → vs.length = ps.length)
    (hbody : ∀ (f : Addr) (cdv : Value) (A : Around) (outer : List Env) (s : Shared) (H : Hp) (vs : List V) (Q : VK) (E : XK), A.guards = some [] → Room k (A.deeper (envOfC x (defScope st) s.heap.objs.size f cdv)) → sp vs H Q E →
      ∃ t, PSs (cxOf (L2.CX P w) P w K mg base N x (defScope st) f cdv A outer s H E) (defBody st) t ∧ t { nx := fun _ H' => Q .non H', rt := Q } (start N vs) H) :
    Pr P w K mg base (L2.CX P w) (k + 1) x ps sp := by
  obtain ⟨f, fd, F, g⟩ := T
  exact ⟨f, fd, okGX F S len (hbody f), g, F.kp, F.binds bi⟩
theorem mkAX (S : FnScope N ps (defScope st)) (len : ∀ vs H Q E, sp vs H Q E → vs.length = ps.length)
    (hbody : ∀ (f : Addr) (cdv : Value) (A : Around) (outer : List Env) (s : Shared) (H : Hp) (vs : List V) (Q : VK) (E : XK), A.guards = some [] → Room k (A.deeper (envOfC x (defScope st) s.heap.objs.size f cdv)) → sp vs H Q E →
      ∃ t, PSs (cxOf (L2.CX P w) P w K mg base N x (defScope st) f cdv A outer s H E) (defBody st) t ∧ t { nx := fun _ H' => Q .non H', rt := Q } (start N vs) H) :
    PrAt P w K mg base (L2.CX P w) (k + 1) x st ps sp := fun f fd F => okGX F S len (hbody f)
end
/-- what a def of this name keeps, and that the text has it -/
def PrK (P : Program) (w : World) (K : PySem.W.Frag) (mg : Str → Option Value) (base : Heap) (CX : CXT) (k : Nat) (x : Str) (st : Stmt) (ps : List Str) (sp : Sp) : Prop :=
  ∃ f fd, Fun K x x st f fd ∧ FnG P w K mg base CX k f fd ps sp ∧ mg x = some (.ref f)
section
variable {P : Program} {w : World} {K : PySem.W.Frag} {mg : Str → Option Value} {base : Heap} {CX : CXT} {k : Nat} {x : Str} {st : Stmt} {N ps : List Str} {sp : Sp}
theorem PrK.pr (h : PrK P w K mg base CX k x st ps sp)
    (bi : ∀ (kV doc pm : Value) (an : Option Addr) (cdv ct : Value) (us : List Value), us.length = ps.length → bindArgs (PySem.W.fnOf x x (defArgs st) (defBody st) (defScope st) .none kV doc pm an cdv ct) ⟨us, []⟩ = pure (ps.zip us)) :
    Pr P w K mg base CX k x ps sp := by
  obtain ⟨f, fd, F, g, m⟩ := h
  exact ⟨f, fd, g, m, F.kp, F.binds bi⟩
theorem mkK (T : Tx K mg x st) (S : FnScope N ps (defScope st)) (len : ∀ vs H Q E, sp vs H Q E → vs.length = ps.length)
    (hbody : ∀ (f : Addr) (cdv : Value) (A : Around) (outer : List Env) (s : Shared) (H : Hp) (vs : List V) (Q : VK) (E : XK), A.guards = some [] → Room k (A.deeper (envOfC x (defScope st) s.heap.objs.size f cdv)) → sp vs H Q E →
      ∃ t, PSs (cxOf CX0 P w K mg base N x (defScope st) f cdv A outer s H E).nox (defBody st) t ∧ t { nx := fun _ H' => Q .non H', rt := Q } (start N vs) H) :
    PrK P w K mg base CX0 (k + 1) x st ps sp := by
  obtain ⟨f, fd, F, g⟩ := T
  exact ⟨f, fd, F, okG F S len (hbody f), g⟩
theorem mkKX (T : Tx K mg x st) (S : FnScope N ps (defScope st)) (len : ∀ vs H Q E, sp vs H Q E → vs.length = ps.length)
    (hbody : ∀ (f : Addr) (cdv : Value) (A : Around) (outer : List Env) (s : Shared) (H : Hp) (vs : List V) (Q : VK) (E : XK), A.guards = some [] → Room k (A.deeper (envOfC x (defScope st) s.heap.objs.size f cdv)) → sp vs H Q E →
      ∃ t, PSs (cxOf (L2.CX P w) P w K mg base N x (defScope st) f cdv A outer s H E) (defBody st) t ∧ t { nx := fun _ H' => Q .non H', rt := Q } (start N vs) H) :
    PrK P w K mg base (L2.CX P w) (k + 1) x st ps sp := by
  obtain ⟨f, fd, F, g⟩ := T
  exact ⟨f, fd, F, okGX F S len (hbody f), g⟩
end
section
variable {X : Cx} {CX : CXT} {j k : Nat} {f : Addr} {fd : FuncData} {ps ks : List Str} {is : List Nat} {sp : Sp} {E : L2.St → XK} {x : Str} {p pos : Pos} {e : Expr} {es : List Expr} {kws : List Keyword} {t : TA} {W : WX}
theorem runGS {pins : List (Addr × Obj)} {σ : L2.St} {H : Hp} {s : Shared} {Q : VK} {args : Args} {us : List Value} {vs : List V} (F : FnG X.prog X.w X.K X.mg X.base CX k f fd ps sp) (hG : X.A.guards = some []) (hr : Room k X.A) (hb : BindsTo s fd args (ps.zip us)) (hx : PassesAt CX X σ (E σ))
    (I : Inv X pins σ H s) (r : Vals vs us) (h : sp vs H Q (E σ)) : codeAny (model X.prog X.w) X.A (.call (.ref f) args) (fun r s' => match r with | .ok (.ret u) => EP X pins σ Q u s' | .error e => X.xe e s' | _ => False) s := by
  refine codeAny_mono (F.goes X.A hG hr X.stack s H I.env0 args us vs Q (E σ) hb r h) fun r s' hq => ?_
  match r, hq with
  | .error e, hq => exact hx pins H s e s' I hq
  | .ok (.ret u), hq => exact I.after hq
  | .ok .next, hq => exact hq.elim
  | .ok .brk, hq => exact hq.elim
  | .ok .cont, hq => exact hq.elim
/-- f(e, ..), where f may raise -/
theorem pe_GS (F : FnG X.prog X.w X.K X.mg X.base CX k f fd ps sp) (hG : X.A.guards = some []) (hr : Room k X.A) (hg : Gl X x) (hm : X.mg x = some (.ref f)) (hk : PySem.W.keepIn X.K (.ref f) = true) (hb : Binds X.K fd ps []) (hx : ∀ σ, PassesAt CX X σ (E σ))
    (ha : PA X (e :: es) t) (hdb : (x == ("__debug__" : Str)) = false := by decide) (he : starEach (e :: es) X.env = (false, eval e X.env) :: starEach es X.env := by rfl) (hpl : (backTo pos (starEach es X.env)).any (·.1) = false := by rfl) :
    PE X (.Call (.Name x p) (e :: es) [] pos) (tCallS sp E t) := by
  refine ⟨fun pins s σ H Q I h => wpAny_Call_Name_kw (ld_glob I hg hm ?_ hdb)⟩
  refine PySem.W.callWith_K (h₀ := X.base) I.ok.mod.kin hk (thn (ha.run pos pins s σ H _ I h) fun us s1 ⟨vs, H1, I1, r, q⟩ => ⟨I1.kIn, ?_⟩) he hpl
  have b := hb s1 us I1.kIn (by rw [List.append_nil]; exact r.length.symm.trans (F.long _ _ _ _ q))
  rw [List.append_nil] at b
  refine wpAny_call (codeAny_mono (runGS F hG hr b (hx σ) I1 r q) fun r s' z => ?_)
  match r, z with
  | .error _, z => exact z
  | .ok (.ret _), z => exact z
def tCallKS (sp : Sp) (gV : List V → List V) (E : L2.St → XK) (t : TA) : TE := fun σ H Q => t σ H fun vs H1 => sp (gV vs) H1 Q (E σ)
/-- f(a = e, ..) -/
theorem pe_GK {g : List Value → List Value} {gV : List V → List V} (F : FnG X.prog X.w X.K X.mg X.base CX k f fd ps sp) (hG : X.A.guards = some []) (hr : Room k X.A) (hg : Gl X x) (hm : X.mg x = some (.ref f)) (hk : PySem.W.keepIn X.K (.ref f) = true)
    (hb : ∀ (s : Shared) (us : List Value), (g us).length = ps.length → BindsTo s fd ⟨[], ks.zip us⟩ (ps.zip (g us))) (hrel : ∀ {vs : List V} {us : List Value}, Vals vs us → Vals (gV vs) (g us)) (hx : ∀ σ, PassesAt CX X σ (E σ)) (hkw : PK X kws t)
    (hall : (backToKw pos (keywordEach kws X.env)).all (·.1.isSome) = true := by rfl) (hks : (backToKw pos (keywordEach kws X.env)).filterMap (·.1) = ks := by rfl) (hdb : (x == ("__debug__" : Str)) = false := by decide)
    (hpl : ((backTo pos (starEach [] X.env)).any (·.1) || (backToKw pos (keywordEach kws X.env)).any (·.1.isNone)) = false := by rfl) :
    PE X (.Call (.Name x p) [] kws pos) (tCallKS sp gV E t) := by
  refine ⟨fun pins s σ H Q I h => wpAny_Call_Name_kw (ld_glob I hg hm ?_ hdb)⟩
  refine PySem.W.callWith_KW0 (h₀ := X.base) I.ok.mod.kin hk hall ?_ hpl
  refine thn (hkw.run pos pins s σ H _ I h) fun us s1 ⟨vs, H1, I1, r, q⟩ => ⟨I1.kIn, ?_⟩
  rw [hks]
  have r2 := hrel r
  refine wpAny_call (codeAny_mono (runGS F hG hr (hb s1 us (r2.length.symm.trans (F.long _ _ _ _ q))) (hx σ) I1 r2 q) fun r s' z => ?_)
  match r, z with
  | .error _, z => exact z
  | .ok (.ret _), z => exact z
theorem pass0At (E : L2.St → XK) (h : ∀ σ, E σ = E0) : ∀ σ, PassesAt CX0 X σ (E σ) := fun _ _ _ _ _ _ _ z => z.elim
/-- by position, where it may raise -/
theorem pe_PX (h : Pr X.prog X.w X.K X.mg X.base (L2.CX X.prog X.w) j x ps sp) (hr : Room k X.A) (hG : X.A.guards = some []) (hg : Gl X x) (tk : Takes X W) (ha : PA X (e :: es) t) (hj : j ≤ k := by decide)
    (hdb : (x == ("__debug__" : Str)) = false := by decide) (he : starEach (e :: es) X.env = (false, eval e X.env) :: starEach es X.env := by rfl) (hpl : (backTo pos (starEach es X.env)).any (·.1) = false := by rfl) :
    PE X (.Call (.Name x p) (e :: es) [] pos) (tCallS sp (WE W) t) := by
  obtain ⟨f, fd, F, g, kp, b⟩ := h
  exact pe_GS F hG (hr.mono hj) hg g kp b (fun σ => passAt tk σ) ha hdb he hpl
section
variable {st : Stmt} {g : List Value → List Value} {gV : List V → List V}
/-- by keyword, where it may raise -/
theorem pe_KX (h : PrK X.prog X.w X.K X.mg X.base (L2.CX X.prog X.w) j x st ps sp) (hr : Room k X.A) (hG : X.A.guards = some []) (hg : Gl X x) (tk : Takes X W)
    (hb : ∀ (kV doc pm : Value) (an : Option Addr) (cdv ct : Value) (us : List Value), (g us).length = ps.length → bindArgs (PySem.W.fnOf x x (defArgs st) (defBody st) (defScope st) .none kV doc pm an cdv ct) ⟨[], ks.zip us⟩ = pure (ps.zip (g us)))
    (hrel : ∀ {vs : List V} {us : List Value}, Vals vs us → Vals (gV vs) (g us)) (hkw : PK X kws t) (hj : j ≤ k := by decide)
    (hall : (backToKw pos (keywordEach kws X.env)).all (·.1.isSome) = true := by rfl) (hks : (backToKw pos (keywordEach kws X.env)).filterMap (·.1) = ks := by rfl) (hdb : (x == ("__debug__" : Str)) = false := by decide)
    (hpl : ((backTo pos (starEach [] X.env)).any (·.1) || (backToKw pos (keywordEach kws X.env)).any (·.1.isNone)) = false := by rfl) :
    PE X (.Call (.Name x p) [] kws pos) (tCallKS sp gV (WE W) t) := by
  obtain ⟨f, fd, F, G, m⟩ := h
  obtain ⟨oc, od, kV, doc, pm, an, cdv, ct, osl, rfl, lk, hcd⟩ := F.ex
  exact pe_GK G hG (hr.mono hj) hg m F.kp (fun s us hl => .of_eq (hb _ _ _ _ _ _ us hl)) hrel (fun σ => passAt tk σ) hkw hall hks hdb hpl
/-- by keyword, where it raises nothing -/
theorem pe_KP (h : PrK X.prog X.w X.K X.mg X.base CX0 j x st ps sp) (hr : Room k X.A) (hG : X.A.guards = some []) (hg : Gl X x)
    (hb : ∀ (kV doc pm : Value) (an : Option Addr) (cdv ct : Value) (us : List Value), (g us).length = ps.length → bindArgs (PySem.W.fnOf x x (defArgs st) (defBody st) (defScope st) .none kV doc pm an cdv ct) ⟨[], ks.zip us⟩ = pure (ps.zip (g us)))
    (hrel : ∀ {vs : List V} {us : List Value}, Vals vs us → Vals (gV vs) (g us)) (hkw : PK X kws t) (hj : j ≤ k := by decide)
    (hall : (backToKw pos (keywordEach kws X.env)).all (·.1.isSome) = true := by rfl) (hks : (backToKw pos (keywordEach kws X.env)).filterMap (·.1) = ks := by rfl) (hdb : (x == ("__debug__" : Str)) = false := by decide)
    (hpl : ((backTo pos (starEach [] X.env)).any (·.1) || (backToKw pos (keywordEach kws X.env)).any (·.1.isNone)) = false := by rfl) :
    PE X (.Call (.Name x p) [] kws pos) (tCallKS sp gV (fun _ => E0) t) := by
  obtain ⟨f, fd, F, G, m⟩ := h
  obtain ⟨oc, od, kV, doc, pm, an, cdv, ct, osl, rfl, lk, hcd⟩ := F.ex
  exact pe_GK G hG (hr.mono hj) hg m F.kp (fun s us hl => .of_eq (hb _ _ _ _ _ _ us hl)) hrel (fun σ _ _ _ _ _ _ z => z.elim) hkw hall hks hdb hpl
end
end
/-- two arguments by keyword, as they stand and the other way round -/
def swap2 {α : Type} : List α → List α
  | [a, b] => [b, a]
  | _ => []
theorem Vals.swap2 : ∀ {vs : List V} {us : List Value}, Vals vs us → Vals (swap2 vs) (Cc.swap2 us)
  | _, _, .nil => .nil
  | _, _, .cons _ .nil => .nil
  | _, _, .cons h1 (.cons h2 .nil) => .cons h2 (.cons h1 .nil)
  | _, _, .cons _ (.cons _ (.cons _ _)) => .nil
section
variable {σ : L2.St} {H : Hp} {Q : VK} {K : PySem.W.Frag} {C : Addr} {ta : TA} {te : TE} {W : WX} {D : Ends} {sp : Sp} {t : TA} {E : L2.St → XK} {gV : List V → List V}
def tRaise (K : PySem.W.Frag) (C : Addr) (W : WX) (ta : TA) : TS := fun _ σ H => tMk K C ta σ H fun cls d H' => W cls d σ H'
theorem ps_rs {X : Cx} {e : Expr} {pos : Pos} (hc : X.calm = true) (tk : Takes X W) (he : PMk X e (tMk X.K C ta)) : PS X (.Raise (some e) none pos) (tRaise X.K C W ta) := ps_raise hc tk he
theorem x_rs : tRaise K C W ta D σ H ↔ ta σ H fun vs H1 => MkR K C vs H1 fun cls d H' => W cls d σ H' := Iff.rfl
theorem x_callS : tCallS sp E t σ H Q ↔ t σ H fun vs H1 => sp vs H1 Q (E σ) := Iff.rfl
theorem x_callKS : tCallKS sp gV E t σ H Q ↔ t σ H fun vs H1 => sp (gV vs) H1 Q (E σ) := Iff.rfl
theorem mkR1 {H1 : Hp} {v : V} {R : XK} (h : ∀ d, H1 d = none → R (.ref C) (some d) (upd H1 d (.xd [("value", v)]))) : MkR K C [v] H1 R := mkR h
end
end Cc

set_option Elab.async false
set_option linter.all false
set_option maxRecDepth 100000
set_option maxHeartbeats 4000000
/-! Methods of own classes, where no repr is under way; readings of fields. -/
namespace Cc
open PySem PySem.Spec PyProof.Rows L2
/-- the method m of the class at C, by its def -/
def MTx (K : PySem.W.Frag) (C : Addr) (m q : Str) (st : Stmt) : Prop := ∃ f fd, Fun K m q st f fd ∧ Meth K C m f
def MPr (P : Program) (w : World) (K : PySem.W.Frag) (mg : Str → Option Value) (base : Heap) (CX : CXT) (k : Nat) (C : Addr) (m : Str) (ps : List Str) (sp : Sp) : Prop :=
  ∃ f fd, FnG P w K mg base CX k f fd ps sp ∧ Meth K C m f ∧ Binds K fd ps []
section
variable {P : Program} {w : World} {K : PySem.W.Frag} {mg : Str → Option Value} {base : Heap} {k : Nat} {C : Addr} {m q : Str} {st : Stmt} {N ps : List Str} {sp : Sp}
theorem mkM (T : MTx K C m q st) (S : FnScope N ps (defScope st))
    (bi : ∀ (kV doc pm : Value) (an : Option Addr) (cdv ct : Value) (us : List Value), us.length = ps.length → bindArgs (PySem.W.fnOf m q (defArgs st) (defBody st) (defScope st) .none kV doc pm an cdv ct) ⟨us, []⟩ = pure (ps.zip us))
    (len : ∀ vs H Q E, sp vs H Q E → vs.length = ps.length)
    (hbody : ∀ (f : Addr) (cdv : Value) (A : Around) (outer : List Env) (s : Shared) (H : Hp) (vs : List V) (Q : VK) (E : XK), A.guards = some [] → Room k (A.deeper (envOfC q (defScope st) s.heap.objs.size f cdv)) → sp vs H Q E →
      ∃ t, PSs (cxOf CX0 P w K mg base N q (defScope st) f cdv A outer s H E).nox (defBody st) t ∧ t { nx := fun _ H' => Q .non H', rt := Q } (start N vs) H) :
    MPr P w K mg base CX0 (k + 1) C m ps sp := by
  obtain ⟨f, fd, F, g⟩ := T
  exact ⟨f, fd, okG F S len (hbody f), g, F.binds bi⟩
end
section
variable {X : Cx} {CX : CXT} {j k : Nat} {C : Addr} {f : Addr} {fd : FuncData} {ps : List Str} {sp : Sp} {E : XK} {x m : Str} {p pos apos : Pos} {o e : Expr} {es : List Expr} {t : TA} {ta : TE} {dvs : List V} {ds : List Value}
/-- o.m(e, ..) -/
theorem pe_MP {pl : Sem Bool} (he : PE X o ta) (c : Cls X.K C) (h : MPr X.prog X.w X.K X.mg X.base CX0 j C m ps sp) (hr : Room k X.A) (hG : X.A.guards = some []) (ha : PA X (e :: es) t) (hj : j ≤ k := by decide)
    (hst : starEach (e :: es) X.env = (false, eval e X.env) :: starEach es X.env := by rfl) (hpl : (backTo pos (starEach es X.env)).any (·.1) = false := by rfl)
    (ht : eval (.Call (.Attribute o m apos) (e :: es) [] pos) X.env = (do
      let ov ← eval o X.env
      standAt apos.atName
      let (fn, first) ← holding [ov] (getMethod ov m pl)
      callWith pos fn first (backTo pos (starEach (e :: es) X.env)) (backToKw pos (keywordEach [] X.env))) := by rfl) :
    PE X (.Call (.Attribute o m apos) (e :: es) [] pos) (tMeth C m sp [] E0 ta t) := by
  obtain ⟨f, fd, F, hm, hb⟩ := h
  refine ⟨fun pins s σ H Q I h => PySem.W.methodCall_KW (pl := pl) (thn (he.run pins s σ H _ I h) fun u s1 r => ?_) ht⟩
  obtain ⟨x, H1, I1, rx, a, dx, fs, rfl, ea, l, q⟩ := r
  obtain rfl : u = Value.ref a := rx
  refine getmeth_ok I1 ea c hm l (PySem.W.callWith_K (first := [.ref a]) (h₀ := X.base) I.ok.mod.kin hm.kp (thn (ha.run pos pins s1 σ H1 _ I1 q) fun us s2 r2 => ?_) hst hpl)
  obtain ⟨vs, H2, I2, r, q2⟩ := r2
  exact ⟨I2.kIn, runG (us := .ref a :: us) (vs := .ref a :: vs) F hG (hr.mono hj) hb .nil pass0 I2 (.cons rfl r) q2⟩
/-- o.m() -/
theorem pe_MP0 {pl : Sem Bool} (he : PE X o ta) (c : Cls X.K C) (h : MPr X.prog X.w X.K X.mg X.base CX0 j C m ps sp) (hr : Room k X.A) (hG : X.A.guards = some []) (hj : j ≤ k := by decide)
    (ht : eval (.Call (.Attribute o m apos) [] [] pos) X.env = (do
      let ov ← eval o X.env
      standAt apos.atName
      let (fn, first) ← holding [ov] (getMethod ov m pl)
      callWith pos fn first (backTo pos (starEach [] X.env)) (backToKw pos (keywordEach [] X.env))) := by rfl) :
    PE X (.Call (.Attribute o m apos) [] [] pos) (tMeth C m sp [] E0 ta tNil) := by
  obtain ⟨f, fd, F, hm, hb⟩ := h
  refine ⟨fun pins s σ H Q I h => PySem.W.methodCall_KW (pl := pl) (thn (he.run pins s σ H _ I h) fun u s1 r => ?_) ht⟩
  obtain ⟨x, H1, I1, rx, a, dx, fs, rfl, ea, l, q⟩ := r
  obtain rfl : u = Value.ref a := rx
  exact getmeth_ok I1 ea c hm l (PySem.W.callWith_K0 (first := [.ref a]) I1.kIn hm.kp (runG (us := [.ref a]) (vs := [.ref a]) F hG (hr.mono hj) hb .nil pass0 I1 (.cons rfl .nil) q))
end
/-! ### readings -/
def Fld (K : PySem.W.Frag) (f : Str) (x : V) (H : Hp) (Q : VK) : Prop := ∃ a C dx fs v, x = .ref a ∧ H a = some (.ins C dx fs) ∧ Cls K C ∧ NoAttr K C f ∧ fs.lookup f = some v ∧ Q v H
def SFld (K : PySem.W.Frag) (f : Str) (x y : V) (H : Hp) (G : Hp → Prop) : Prop := ∃ a C dx fs, x = .ref a ∧ H a = some (.ins C dx fs) ∧ Cls K C ∧ NoAttr K C f ∧ fs.length < 1000 ∧ G (upd H a (.ins C dx (putF f y fs)))
def MethR (C : Addr) (m : Str) (sp : Sp) (t : TA) (x : V) (σ : L2.St) (H : Hp) (Q : VK) : Prop := ∃ a dx fs, x = .ref a ∧ H a = some (.ins C dx fs) ∧ fs.lookup m = none ∧ t σ H fun vs H2 => sp (x :: (vs ++ [])) H2 Q E0
section
variable {σ : L2.St} {H : Hp} {Q : VK} {K : PySem.W.Frag} {v y : V} {ta tv : TE} {t : TA} {f m : Str} {D : Ends} {C p dx : Addr} {fs : List (Str × V)} {sp : Sp} {G : Hp → Prop} {xs : List V} {rd : V → V → Hp → VK → Prop} {T : String} {r : V → List V → Hp → VK → Prop} {b : Bool}
theorem x_fld : tFld K ta f σ H Q ↔ ta σ H fun x H1 => Fld K f x H1 Q := Iff.rfl
theorem fld (h : H p = some (.ins C dx fs)) (c : Cls K C) (n : NoAttr K C f) (l : fs.lookup f = some v) (q : Q v H) : Fld K f (.ref p) H Q := ⟨p, C, dx, fs, v, rfl, h, c, n, l, q⟩
theorem x_sfld : sFld K ta tv f D σ H ↔ tv σ H fun y H1 => ta σ H1 fun x H2 => SFld K f x y H2 fun H3 => D.nx σ H3 := Iff.rfl
theorem sfld (h : H p = some (.ins C dx fs)) (c : Cls K C) (n : NoAttr K C f) (l : fs.length < 1000) (q : G (upd H p (.ins C dx (putF f y fs)))) : SFld K f (.ref p) y H G := ⟨p, C, dx, fs, rfl, h, c, n, l, q⟩
theorem x_meth : tMeth C m sp [] E0 ta t σ H Q ↔ ta σ H fun x H1 => MethR C m sp t x σ H1 Q := Iff.rfl
theorem meth (h : H p = some (.ins C dx fs)) (l : fs.lookup m = none) (q : t σ H fun vs H2 => sp (.ref p :: (vs ++ [])) H2 Q E0) : MethR C m sp t (.ref p) σ H Q := ⟨p, dx, fs, rfl, h, l, q⟩
theorem x_make {dvs : List V} {E : XK} : tMake C sp dvs E t σ H Q ↔ t σ H fun vs H1 => ∀ x dx, H1 x = none → H1 dx = none → dx ≠ x → sp (.ref x :: (vs ++ dvs)) (upd (upd H1 dx (.own x)) x (.ins C dx [])) (fun v H2 => v = .non ∧ Q (.ref x) H2) E := Iff.rfl
theorem x_fldaug : sFldAug K ta tv rd f D σ H ↔ ta σ H fun x H1 => ∃ a C dx fs v, x = .ref a ∧ H1 a = some (.ins C dx fs) ∧ Cls K C ∧ NoAttr K C f ∧ fs.lookup f = some v ∧
  tv σ H1 fun y H2 => rd v y H2 fun z H3 => ∃ dx' fs', H3 a = some (.ins C dx' fs') ∧ fs'.length < 1000 ∧ D.nx σ (upd H3 a (.ins C dx' (putF f z fs'))) := Iff.rfl
theorem x_BM0 : tBM0 K T r ta σ H Q ↔ ta σ H fun x H1 => tyV K T x H1 ∧ r x [] H1 Q := Iff.rfl
theorem x_pop {l : Addr} (h : H l = some (.lst xs)) (hy : xs[xs.length - 1]? = some y) (q : Q y (upd H l (.lst xs.dropLast))) : rPop (.ref l) [] H Q := ⟨l, xs, y, rfl, rfl, h, hy, q⟩
end
section
variable {σ : L2.St} {H : Hp} {Q : VK} {i : Nat} {te : TE} {ti : V → V → Hp → VK → Prop} {D : Ends} {g : Int → Int → Int} {a b : Int}
theorem x_aug : tAug i te ti D σ H ↔ ∃ x, σ[i]? = some (some x) ∧ te σ H fun y H1 => ti x y H1 fun z H2 => D.nx (σ.set i (some z)) H2 := Iff.rfl
theorem x_ipI : ipI g (.int a) (.int b) H Q ↔ Q (.int (g a b)) H := ⟨fun ⟨_, _, e1, e2, q⟩ => by cases e1; cases e2; exact q, fun q => ⟨_, _, rfl, rfl, q⟩⟩
theorem x_rAdd : rAdd (.int a) (.int b) H Q ↔ Q (.int (a + b)) H := ⟨fun ⟨_, _, e1, e2, q⟩ => by cases e1; cases e2; exact q, fun q => ⟨_, _, rfl, rfl, q⟩⟩
end
theorem x_while {c : TT} {tb : TS} {D : Ends} {σ : L2.St} {H : Hp} : tWhile c tb D σ H ↔ ∃ W : Nat → L2.St → Hp → Prop, (∃ m, W m σ H) ∧ ∀ m σ H, W m σ H →
  c σ H fun b H1 => if b = true then ∃ N : L2.St → Hp → Prop, (∀ σ' H', N σ' H' → ∃ m', m' < m ∧ W m' σ' H') ∧ tb { D with nx := N, ct := N, bk := D.nx } σ H1 else D.nx σ H1 := Iff.rfl
theorem x_retN {D : Ends} {σ : L2.St} {H : Hp} : tRetN D σ H ↔ D.rt .non H := Iff.rfl
section
variable {X : Cx} {K : PySem.W.Frag}
theorem ixTK (h : X.K = K) : IxR X (rIxT K) := h ▸ ix_tup
theorem ixLK (h : X.K = K) : IxR X (rIxL K) := h ▸ ix_list
end
theorem truL {K : PySem.W.Frag} {H : Hp} {p : Addr} {xs : List V} (h : SqL K H p xs) : TruV K (.ref p) H (!xs.isEmpty) := .inl ⟨xs, h, rfl⟩
theorem truT {K : PySem.W.Frag} {H : Hp} {p : Addr} {xs : List V} (h : SqT K H p xs) : TruV K (.ref p) H (!xs.isEmpty) := .inr (.inl ⟨xs, h, rfl⟩)
end Cc

set_option Elab.async false
set_option linter.all false
set_option maxRecDepth 100000
set_option maxHeartbeats 4000000
/-! The numbers that a chain can give: what the object that is asked for them holds. -/
namespace Cc
open PySem PySem.Spec PyProof.Rows L2
abbrev Rg := List (Int × Int)
def cntR (r : Rg) : Int := (r.map fun p => p.2 - p.1 + 1).sum
def numAt : Rg → Int → Option Int
  | [], _ => none
  | p :: r, k => if k ≤ p.2 - p.1 then some (p.1 + k) else numAt r (k - (p.2 - p.1 + 1))
def movR (r : Rg) (d : Int) : Rg := r.map fun p => (p.1 + d, p.2 + d)
def stayR (r : Rg) (last : Int) : Rg := (r.filter fun p => decide (p.1 ≤ last)).map fun p => (p.1, if last < p.2 then last else p.2)
def leavR (r : Rg) (last : Int) : Rg := (r.filter fun p => decide (last < p.2)).map fun p => (if last + 1 > p.1 then last + 1 else p.1, p.2)
structure Lv where
  w : Int
  cut : Int
  rs : Rg
structure Spr where
  lv : List Lv
  off : Int
  tot : Int
def Spr.new : Spr := ⟨[], 0, 0⟩
def popS (lv : List Lv) (n : Int) : List Lv := (lv.reverse.dropWhile fun v => decide (n ≤ v.w)).reverse
def lowOf (r : Rg) : Int := match r with | p :: _ => p.1 | [] => 0
def wider (S : Spr) (v : Lv) (w : Str) (n : Int) : Spr :=
  let off := castI (lowOf v.rs + S.off) w n - lowOf v.rs
  let last := lowI w n + 2 ^ n.toNat - 1 - off
  if leavR v.rs last = [] then ⟨S.lv, off, S.tot⟩ else ⟨S.lv ++ [⟨n, cntR (stayR v.rs last), movR (leavR v.rs last) (-(2 ^ n.toNat)) ++ stayR v.rs last⟩], off, S.tot⟩
def takeS (S : Spr) (w : Str) (n : Int) : Spr :=
  if w = "add" then ⟨S.lv, S.off + n, S.tot + n⟩
  else match (popS S.lv n).getLast? with
    | none => ⟨[⟨n, 0, [(0, 2 ^ n.toNat - 1)]⟩], lowI w n, S.tot⟩
    | some v => wider ⟨popS S.lv n, S.off, S.tot⟩ v w n
/-- every level has a range -/
def Full (S : Spr) : Prop := ∀ v ∈ S.lv, v.rs ≠ []

theorem popS_snoc (lv : List Lv) (v : Lv) (n : Int) : popS (lv ++ [v]) n = if n ≤ v.w then popS lv n else lv ++ [v] := by
  unfold popS
  rw [List.reverse_append, List.reverse_singleton, List.singleton_append, List.dropWhile_cons]
  by_cases h : n ≤ v.w
  · simp [h]
  · simp [h]
theorem popS_nil (n : Int) : popS [] n = [] := rfl
theorem popS_sub {lv : List Lv} {n : Int} {v : Lv} (h : v ∈ popS lv n) : v ∈ lv := by
  unfold popS at h
  rw [List.mem_reverse] at h
  exact List.mem_reverse.mp ((List.dropWhile_sublist _).mem h)

/-! ### in the heap -/
inductive Rgs (K : PySem.W.Frag) (H : Hp) : List V → Rg → Prop
  | nil : Rgs K H [] []
  | cons {t : Addr} {a b : Int} {xs : List V} {r : Rg} : H t = some (.tup [.int a, .int b]) → Rgs K H xs r → Rgs K H (.ref t :: xs) ((a, b) :: r)
def RgAt (K : PySem.W.Frag) (H : Hp) (l : Addr) (r : Rg) : Prop := ∃ xs, H l = some (.lst xs) ∧ Rgs K H xs r
inductive Lvs (K : PySem.W.Frag) (H : Hp) (l : Addr) : List V → List Lv → Prop
  | nil : Lvs K H l [] []
  | cons {t q : Addr} {w c : Int} {r : Rg} {xs : List V} {lv : List Lv} : SqT K H t [.int w, .int c, .ref q] → q ≠ l → RgAt K H q r → Lvs K H l xs lv → Lvs K H l (.ref t :: xs) (⟨w, c, r⟩ :: lv)
def sf (l : Addr) (o t : Int) : List (Str × V) := [("levels", .ref l), ("offset", .int o), ("total", .int t)]
/-- the object stands at p, its list of levels at l -/
def SpAt (K : PySem.W.Frag) (C : Addr) (H : Hp) (p l : Addr) (S : Spr) : Prop := ∃ dx xs, H p = some (.ins C dx (sf l S.off S.tot)) ∧ H l = some (.lst xs) ∧ Lvs K H l xs S.lv
/-- all but p and l stands -/
def But (p l : Addr) (H H' : Hp) : Prop := ∀ b o, b ≠ p → b ≠ l → H b = some o → H' b = some o
section
variable {K : PySem.W.Frag} {H H' H'' : Hp} {p l q : Addr} {xs ys : List V} {r r' : Rg} {C : Addr} {S : Spr} {lv : List Lv}
theorem But.refl : But p l H H := fun _ _ _ _ e => e
theorem But.trans (a : But p l H H') (b : But p l H' H'') : But p l H H'' := fun c o h1 h2 e => b c o h1 h2 (a c o h1 h2 e)
theorem But.of (e : Same H H') : But p l H H' := fun b o _ _ h => e b o h
theorem But.updP {o : HO} : But p l H (upd H p o) := fun b u h _ e => by rw [upd_ne h]; exact e
theorem But.updL {o : HO} : But p l H (upd H l o) := fun b u _ h e => by rw [upd_ne h]; exact e
/-- tuples are none of the two -/
theorem But.tup {o : HO} (e : But p l H H') (hp : H p = some o) (hl : H l = some (.lst ys)) (no : ∀ zs, o ≠ .tup zs) (nf : ∀ u v, o ≠ .frz u v) {t : Addr} (h : SqT K H t xs) : SqT K H' t xs := by
  have np : ∀ {u : HO}, H t = some u → (∀ zs, u ≠ .tup zs → True) → u ≠ o → t ≠ p := fun hu _ hn z => by
    rw [z, hp] at hu
    exact hn (Option.some.inj hu).symm
  rcases h with (h | ⟨u, h⟩) | h
  · refine .inl (.inl (e t _ (fun z => ?_) (fun z => ?_) h))
    · rw [z, hp] at h; exact no _ (Option.some.inj h)
    · rw [z, hl] at h; exact nomatch h
  · refine .inl (.inr ⟨u, e t _ (fun z => ?_) (fun z => ?_) h⟩)
    · rw [z, hp] at h; exact nf _ _ (Option.some.inj h)
    · rw [z, hl] at h; exact nomatch h
  · exact .inr h
theorem Rgs.same (e : ∀ {t : Addr} {xs : List V}, H t = some (.tup xs) → H' t = some (.tup xs)) : ∀ {xs : List V} {r : Rg}, Rgs K H xs r → Rgs K H' xs r
  | _, _, .nil => .nil
  | _, _, .cons h t => .cons (e h) (Rgs.same e t)
theorem RgAt.same (e : Same H H') (h : RgAt K H q r) : RgAt K H' q r := by
  obtain ⟨xs, h1, h2⟩ := h
  exact ⟨xs, e _ _ h1, h2.same fun h => e _ _ h⟩
theorem RgAt.but {dx : Addr} {fs : List (Str × V)} (e : But p l H H') (hp : H p = some (.ins C dx fs)) (hl : H l = some (.lst ys)) (hq : q ≠ l) (h : RgAt K H q r) : RgAt K H' q r := by
  obtain ⟨xs, h1, h2⟩ := h
  refine ⟨xs, e q _ (fun z => ?_) hq h1, h2.same fun h => e _ _ (fun z => by rw [z, hp] at h; exact nomatch h) (fun z => by rw [z, hl] at h; exact nomatch h) h⟩
  rw [z, hp] at h1
  exact nomatch h1
theorem Lvs.but {dx : Addr} {fs : List (Str × V)} (e : But p l H H') (hp : H p = some (.ins C dx fs)) (hl : H l = some (.lst ys)) : ∀ {xs : List V} {lv : List Lv}, Lvs K H l xs lv → Lvs K H' l xs lv
  | _, _, .nil => .nil
  | _, _, .cons h1 h2 h3 h4 => .cons (But.tup e hp hl (fun _ => nofun) (fun _ _ => nofun) h1) h2 (RgAt.but e hp hl h2 h3) (Lvs.but e hp hl h4)
theorem Lvs.same (e : Same H H') : ∀ {xs : List V} {lv : List Lv}, Lvs K H l xs lv → Lvs K H' l xs lv
  | _, _, .nil => .nil
  | _, _, .cons h1 h2 h3 h4 => .cons (Same.tup e h1) h2 (h3.same e) (Lvs.same e h4)
theorem SpAt.same (e : Same H H') (h : SpAt K C H p l S) : SpAt K C H' p l S := by
  obtain ⟨dx, xs, h1, h2, h3⟩ := h
  exact ⟨dx, xs, e _ _ h1, e _ _ h2, h3.same e⟩
theorem Lvs.len : ∀ {xs : List V} {lv : List Lv}, Lvs K H l xs lv → xs.length = lv.length
  | _, _, .nil => rfl
  | _, _, .cons _ _ _ t => congrArg (· + 1) (Lvs.len t)
theorem Lvs.get : ∀ {xs : List V} {lv : List Lv} {i : Nat} {x : V}, Lvs K H l xs lv → xs[i]? = some x → ∃ t q v, x = .ref t ∧ lv[i]? = some v ∧ SqT K H t [.int v.w, .int v.cut, .ref q] ∧ q ≠ l ∧ RgAt K H q v.rs
  | _, _, _, _, .nil, e => by simp at e
  | _, _, 0, _, .cons h1 h2 h3 _, e => by
    simp at e
    exact ⟨_, _, _, e.symm, rfl, h1, h2, h3⟩
  | _, _, i + 1, x, .cons _ _ _ t, e => by
    obtain ⟨t', q, v, e1, e2, e3⟩ := Lvs.get (i := i) (x := x) t (by simpa using e)
    exact ⟨t', q, v, e1, by simpa using e2, e3⟩
theorem Lvs.snoc {t : Addr} {w c : Int} : ∀ {xs : List V} {lv : List Lv}, Lvs K H l xs lv → SqT K H t [.int w, .int c, .ref q] → q ≠ l → RgAt K H q r → Lvs K H l (xs ++ [.ref t]) (lv ++ [⟨w, c, r⟩])
  | _, _, .nil, h1, h2, h3 => .cons h1 h2 h3 .nil
  | _, _, .cons a b c' d, h1, h2, h3 => .cons a b c' (Lvs.snoc d h1 h2 h3)
theorem Lvs.dropLast (h : Lvs K H l xs lv) : Lvs K H l xs.dropLast lv.dropLast := by
  induction h with
  | nil => exact .nil
  | cons a b c d ih =>
    cases d with
    | nil => exact .nil
    | cons a' b' c' d' => exact .cons a b c ih
theorem Rgs.len : ∀ {xs : List V} {r : Rg}, Rgs K H xs r → xs.length = r.length
  | _, _, .nil => rfl
  | _, _, .cons _ t => congrArg (· + 1) (Rgs.len t)
theorem Rgs.get : ∀ {xs : List V} {r : Rg} {i : Nat} {x : V}, Rgs K H xs r → xs[i]? = some x → ∃ t a b, x = .ref t ∧ r[i]? = some (a, b) ∧ SqT K H t [.int a, .int b]
  | _, _, _, _, .nil, e => by simp at e
  | _, _, 0, _, .cons h1 _, e => by
    simp at e
    exact ⟨_, _, _, e.symm, rfl, SqT.of h1⟩
  | _, _, i + 1, x, .cons _ t, e => by
    obtain ⟨t', a, b, e1, e2, e3⟩ := Rgs.get (i := i) (x := x) t (by simpa using e)
    exact ⟨t', a, b, e1, by simpa using e2, e3⟩
theorem Rgs.append : ∀ {xs ys : List V} {r r' : Rg}, Rgs K H xs r → Rgs K H ys r' → Rgs K H (xs ++ ys) (r ++ r')
  | _, _, _, _, .nil, h => h
  | _, _, _, _, .cons a b, h => .cons a (Rgs.append b h)
theorem Rgs.snoc {t : Addr} {a b : Int} (h : Rgs K H xs r) (ht : H t = some (.tup [.int a, .int b])) : Rgs K H (xs ++ [.ref t]) (r ++ [(a, b)]) := h.append (.cons ht .nil)
end
/-- a list of ranges grows by one, its new tuple at p -/
theorem Rgs.grow {K : PySem.W.Frag} {H : Hp} {p D : Addr} {ys zs : List V} {r : Rg} {a b : Int} {o : HO} (h : Rgs K H ys r) (np : H p = none) (hD : H D = some (.lst zs)) : Rgs K (upd (upd H p (.tup [.int a, .int b])) D o) (ys ++ [.ref p]) (r ++ [(a, b)]) := by
  have hpD : p ≠ D := fun z => by rw [z, hD] at np; cases np
  refine (h.same fun {t zs} h => ?_).snoc (by rw [upd_ne hpD, upd_same])
  have h1 := (same_new (o := .tup [.int a, .int b]) np) _ _ h
  rw [upd_ne (fun z => by rw [z, upd_ne hpD.symm, hD] at h1; exact nomatch h1)]
  exact h1
/-- another list changes: none of the object's, for its items are no ranges and no levels -/
theorem Rgs.other {K : PySem.W.Frag} {H : Hp} {c : Addr} {o : HO} (ho : ∀ zs, H c ≠ some (.tup zs)) {xs : List V} {r : Rg} (h : Rgs K H xs r) : Rgs K (upd H c o) xs r :=
  h.same fun h => by rw [upd_ne (fun z => ho _ (by rw [← z]; exact h))]; exact h
theorem RgAt.other {K : PySem.W.Frag} {H : Hp} {c t q : Addr} {ys : List V} {o : HO} {x : Str} {n : Int} {r : Rg} (hc : H c = some (.lst (.ref t :: ys))) (ht : H t = some (.tup [.str x, .int n])) (hr : r ≠ []) (h : RgAt K H q r) : RgAt K (upd H c o) q r := by
  obtain ⟨xs, h1, h2⟩ := h
  have hq : q ≠ c := fun z => by
    rw [z, hc] at h1
    cases h1
    cases h2 with
    | cons a b =>
      rw [ht] at a
      cases a
  exact ⟨xs, by rw [upd_ne hq]; exact h1, h2.other fun zs e => by rw [hc] at e; cases e⟩
theorem Lvs.other {K : PySem.W.Frag} {H : Hp} {l c t : Addr} {ys : List V} {o : HO} {x : Str} {n : Int} (hc : H c = some (.lst (.ref t :: ys))) (ht : H t = some (.tup [.str x, .int n]))
    {xs : List V} {lv : List Lv} (hf : ∀ v ∈ lv, v.rs ≠ []) (h : Lvs K H l xs lv) : Lvs K (upd H c o) l xs lv := by
  induction h with
  | nil => exact .nil
  | cons h1 h2 h3 h4 ih =>
    refine .cons ?_ h2 (h3.other hc ht (hf _ List.mem_cons_self)) (ih fun v hv => hf v (List.mem_cons_of_mem _ hv))
    rcases h1 with (h1 | ⟨u, h1⟩) | h1
    · exact .inl (.inl (by show upd H c o _ = _; rw [upd_ne (fun z => by rw [z, hc] at h1; cases h1)]; exact h1))
    · exact .inl (.inr ⟨u, by show upd H c o _ = _; rw [upd_ne (fun z => by rw [z, hc] at h1; cases h1)]; exact h1⟩)
    · exact .inr h1
theorem SpAt.other {K : PySem.W.Frag} {C : Addr} {H : Hp} {p l c t : Addr} {ys : List V} {o : HO} {x : Str} {n : Int} {S : Spr} (hc : H c = some (.lst (.ref t :: ys))) (ht : H t = some (.tup [.str x, .int n])) (hl : c ≠ l) (hF : ∀ v ∈ S.lv, v.rs ≠ []) (h : SpAt K C H p l S) : SpAt K C (upd H c o) p l S := by
  obtain ⟨dx, xs, h1, h2, h3⟩ := h
  exact ⟨dx, xs, by rw [upd_ne (fun z => by rw [z, hc] at h1; cases h1)]; exact h1, by rw [upd_ne hl.symm]; exact h2, h3.other hc ht hF⟩
/-! ### the fields -/
theorem sf_levels (l : Addr) (o t : Int) : (sf l o t).lookup ("levels" : Str) = some (.ref l) := by
  unfold sf
  rw [List.lookup_cons, show (("levels" : Str) == "levels") = true by decide +kernel]
theorem sf_offset (l : Addr) (o t : Int) : (sf l o t).lookup ("offset" : Str) = some (.int o) := by
  unfold sf
  rw [List.lookup_cons, show (("offset" : Str) == "levels") = false by decide +kernel]
  simp only
  rw [List.lookup_cons, show (("offset" : Str) == "offset") = true by decide +kernel]
theorem sf_total (l : Addr) (o t : Int) : (sf l o t).lookup ("total" : Str) = some (.int t) := by
  unfold sf
  rw [List.lookup_cons, show (("total" : Str) == "levels") = false by decide +kernel]
  simp only
  rw [List.lookup_cons, show (("total" : Str) == "offset") = false by decide +kernel]
  simp only
  rw [List.lookup_cons, show (("total" : Str) == "total") = true by decide +kernel]
theorem sf_none {m : Str} (l : Addr) (o t : Int) (h1 : (m == ("levels" : Str)) = false) (h2 : (m == ("offset" : Str)) = false) (h3 : (m == ("total" : Str)) = false) : (sf l o t).lookup m = none := by
  unfold sf
  rw [List.lookup_cons, h1]
  simp only
  rw [List.lookup_cons, h2]
  simp only
  rw [List.lookup_cons, h3]
  rfl
theorem lo_ : ¬ (("levels" : Str) = "offset") := by decide +kernel
theorem lt_ : ¬ (("levels" : Str) = "total") := by decide +kernel
theorem ot_ : ¬ (("offset" : Str) = "total") := by decide +kernel
theorem sf_put_offset (l : Addr) (o o' t : Int) : putF "offset" (.int o') (sf l o t) = sf l o' t := by
  show (if ("levels" : Str) = "offset" then _ else (("levels" : Str), V.ref l) :: (if ("offset" : Str) = "offset" then (("offset" : Str), V.int o') :: [(("total" : Str), V.int t)] else _)) = sf l o' t
  rw [if_neg lo_, if_pos rfl]
  rfl
theorem sf_put_total (l : Addr) (o t t' : Int) : putF "total" (.int t') (sf l o t) = sf l o t' := by
  show (if ("levels" : Str) = "total" then _ else (("levels" : Str), V.ref l) :: (if ("offset" : Str) = "total" then _ else (("offset" : Str), V.int o) :: (if ("total" : Str) = "total" then [(("total" : Str), V.int t')] else _))) = sf l o t'
  rw [if_neg lt_, if_neg ot_, if_pos rfl]
  rfl
theorem sf_make (l : Addr) : putF "total" (.int 0) (putF "offset" (.int 0) (putF "levels" (.ref l) [])) = sf l 0 0 := by
  show putF "total" (.int 0) (if ("levels" : Str) = "offset" then _ else (("levels" : Str), V.ref l) :: [(("offset" : Str), V.int 0)]) = sf l 0 0
  rw [if_neg lo_]
  show (if ("levels" : Str) = "total" then _ else (("levels" : Str), V.ref l) :: (if ("offset" : Str) = "total" then _ else (("offset" : Str), V.int 0) :: [(("total" : Str), V.int 0)])) = sf l 0 0
  rw [if_neg lt_, if_neg ot_]
  rfl
end Cc

set_option Elab.async false
set_option linter.all false
set_option maxRecDepth 100000
set_option maxHeartbeats 4000000
/-! What casts make of numbers: plain arithmetic. -/
namespace Cc
open PySem PySem.Spec PyProof.Rows L2
theorem two_succ (n : Nat) : (2 : Int) ^ (n + 1) = 2 * 2 ^ n := by rw [Int.pow_succ, Int.mul_comm]
theorem two_dvd {m n : Nat} (h : m ≤ n) : (2 : Int) ^ m ∣ 2 ^ n := ⟨2 ^ (n - m), by rw [← Int.pow_add, Nat.add_sub_cancel' h]⟩
theorem low_u (n : Int) : lowI "u" n = 0 := if_pos rfl
theorem low_s (n : Int) : lowI "s" n = -(2 ^ (n - 1).toNat) := if_neg (by decide +kernel)
theorem cast_lo (x : Int) (w : Str) (n : Int) : lowI w n ≤ castI x w n := by
  have h := Int.emod_nonneg (x - lowI w n) (show (2 : Int) ^ n.toNat ≠ 0 from Int.ne_of_gt (two_pos _))
  unfold castI
  omega
theorem cast_hi (x : Int) (w : Str) (n : Int) : castI x w n < lowI w n + 2 ^ n.toNat := by
  have h := Int.emod_lt_of_pos (x - lowI w n) (two_pos n.toNat)
  unfold castI
  omega
theorem cast_mod (x : Int) (w : Str) (n : Int) : castI x w n % 2 ^ n.toNat = x % 2 ^ n.toNat := by
  unfold castI
  rw [Int.add_emod_emod, show lowI w n + (x - lowI w n) = x by omega]
theorem cast_dvd (x : Int) (w : Str) (n : Int) : (2 : Int) ^ n.toNat ∣ castI x w n - x := Int.dvd_of_emod_eq_zero (Int.emod_eq_emod_iff_emod_sub_eq_zero.mp (cast_mod x w n))
theorem cast_fix {x : Int} {w : Str} {n : Int} (h0 : lowI w n ≤ x) (h1 : x < lowI w n + 2 ^ n.toNat) : castI x w n = x := by
  unfold castI
  rw [Int.emod_eq_of_lt (by omega) (by omega)]
  omega
theorem cast_same {x y : Int} {w : Str} {n : Int} (h : x % 2 ^ n.toNat = y % 2 ^ n.toNat) : castI x w n = castI y w n := by
  unfold castI
  have e : (x - lowI w n) % 2 ^ n.toNat = (y - lowI w n) % 2 ^ n.toNat := by rw [Int.sub_emod, h, ← Int.sub_emod]
  rw [e]
theorem mod_mod_of {x y : Int} {m n : Nat} (h : m ≤ n) (e : x % 2 ^ n = y % 2 ^ n) : x % 2 ^ m = y % 2 ^ m := by
  rw [← Int.emod_emod_of_dvd x (two_dvd h), e, Int.emod_emod_of_dvd y (two_dvd h)]
/-- a wider cast ahead of a narrower one is needless -/
theorem cast_cast {x : Int} {w w' : Str} {n o : Int} (h : n ≤ o) : castI (castI x w' o) w n = castI x w n :=
  cast_same (mod_mod_of (by omega) (cast_mod x w' o))
theorem cast_u (x n : Int) : castI x "u" n = x % 2 ^ n.toNat := by
  unfold castI
  rw [low_u, Int.sub_zero, Int.zero_add]
theorem half_two {n : Int} (h : 1 ≤ n) : (2 : Int) ^ n.toNat = 2 * 2 ^ (n - 1).toNat := by
  rw [← two_succ]
  congr 1
  omega
theorem fits_in {x : Int} {w w' : Str} {n : Int} (hw : w = "u" ∨ w = "s") (hn : 1 ≤ n) : castI (castI x w n) "s" (n + 1) = castI x w n := by
  have h0 := cast_lo x w n
  have h1 := cast_hi x w n
  have p := two_pos n.toNat
  have q := two_pos (n - 1).toNat
  have e := half_two hn
  have e2 := half_two (n := n + 1) (by omega)
  rw [show (n + 1 - 1).toNat = n.toNat by omega] at e2
  refine cast_fix ?_ ?_
  · rw [low_s, show (n + 1 - 1).toNat = n.toNat by omega]
    rcases hw with rfl | rfl
    · rw [low_u] at h0; omega
    · rw [low_s] at h0; omega
  · rw [low_s, show (n + 1 - 1).toNat = n.toNat by omega, e2]
    rcases hw with rfl | rfl
    · rw [low_u] at h1; omega
    · rw [low_s] at h1; omega
/-! the lowest binary digits, by halving -/
def bitsI (x : Int) (m : Nat) : List Int := (List.range m).map fun j => x / 2 ^ j % 2
theorem bits_len (x : Int) (m : Nat) : (bitsI x m).length = m := by unfold bitsI; simp
theorem bits_succ (x : Int) (m : Nat) : bitsI x (m + 1) = bitsI x m ++ [x / 2 ^ m % 2] := by
  unfold bitsI
  rw [List.range_succ, List.map_append]
  rfl
theorem half_half (x : Int) (m : Nat) : x / 2 ^ m / 2 = x / 2 ^ (m + 1) := by
  rw [Int.ediv_ediv_of_nonneg (Int.le_of_lt (two_pos m)), Int.pow_succ]
/-- what the digits up to the i-th are worth -/
def worth (x : Int) : Nat → Int
  | 0 => 0
  | i + 1 => worth x i + x / 2 ^ i % 2 * 2 ^ i
theorem worth_mod (x : Int) : ∀ i, worth x i = x % 2 ^ i
  | 0 => by simp [worth]
  | i + 1 => by
    have ih := worth_mod x i
    unfold worth
    rw [ih]
    have p := two_pos i
    have h1 := Int.emod_add_mul_ediv x (2 ^ i)
    have h2 := Int.emod_add_mul_ediv (x / 2 ^ i) 2
    have h3 := Int.emod_add_mul_ediv x (2 ^ (i + 1))
    rw [half_half] at h2
    have e : (2 : Int) ^ (i + 1) = 2 ^ i * 2 := Int.pow_succ _ _
    have h4 : (2 : Int) ^ i * (x / 2 ^ i) = 2 ^ i * (x / 2 ^ i % 2) + 2 ^ (i + 1) * (x / 2 ^ (i + 1)) := by
      have h5 : (2 : Int) ^ i * (x / 2 ^ i) = 2 ^ i * (x / 2 ^ i % 2 + 2 * (x / 2 ^ (i + 1))) := by rw [h2]
      rw [h5, Int.mul_add, ← Int.mul_assoc, ← e]
    rw [Int.mul_comm (x / 2 ^ i % 2)]
    omega
theorem signed_worth {x n : Int} (hn : 1 ≤ n) : castI x "s" n = worth x (n.toNat - 1) - x / 2 ^ (n.toNat - 1) % 2 * 2 ^ (n.toNat - 1) := by
  rw [worth_mod]
  have p := two_pos (n.toNat - 1)
  have e : (2 : Int) ^ n.toNat = 2 * 2 ^ (n.toNat - 1) := by
    rw [← two_succ]
    congr 1
    omega
  have r0 := Int.emod_nonneg x (show (2 : Int) ^ (n.toNat - 1) ≠ 0 from Int.ne_of_gt p)
  have r1 := Int.emod_lt_of_pos x p
  have b0 := Int.emod_nonneg (x / 2 ^ (n.toNat - 1)) (show (2 : Int) ≠ 0 by decide)
  have b1 := Int.emod_lt_of_pos (x / 2 ^ (n.toNat - 1)) (show (0 : Int) < 2 by decide)
  have w2 := worth_mod x (n.toNat - 1 + 1)
  have w1 := worth_mod x (n.toNat - 1)
  unfold worth at w2
  rw [w1, two_succ] at w2
  rw [← e] at w2
  generalize hb : x / 2 ^ (n.toNat - 1) % 2 = b at *
  generalize hr : x % 2 ^ (n.toNat - 1) = r at *
  generalize hP : (2 : Int) ^ (n.toNat - 1) = Pw at *
  have lo : lowI "s" n = -Pw := by rw [low_s, ← hP]; congr 2; omega
  have key : ∀ y : Int, y % 2 ^ n.toNat = x % 2 ^ n.toNat → -Pw ≤ y → y < Pw → castI x "s" n = y := fun y hy h0 h1 => by
    rw [cast_same (w := "s") hy.symm]
    exact cast_fix (by rw [lo]; exact h0) (by rw [lo, e]; omega)
  have hb2 : b = 0 ∨ b = 1 := by omega
  rcases hb2 with rfl | rfl
  · refine key _ ?_ (by omega) (by omega)
    rw [← w2]
    rw [Int.zero_mul, Int.sub_zero, Int.add_zero]
    exact Int.emod_eq_of_lt r0 (by rw [e]; omega)
  · refine key _ ?_ (by omega) (by omega)
    rw [← w2, Int.one_mul]
    have : r - Pw = (r + Pw) + (2 ^ n.toNat) * (-1) := by rw [e]; omega
    rw [this, Int.add_mul_emod_self_left]
    exact Int.emod_eq_of_lt (by omega) (by rw [e]; omega)
end Cc

set_option Elab.async false
set_option linter.all false
set_option maxRecDepth 100000
set_option maxHeartbeats 1000000
/-! What the steps make of the levels: ascending ranges, as many numbers as the least cast has. -/
namespace Cc
open PySem PySem.Spec PyProof.Rows L2
/-- ascending ranges between lo and hi -/
def Asc : Int → Rg → Int → Prop
  | _, [], _ => True
  | lo, (a, b) :: r, hi => lo ≤ a ∧ a ≤ b ∧ b ≤ hi ∧ Asc (b + 1) r hi
theorem Asc.low {lo lo' hi : Int} : ∀ {r : Rg}, Asc lo r hi → lo' ≤ lo → Asc lo' r hi
  | [], _, _ => trivial
  | (a, b) :: r, ⟨h1, h2, h3, h4⟩, h => ⟨by omega, h2, h3, h4⟩
theorem Asc.high {hi hi' : Int} (h : hi ≤ hi') : ∀ {r : Rg} {lo : Int}, Asc lo r hi → Asc lo r hi'
  | [], _, _ => trivial
  | (a, b) :: r, _, ⟨h1, h2, h3, h4⟩ => ⟨h1, h2, by omega, Asc.high h h4⟩
theorem Asc.mov {d hi : Int} : ∀ {r : Rg} {lo : Int}, Asc lo r hi → Asc (lo + d) (movR r d) (hi + d)
  | [], _, _ => trivial
  | (a, b) :: r, _, ⟨h1, h2, h3, h4⟩ => by
    have h := Asc.mov (d := d) h4
    exact ⟨by omega, by omega, by omega, by rw [show b + d + 1 = b + 1 + d by omega]; exact h⟩
theorem Asc.app {hi mid lo2 : Int} {r2 : Rg} (h2 : Asc lo2 r2 hi) (hm : mid < lo2) (hh : mid ≤ hi) : ∀ {r : Rg} {lo : Int}, Asc lo r mid → lo ≤ lo2 → Asc lo (r ++ r2) hi
  | [], _, _, hl => h2.low hl
  | (a, b) :: r, _, ⟨h3, h4, h5, h6⟩, _ => ⟨h3, h4, by omega, Asc.app h2 hm hh h6 (by omega)⟩
theorem stayR_cons (a b : Int) (r : Rg) (z : Int) : stayR ((a, b) :: r) z = if a ≤ z then (a, if z < b then z else b) :: stayR r z else stayR r z := by
  unfold stayR
  by_cases h : a ≤ z
  · rw [List.filter_cons_of_pos (by simp [h]), if_pos h]; rfl
  · rw [List.filter_cons_of_neg (by simp [h]), if_neg h]
theorem leavR_cons (a b : Int) (r : Rg) (z : Int) : leavR ((a, b) :: r) z = if z < b then (if z + 1 > a then z + 1 else a, b) :: leavR r z else leavR r z := by
  unfold leavR
  by_cases h : z < b
  · rw [List.filter_cons_of_pos (by simp [h]), if_pos h]; rfl
  · rw [List.filter_cons_of_neg (by simp [h]), if_neg h]
theorem Asc.stay {z hi : Int} : ∀ {r : Rg} {lo : Int}, Asc lo r hi → Asc lo (stayR r z) z
  | [], _, _ => trivial
  | (a, b) :: r, lo, ⟨h1, h2, h3, h4⟩ => by
    have h := Asc.stay (z := z) h4
    rw [stayR_cons]
    by_cases hc : a ≤ z
    · rw [if_pos hc]
      by_cases hb : z < b
      · rw [if_pos hb]
        exact ⟨h1, hc, by omega, h.low (by omega)⟩
      · rw [if_neg hb]
        exact ⟨h1, h2, by omega, h⟩
    · rw [if_neg hc]
      exact h.low (by omega)
theorem Asc.leave {z hi : Int} : ∀ {r : Rg} {lo : Int}, Asc lo r hi → Asc (z + 1) (leavR r z) hi
  | [], _, _ => trivial
  | (a, b) :: r, lo, ⟨h1, h2, h3, h4⟩ => by
    have h := Asc.leave (z := z) h4
    rw [leavR_cons]
    by_cases hc : z < b
    · rw [if_pos hc]
      have tail : Asc (b + 1) (leavR r z) hi := by
        clear h
        revert h4
        generalize hlo : b + 1 = lo'
        have hz : z < lo' := by omega
        clear hlo
        intro h4
        clear h1 h2 h3 hc
        induction r generalizing lo' with
        | nil => trivial
        | cons p r ih =>
          obtain ⟨a, b⟩ := p
          obtain ⟨g1, g2, g3, g4⟩ := h4
          rw [leavR_cons, if_pos (show z < b by omega), if_neg (show ¬ z + 1 > a by omega)]
          exact ⟨g1, g2, g3, ih (b + 1) (by omega) g4⟩
      by_cases hb : z + 1 > a
      · rw [if_pos hb]
        exact ⟨by omega, by omega, h3, tail⟩
      · rw [if_neg hb]
        exact ⟨by omega, h2, h3, tail⟩
    · rw [if_neg hc]
      exact h
theorem Asc.none_leave {z hi : Int} : ∀ {r : Rg} {lo : Int}, Asc lo r hi → z < lo → stayR r z = []
  | [], _, _, _ => rfl
  | (a, b) :: r, lo, ⟨h1, h2, h3, h4⟩, h => by
    rw [stayR_cons, if_neg (by omega)]
    exact Asc.none_leave h4 (by omega)
theorem leavR_le (r : Rg) (z : Int) : (leavR r z).length ≤ r.length := by
  unfold leavR
  rw [List.length_map]
  exact List.length_filter_le _ _
theorem parts_len {z hi : Int} : ∀ {r : Rg} {lo : Int}, Asc lo r hi → (stayR r z).length + (leavR r z).length ≤ r.length + 1
  | [], _, _ => by simp [stayR, leavR]
  | (a, b) :: r, lo, ⟨h1, h2, h3, h4⟩ => by
    have ih := parts_len (z := z) h4
    rw [stayR_cons, leavR_cons]
    by_cases hc : a ≤ z
    · by_cases hb : z < b
      · rw [if_pos hc, if_pos hb, if_pos hb, Asc.none_leave h4 (by omega)]
        have := leavR_le r z
        simp only [List.length_cons, List.length_nil]
        omega
      · rw [if_pos hc, if_neg hb, if_neg hb]
        simp only [List.length_cons]
        omega
    · by_cases hb : z < b
      · rw [if_neg hc, if_pos hb]
        simp only [List.length_cons]
        omega
      · omega
theorem cntR_cons (p : Int × Int) (r : Rg) : cntR (p :: r) = p.2 - p.1 + 1 + cntR r := by
  unfold cntR
  rw [List.map_cons, List.sum_cons]
theorem cntR_app (r s : Rg) : cntR (r ++ s) = cntR r + cntR s := by
  unfold cntR
  rw [List.map_append, List.sum_append]
theorem cntR_mov (r : Rg) (d : Int) : cntR (movR r d) = cntR r := by
  induction r with
  | nil => rfl
  | cons p r ih =>
    show cntR ((p.1 + d, p.2 + d) :: movR r d) = _
    rw [cntR_cons, cntR_cons, ih]
    dsimp only
    omega
theorem parts_cnt {z hi : Int} : ∀ {r : Rg} {lo : Int}, Asc lo r hi → cntR (stayR r z) + cntR (leavR r z) = cntR r
  | [], _, _ => rfl
  | (a, b) :: r, lo, ⟨h1, h2, h3, h4⟩ => by
    have ih := parts_cnt (z := z) h4
    rw [stayR_cons, leavR_cons, cntR_cons]
    by_cases hc : a ≤ z
    · by_cases hb : z < b
      · rw [if_pos hc, if_pos hb, if_pos hb, if_pos (show z + 1 > a by omega), cntR_cons, cntR_cons]
        dsimp only
        omega
      · rw [if_pos hc, if_neg hb, if_neg hb, cntR_cons]
        dsimp only
        omega
    · rw [if_neg hc, if_pos (show z < b by omega), if_neg (show ¬ z + 1 > a by omega), cntR_cons]
      dsimp only
      omega
theorem numAt_some {hi : Int} : ∀ {r : Rg} {lo k : Int}, Asc lo r hi → 0 ≤ k → k < cntR r → ∃ v, numAt r k = some v ∧ lo ≤ v ∧ v ≤ hi
  | [], _, k, _, h0, h1 => by
    have : cntR [] = 0 := rfl
    omega
  | (a, b) :: r, lo, k, ⟨h1, h2, h3, h4⟩, h0, hk => by
    rw [cntR_cons] at hk
    dsimp only at hk
    unfold numAt
    by_cases hc : k ≤ b - a
    · rw [if_pos hc]
      exact ⟨_, rfl, by dsimp only; omega, by dsimp only; omega⟩
    · rw [if_neg hc]
      obtain ⟨v, e, e1, e2⟩ := numAt_some (k := k - (b - a + 1)) h4 (by omega) (by omega)
      exact ⟨v, e, by omega, e2⟩
/-- a level: its ranges ascend within as many numbers as its width has -/
def LvOk (k : Nat) (v : Lv) : Prop := v.rs.length ≤ k ∧ v.rs ≠ [] ∧ 1 ≤ v.w ∧ v.w ≤ big ∧ Asc (lowOf v.rs) v.rs (lowOf v.rs + 2 ^ v.w.toNat - 1)
structure Sok (k : Nat) (S : Spr) : Prop where
  len : S.lv.length ≤ k
  lvl : ∀ v ∈ S.lv, LvOk k v
  cnt : ∀ u, S.lv.head? = some u → ∀ v ∈ S.lv, cntR v.rs = 2 ^ u.w.toNat
  asc : S.lv.Pairwise fun u v => u.w < v.w
theorem Sok.new : Sok 0 Spr.new := ⟨Nat.le_refl _, fun _ h => (nomatch h), fun _ h => (nomatch h), List.Pairwise.nil⟩
theorem LvOk.up {k m : Nat} {v : Lv} (h : LvOk k v) (hk : k ≤ m) : LvOk m v := ⟨Nat.le_trans h.1 hk, h.2⟩
theorem Sok.up {k m : Nat} {S : Spr} (h : Sok k S) (hk : k ≤ m) : Sok m S := ⟨Nat.le_trans h.len hk, fun v hv => (h.lvl v hv).up hk, h.cnt, h.asc⟩
theorem popS_pre (n : Int) : ∀ lv : List Lv, ∃ r, lv = popS lv n ++ r := by
  intro lv
  induction hk : lv.length generalizing lv with
  | zero =>
    have : lv = [] := List.length_eq_zero_iff.mp hk
    exact ⟨[], by rw [this]; rfl⟩
  | succ k ih =>
    rcases List.eq_nil_or_concat lv with rfl | ⟨l0, v, rfl⟩
    · cases hk
    · rw [List.concat_eq_append] at *
      rw [popS_snoc]
      by_cases h : n ≤ v.w
      · rw [if_pos h]
        obtain ⟨r, hr⟩ := ih l0 (by simpa using hk)
        exact ⟨r ++ [v], by rw [← List.append_assoc, ← hr]⟩
      · rw [if_neg h]
        exact ⟨[], (List.append_nil _).symm⟩
theorem popS_last {n : Int} {v : Lv} : ∀ {lv : List Lv}, (popS lv n).getLast? = some v → v.w < n := by
  intro lv
  induction hk : lv.length generalizing lv with
  | zero =>
    have : lv = [] := List.length_eq_zero_iff.mp hk
    intro h
    rw [this] at h
    exact nomatch h
  | succ k ih =>
    rcases List.eq_nil_or_concat lv with rfl | ⟨l0, u, rfl⟩
    · cases hk
    · rw [List.concat_eq_append] at *
      rw [popS_snoc]
      by_cases h : n ≤ u.w
      · rw [if_pos h]
        exact ih (by simpa using hk)
      · rw [if_neg h, List.getLast?_concat]
        intro e
        cases e
        omega
theorem Sok.pop {k : Nat} {S : Spr} {n : Int} {o t : Int} (h : Sok k S) : Sok k ⟨popS S.lv n, o, t⟩ := by
  obtain ⟨r, hr⟩ := popS_pre n S.lv
  have sub : ∀ v ∈ popS S.lv n, v ∈ S.lv := fun v hv => popS_sub hv
  refine ⟨?_, fun v hv => h.lvl v (sub v hv), fun u hu v hv => h.cnt u ?_ v (sub v hv), ?_⟩
  · have := h.len
    rw [hr, List.length_append] at this
    show (popS S.lv n).length ≤ k
    omega
  · have hu' : (popS S.lv n).head? = some u := hu
    rw [hr]
    cases hp : popS S.lv n with
    | nil => rw [hp] at hu'; cases hu'
    | cons a b => rw [hp] at hu'; exact hu'
  · have := h.asc
    rw [hr] at this
    exact (List.pairwise_append.mp this).1
theorem low_range {x : Str} {n y : Int} (n0 : 1 ≤ n) : lowI x n ≤ castI y x n ∧ castI y x n ≤ lowI x n + 2 ^ n.toNat - 1 := by
  unfold castI
  have h0 := Int.emod_nonneg (y - lowI x n) (show (2 ^ n.toNat : Int) ≠ 0 from Int.ne_of_gt (two_pos _))
  have h1 := Int.emod_lt_of_pos (y - lowI x n) (two_pos n.toNat)
  omega
theorem two_mono {a b : Int} (h : a ≤ b) : (2 : Int) ^ a.toNat ≤ 2 ^ b.toNat := by
  have h : 2 ^ a.toNat ≤ 2 ^ b.toNat := Nat.pow_le_pow_right (by decide) (by omega)
  exact_mod_cast h
theorem asc_lowOf {lo hi : Int} {r : Rg} (h : Asc lo r hi) (hne : r ≠ []) : lo ≤ lowOf r ∧ Asc (lowOf r) r hi ∧ lowOf r ≤ hi := by
  cases r with
  | nil => exact absurd rfl hne
  | cons p r =>
    obtain ⟨a, b⟩ := p
    obtain ⟨h1, h2, h3, h4⟩ := h
    exact ⟨h1, ⟨Int.le_refl _, h2, h3, h4⟩, by show a ≤ hi; omega⟩
/-- the ranges of a wider cast that moves some of them -/
theorem widerR_ok {r : Rg} {lo hi z N : Int} (h : Asc lo r hi) (hz : lo ≤ z) (hN : hi - lo < N) (hne : leavR r z ≠ []) : Asc (z + 1 - N) (movR (leavR r z) (-N) ++ stayR r z) z := by
  have h1 := (h.leave (z := z)).mov (d := -N)
  have h2 := h.stay (z := z)
  by_cases hc : hi ≤ z
  · have : leavR r z = [] := by
      have := h.leave (z := z)
      cases hl : leavR r z with
      | nil => rfl
      | cons p q =>
        rw [hl] at this
        obtain ⟨a, b⟩ := p
        obtain ⟨g1, g2, g3, _⟩ := this
        omega
    exact absurd this hne
  · rw [show z + 1 + -N = z + 1 - N by omega] at h1
    exact Asc.app h2 (by omega) (by omega) h1 (by omega)
theorem wider_ok {k : Nat} {S : Spr} {v : Lv} {x : Str} {n : Int} (h : Sok k S) (hv : S.lv.getLast? = some v) (n0 : 1 ≤ n) (n1 : n ≤ big) (hw : v.w < n) : Sok (k + 1) (wider S v x n) := by
  have hmem : v ∈ S.lv := List.mem_of_getLast? hv
  obtain ⟨l1, l2, l3, l4, l5⟩ := h.lvl v hmem
  unfold wider
  dsimp only
  generalize hz : lowI x n + 2 ^ n.toNat - 1 - (castI (lowOf v.rs + S.off) x n - lowOf v.rs) = z
  have lz : lowOf v.rs ≤ z := by
    have := (low_range (x := x) (n := n) (y := lowOf v.rs + S.off) n0).2
    omega
  have hN : lowOf v.rs + 2 ^ v.w.toNat - 1 - lowOf v.rs < 2 ^ n.toNat := by
    have := two_mono (show v.w ≤ n by omega)
    omega
  by_cases hc : leavR v.rs z = []
  · rw [if_pos hc]
    exact ⟨Nat.le_succ_of_le h.len, fun u hu => (h.lvl u hu).up (Nat.le_succ k), h.cnt, h.asc⟩
  · rw [if_neg hc]
    have hasc := widerR_ok l5 lz hN hc
    have hne : movR (leavR v.rs z) (-(2 ^ n.toNat)) ++ stayR v.rs z ≠ [] := by
      unfold movR
      intro e
      rw [List.append_eq_nil_iff, List.map_eq_nil_iff] at e
      exact hc e.1
    have hcnt : cntR (movR (leavR v.rs z) (-(2 ^ n.toNat)) ++ stayR v.rs z) = cntR v.rs := by
      have := parts_cnt (z := z) l5
      rw [cntR_app, cntR_mov]
      omega
    refine ⟨?_, fun u hu => ?_, fun u hu t ht => ?_, ?_⟩
    · show (S.lv ++ _).length ≤ k + 1
      rw [List.length_append]
      have := h.len
      simp only [List.length_cons, List.length_nil]
      omega
    · rcases List.mem_append.mp hu with hu | hu
      · exact (h.lvl u hu).up (Nat.le_succ k)
      · rw [List.mem_singleton] at hu
        subst hu
        refine ⟨?_, hne, n0, n1, ?_⟩
        · have := parts_len (z := z) l5
          show (movR (leavR v.rs z) (-(2 ^ n.toNat)) ++ stayR v.rs z).length ≤ k + 1
          unfold movR
          rw [List.length_append, List.length_map]
          omega
        · obtain ⟨g1, g2, g3⟩ := asc_lowOf hasc hne
          exact g2.high (by show z ≤ lowOf (movR (leavR v.rs z) (-(2 ^ n.toNat)) ++ stayR v.rs z) + 2 ^ n.toNat - 1; omega)
    · have hne' : S.lv ≠ [] := fun e => by rw [e] at hv; cases hv
      have hu' : S.lv.head? = some u := by
        have hu2 : (S.lv ++ [(⟨n, cntR (stayR v.rs z), movR (leavR v.rs z) (-(2 ^ n.toNat)) ++ stayR v.rs z⟩ : Lv)]).head? = some u := hu
        cases hl : S.lv with
        | nil => exact absurd hl hne'
        | cons a b => rw [hl] at hu2; exact hu2
      rcases List.mem_append.mp ht with ht | ht
      · exact h.cnt u hu' t ht
      · rw [List.mem_singleton] at ht
        subst ht
        show cntR (movR (leavR v.rs z) (-(2 ^ n.toNat)) ++ stayR v.rs z) = _
        rw [hcnt]
        exact h.cnt u hu' v hmem
    · refine List.pairwise_append.mpr ⟨h.asc, by simp, fun a ha b hb => ?_⟩
      rw [List.mem_singleton] at hb
      subst hb
      show a.w < n
      have : a.w ≤ v.w := by
        obtain ⟨ys, hy⟩ := List.getLast?_eq_some_iff.mp hv
        have hA := h.asc
        rw [hy] at hA ha
        rcases List.mem_append.mp ha with ha | ha
        · exact Int.le_of_lt ((List.pairwise_append.mp hA).2.2 a ha v (by simp))
        · rw [List.mem_singleton] at ha
          rw [ha]
          exact Int.le_refl _
      omega
theorem takeS_ok {k : Nat} {S : Spr} {x : Str} {n : Int} (h : Sok k S) (ok : okS (x, n) = true) (hb : n ≤ (if x = "add" then n else big)) : Sok (k + 1) (takeS S x n) := by
  unfold takeS
  by_cases hx : x = "add"
  · rw [if_pos hx]
    exact ⟨Nat.le_succ_of_le h.len, fun u hu => (h.lvl u hu).up (Nat.le_succ k), h.cnt, h.asc⟩
  · rw [if_neg hx] at hb ⊢
    have n0 := isC_of ok hx
    cases hl : (popS S.lv n).getLast? with
    | none =>
      dsimp only
      have hp := two_pos n.toNat
      refine ⟨by simp, fun v hv => ?_, fun u hu v hv => ?_, by simp⟩
      · rw [List.mem_singleton] at hv
        subst hv
        refine ⟨by simp, by simp, n0, hb, ?_⟩
        show Asc 0 [(0, 2 ^ n.toNat - 1)] (0 + 2 ^ n.toNat - 1)
        exact ⟨by omega, by omega, by omega, trivial⟩
      · rw [List.mem_singleton] at hv
        subst hv
        cases hu
        show cntR [(0, 2 ^ n.toNat - 1)] = 2 ^ n.toNat
        rw [cntR_cons]
        have : cntR [] = 0 := rfl
        dsimp only
        omega
    | some v =>
      exact wider_ok h.pop hl n0 hb (popS_last hl)
end Cc

set_option Elab.async false
set_option linter.all false
set_option maxRecDepth 100000
set_option maxHeartbeats 4000000
/-! zip of two tuples; *xs in a display. -/
namespace Cc
open PySem PySem.Spec PyProof.Rows L2 RZ
section
variable {K : PySem.W.Frag} {σ : L2.St} {H : Hp} {Q : VK} {g : TG} {tt : TT} {te : TE} {ta t : TA} {vs : List Nat} {D : Addr} {a b : Addr} {xs ys : List V} {tb : TS} {N : Ends}
theorem x_lcZ : tLc (iZipA K ta) g tt te vs σ H Q ↔ ta σ H fun ws H1 => ∃ a b xs ys, ws = [.ref a, .ref b] ∧ ((SqL K H1 a xs ∧ SqL K H1 b ys ∧ ∀ D, H1 D = none → Lcp (Itz K a b) g tt te vs σ D H1 Q) ∨
  (SqT K H1 a xs ∧ SqT K H1 b ys ∧ ∀ D, H1 D = none → Lcp (ItzT K a b) g tt te vs σ D H1 Q)) := Iff.rfl
theorem x_forZ : tFor (iZipA K ta) g tb N σ H ↔ ta σ H fun ws H1 => ∃ a b xs ys, ws = [.ref a, .ref b] ∧ ((SqL K H1 a xs ∧ SqL K H1 b ys ∧ Lp (Itz K a b) g tb N σ H1) ∨ (SqT K H1 a xs ∧ SqT K H1 b ys ∧ Lp (ItzT K a b) g tb N σ H1)) := Iff.rfl
theorem x_star {Q : List V → Hp → Prop} : StX.tStar K te t σ H Q ↔ te σ H fun x H1 => ∃ p xs, x = V.ref p ∧ (SqT K H1 p xs ∨ SqL K H1 p xs) ∧ t σ H1 fun ys H2 => Q (xs ++ ys) H2 := Iff.rfl
theorem x_lcE : tLc (iEnum K ta) g tt te vs σ H Q ↔ ta σ H fun ws H1 => ∃ a xs, ws = [.ref a] ∧ SqL K H1 a xs ∧ ∀ D, H1 D = none → Lcp (Ite K a) g tt te vs σ D H1 Q := Iff.rfl
theorem lcE (Pv : Nat → Hp → Prop) (h0 : Pv 0 (upd H D (.lst []))) (hl : ∀ i H, Pv i H → SqL K H a xs)
    (hs : ∀ i x T H, xs[i]? = some x → Pv i H → H T = none → g (.ref T) (wipe σ vs) (upd H T (.tup [.int (i : Nat), x])) fun σ2 H2 => wipe σ2 vs = wipe σ vs ∧ tt σ2 H2 fun b H3 =>
      if b = true then te σ2 H3 fun y H4 => ∃ acc, H4 D = some (.lst acc) ∧ acc.length < sizeLine ∧ Pv (i + 1) (upd H4 D (.lst (acc ++ [y]))) else Pv (i + 1) H3) (hd : ∀ H, Pv xs.length H → Q (.ref D) H) : Lcp (Ite K a) g tt te vs σ D H Q := by
  refine ⟨fun i m H => m = xs.length - i ∧ i ≤ xs.length ∧ Pv i H, ⟨_, rfl, Nat.zero_le _, h0⟩, ?_⟩
  rintro i m H ⟨rfl, hi, p⟩
  have q := hl i H p
  by_cases lt : i < xs.length
  · refine .inr ⟨⟨xs, xs[i], q, List.getElem?_eq_getElem lt⟩, Pv (i + 1), fun H' p' => ⟨xs.length - (i + 1), by omega, rfl, lt, p'⟩, fun x H' y => ?_⟩
    obtain ⟨T, z, rfl, nT, rfl, f⟩ := y
    exact hs i z T H (f xs q) p nT
  · have e : i = xs.length := by omega
    subst e
    exact .inl ⟨⟨xs, q, Nat.le_refl _⟩, hd H p⟩
theorem x_lcT {tl : TE} : tLc (iTup K tl) g tt te vs σ H Q ↔ tl σ H fun x H1 => ∃ a, x = .ref a ∧ (∃ xs, SqT K H1 a xs) ∧ ∀ D, H1 D = none → Lcp (Itt K a) g tt te vs σ D H1 Q := Iff.rfl
theorem lcT (Pv : Nat → Hp → Prop) (h0 : Pv 0 (upd H D (.lst []))) (hl : ∀ i H, Pv i H → SqT K H a xs)
    (hs : ∀ i x H, xs[i]? = some x → Pv i H → g x (wipe σ vs) H fun σ2 H2 => wipe σ2 vs = wipe σ vs ∧ tt σ2 H2 fun b H3 =>
      if b = true then te σ2 H3 fun y H4 => ∃ acc, H4 D = some (.lst acc) ∧ acc.length < sizeLine ∧ Pv (i + 1) (upd H4 D (.lst (acc ++ [y]))) else Pv (i + 1) H3) (hd : ∀ H, Pv xs.length H → Q (.ref D) H) : Lcp (Itt K a) g tt te vs σ D H Q := by
  refine ⟨fun i m H => m = xs.length - i ∧ i ≤ xs.length ∧ Pv i H, ⟨_, rfl, Nat.zero_le _, h0⟩, ?_⟩
  rintro i m H ⟨rfl, hi, p⟩
  have q := hl i H p
  by_cases lt : i < xs.length
  · refine .inr ⟨⟨xs, xs[i], q, List.getElem?_eq_getElem lt⟩, Pv (i + 1), fun H' p' => ⟨xs.length - (i + 1), by omega, rfl, lt, p'⟩, fun x H' y => ?_⟩
    obtain ⟨e, y⟩ := y
    subst e
    exact hs i x _ (y xs q) p
  · have e : i = xs.length := by omega
    subst e
    exact .inl ⟨⟨xs, q, Nat.le_refl _⟩, hd H p⟩
theorem lcZ (Pv : Nat → Hp → Prop) (h0 : Pv 0 (upd H D (.lst []))) (hq : ∀ i H, Pv i H → SqT K H a xs ∧ SqT K H b ys)
    (hs : ∀ i x y T H, xs[i]? = some x → ys[i]? = some y → Pv i H → H T = none → g (.ref T) (wipe σ vs) (upd H T (.tup [x, y])) fun σ2 H2 => wipe σ2 vs = wipe σ vs ∧ tt σ2 H2 fun b H3 =>
      if b = true then te σ2 H3 fun y H4 => ∃ acc, H4 D = some (.lst acc) ∧ acc.length < sizeLine ∧ Pv (i + 1) (upd H4 D (.lst (acc ++ [y]))) else Pv (i + 1) H3)
    (hd : ∀ H, Pv (min xs.length ys.length) H → Q (.ref D) H) : Lcp (ItzT K a b) g tt te vs σ D H Q := by
  refine ⟨fun i m H => m = min xs.length ys.length - i ∧ i ≤ min xs.length ys.length ∧ Pv i H, ⟨_, rfl, Nat.zero_le _, h0⟩, ?_⟩
  rintro i m H ⟨rfl, hi, p⟩
  obtain ⟨qx, qy⟩ := hq i H p
  by_cases lt : i < min xs.length ys.length
  · have hx : xs[i]? = some (xs[i]'(by omega)) := List.getElem?_eq_getElem _
    have hy : ys[i]? = some (ys[i]'(by omega)) := List.getElem?_eq_getElem _
    refine .inr ⟨⟨xs, ys, _, _, qx, qy, hx, hy⟩, Pv (i + 1), fun H' p' => ⟨min xs.length ys.length - (i + 1), by omega, rfl, lt, p'⟩, fun v H' y => ?_⟩
    obtain ⟨T, x', y', rfl, nT, rfl, f1, f2⟩ := y
    exact hs i x' y' T H (f1 xs qx) (f2 ys qy) p nT
  · have e : i = min xs.length ys.length := by omega
    subst e
    exact .inl ⟨⟨xs, ys, qx, qy, by omega⟩, hd H p⟩
theorem lpZ (Pv : Nat → L2.St → Hp → Prop) (h0 : Pv 0 σ H) (hq : ∀ i σ H, Pv i σ H → SqT K H a xs ∧ SqT K H b ys)
    (hs : ∀ i x y T σ H, xs[i]? = some x → ys[i]? = some y → Pv i σ H → H T = none → g (.ref T) σ (upd H T (.tup [x, y])) fun σ2 H2 => tb { N with nx := Pv (i + 1), ct := Pv (i + 1), bk := N.nx } σ2 H2)
    (hd : ∀ σ H, Pv (min xs.length ys.length) σ H → N.nx σ H) : Lp (ItzT K a b) g tb N σ H := by
  refine ⟨fun i m σ H => m = min xs.length ys.length - i ∧ i ≤ min xs.length ys.length ∧ Pv i σ H, ⟨_, rfl, Nat.zero_le _, h0⟩, ?_⟩
  rintro i m σ H ⟨rfl, hi, p⟩
  obtain ⟨qx, qy⟩ := hq i σ H p
  by_cases lt : i < min xs.length ys.length
  · have hx : xs[i]? = some (xs[i]'(by omega)) := List.getElem?_eq_getElem _
    have hy : ys[i]? = some (ys[i]'(by omega)) := List.getElem?_eq_getElem _
    refine .inr ⟨⟨xs, ys, _, _, qx, qy, hx, hy⟩, Pv (i + 1), fun σ' H' p' => ⟨min xs.length ys.length - (i + 1), by omega, rfl, lt, p'⟩, fun v H' y => ?_⟩
    obtain ⟨T, x', y', rfl, nT, rfl, f1, f2⟩ := y
    exact hs i x' y' T σ H (f1 xs qx) (f2 ys qy) p nT
  · have e : i = min xs.length ys.length := by omega
    subst e
    exact .inl ⟨⟨xs, ys, qx, qy, by omega⟩, hd σ H p⟩
end
section
variable {K : PySem.W.Frag} {H : Hp} {Q : VK}
theorem x_allB {a : Addr} {bs : List Bool} (h : SqL K H a (bs.map V.bl)) (q : Q (.bl (bs.all id)) H) : rAll K [.ref a] H Q := ⟨a, bs, rfl, h, q⟩
end
end Cc

set_option Elab.async false
set_option linter.all false
set_option maxRecDepth 100000
set_option maxHeartbeats 4000000
/-! list.count of flat values. -/
namespace Cc
open PySem PySem.Spec PyProof.Rows L2
theorem cnt_eq {y : V} : ∀ {ys : List V} {us : List Value}, Vals ys us → ys.all flatV = true → us.countP (eqU y) = ys.countP fun z => eqV z y
  | _, _, .nil, _ => rfl
  | _, _, .cons r t, f => by
    rw [List.all_cons, Bool.and_eq_true] at f
    rw [List.countP_cons, List.countP_cons, cnt_eq t f.2, eqU_of r f.1]
def rCntF (K : PySem.W.Frag) : V → List V → Hp → VK → Prop := fun x xs H Q => ∃ (p : Addr) (ys : List V) (y : V), x = .ref p ∧ xs = [y] ∧ SqL K H p ys ∧ flatV y = true ∧ ys.all flatV = true ∧ Q (.int (ys.countP (fun z => eqV z y) : Nat)) H
section
variable {X : Cx}
theorem mt_cntF : MtR X "list.count" (rCntF X.K) := by
  intro pins s σ H x xs v us Q I rx rxs h
  obtain ⟨p, ys, y, rfl, rfl, hs, fy, fys, q⟩ := h
  cases rx
  obtain ⟨u, rfl, ru⟩ := rxs.one
  obtain ⟨its, rv, ⟨⟨c1, d1, b1, l1⟩, n, ho, h1, h2, h3⟩, hz⟩ := I.list hs
  simp only at h1 h3
  subst h1 h3
  refine call_meets PySem.F.slot_list_count ⟨_, ho, rfl⟩ PySem.F.entry_list_count (PySem.F.args_list_count_2 _ _) (SeqAt.list_countAt p its.toArray n d1 l1 u (eqU y)) ⟨ho, fun w hw => mem_eqAt ru fy rv fys w (by simpa using hw), ?_⟩
  refine ⟨.int (ys.countP (fun z => eqV z y) : Nat), H, I.tok _, ⟨s.toks, ?_⟩, q⟩
  show Value.int ((its.toArray.toList.countP (eqU y) : Nat) : Int) s.toks = _
  rw [show its.toArray.toList = its from rfl, cnt_eq rv fys]
end
end Cc

set_option Elab.async false
set_option linter.all false
set_option maxRecDepth 100000
set_option maxHeartbeats 4000000
/-! The pure layer: slots hold data, not addresses. -/
namespace Cc
open PySem PySem.Spec PyProof.Rows L2

/-! ### data, tracked -/
mutual
inductive Dq (K : PySem.W.Frag) (F : Hp) : V → PyData → Prop
  | non : Dq K F .non .none
  | bl (b : Bool) : Dq K F (.bl b) (.bool b)
  | int (i : Int) : Dq K F (.int i) (.int i)
  | str (x : Str) : Dq K F (.str x) (.str x)
  | lst {a : Addr} {xs : List V} {ds : List PyData} : F a = some (.lst xs) → DqAll K F xs ds → Dq K F (.ref a) (.list ds)
  | tup {a : Addr} {xs : List V} {ds : List PyData} : SqT K F a xs → DqAll K F xs ds → Dq K F (.ref a) (.tuple ds)
inductive DqAll (K : PySem.W.Frag) (F : Hp) : List V → List PyData → Prop
  | nil : DqAll K F [] []
  | cons {v : V} {vs : List V} {d : PyData} {ds : List PyData} : Dq K F v d → DqAll K F vs ds → DqAll K F (v :: vs) (d :: ds)
end
section
variable {K : PySem.W.Frag} {F F' : Hp}
mutual
theorem Dq.same (e : Same F F') : ∀ (d : PyData) {v : V}, Dq K F v d → Dq K F' v d
  | .none, _, h => by cases h; exact .non
  | .bool b, _, h => by cases h; exact .bl b
  | .int i, _, h => by cases h; exact .int i
  | .str x, _, h => by cases h; exact .str x
  | .list ds, _, h => by
    cases h with
    | lst hs ha => exact .lst (e _ _ hs) (DqAll.same e ds ha)
  | .tuple ds, _, h => by
    cases h with
    | tup hs ha => exact .tup (Same.tup e hs) (DqAll.same e ds ha)
  | .dict _, _, h => by cases h
theorem DqAll.same (e : Same F F') : ∀ (ds : List PyData) {vs : List V}, DqAll K F vs ds → DqAll K F' vs ds
  | [], _, h => by cases h; exact .nil
  | d :: ds, _, h => by
    cases h with
    | cons h1 h2 => exact .cons (Dq.same e d h1) (DqAll.same e ds h2)
end
mutual
theorem Dq.dp : ∀ (d : PyData) {v : V}, Dq K F v d → Dp K F v d
  | .none, _, h => by cases h; exact .non
  | .bool b, _, h => by cases h; exact .bl b
  | .int i, _, h => by cases h; exact .int i
  | .str x, _, h => by cases h; exact .str x
  | .list ds, _, h => by
    cases h with
    | lst hs ha => exact .lst (.of hs) (DqAll.dp ds ha)
  | .tuple ds, _, h => by
    cases h with
    | tup hs ha => exact .tup hs (DqAll.dp ds ha)
  | .dict _, _, h => by cases h
theorem DqAll.dp : ∀ (ds : List PyData) {vs : List V}, DqAll K F vs ds → DpAll K F vs ds
  | [], _, h => by cases h; exact .nil
  | d :: ds, _, h => by
    cases h with
    | cons h1 h2 => exact .cons (Dq.dp d h1) (DqAll.dp ds h2)
end
theorem DqAll.len {vs : List V} {ds : List PyData} (h : DqAll K F vs ds) : vs.length = ds.length := by
  induction ds generalizing vs with
  | nil => cases h; rfl
  | cons d ds ih => cases h with | cons _ h2 => exact congrArg (· + 1) (ih h2)
theorem DqAll.get {vs : List V} {ds : List PyData} (h : DqAll K F vs ds) : ∀ {i : Nat} {d : PyData}, ds[i]? = some d → ∃ v, vs[i]? = some v ∧ Dq K F v d := by
  induction ds generalizing vs with
  | nil => intro i d e; simp at e
  | cons d ds ih =>
    cases h with
    | cons h1 h2 =>
      intro i d' e
      cases i with
      | zero => simp at e; subst e; exact ⟨_, rfl, h1⟩
      | succ i => exact ih h2 (by simpa using e)
theorem DqAll.getV {vs : List V} {ds : List PyData} (h : DqAll K F vs ds) : ∀ {i : Nat} {v : V}, vs[i]? = some v → ∃ d, ds[i]? = some d ∧ Dq K F v d := by
  induction ds generalizing vs with
  | nil => cases h; intro i d e; simp at e
  | cons d ds ih =>
    cases h with
    | cons h1 h2 =>
      intro i d' e
      cases i with
      | zero => simp at e; subst e; exact ⟨_, rfl, h1⟩
      | succ i => exact ih h2 (by simpa using e)
theorem DqAll.app {vs ws : List V} {ds es : List PyData} (h : DqAll K F vs ds) (h' : DqAll K F ws es) : DqAll K F (vs ++ ws) (ds ++ es) := by
  induction ds generalizing vs with
  | nil => cases h; exact h'
  | cons d ds ih => cases h with | cons h1 h2 => exact .cons h1 (ih h2)
theorem DqAll.one {v : V} {d : PyData} (h : Dq K F v d) : DqAll K F [v] [d] := .cons h .nil
theorem DqAll.set {vs : List V} {ds : List PyData} {v : V} {d : PyData} (h : DqAll K F vs ds) (hv : Dq K F v d) : ∀ i, DqAll K F (vs.set i v) (ds.set i d) := by
  induction ds generalizing vs with
  | nil => cases h; intro i; exact .nil
  | cons d' ds ih =>
    cases h with
    | cons h1 h2 =>
      intro i
      cases i with
      | zero => exact .cons hv h2
      | succ i => exact .cons h1 (ih h2 i)
theorem DqAll.take {vs : List V} {ds : List PyData} (h : DqAll K F vs ds) : ∀ i, DqAll K F (vs.take i) (ds.take i) := by
  induction ds generalizing vs with
  | nil => cases h; intro i; simp; exact .nil
  | cons d' ds ih =>
    cases h with
    | cons h1 h2 =>
      intro i
      cases i with
      | zero => exact .nil
      | succ i => exact .cons h1 (ih h2 i)
theorem DqAll.drop {vs : List V} {ds : List PyData} (h : DqAll K F vs ds) : ∀ i, DqAll K F (vs.drop i) (ds.drop i) := by
  induction ds generalizing vs with
  | nil => cases h; intro i; simp; exact .nil
  | cons d' ds ih =>
    cases h with
    | cons h1 h2 =>
      intro i
      cases i with
      | zero => exact .cons h1 h2
      | succ i => exact ih h2 i
theorem DqAll.rev {vs : List V} {ds : List PyData} (h : DqAll K F vs ds) : DqAll K F vs.reverse ds.reverse := by
  induction ds generalizing vs with
  | nil => cases h; exact .nil
  | cons d ds ih => cases h with | cons h1 h2 => rw [List.reverse_cons, List.reverse_cons]; exact (ih h2).app (.one h1)
def cutA {α : Type} (xs : List α) (lo hi : Option Int) : List α := (xs.drop (HT.sIx xs.length 0 lo)).take (HT.sIx xs.length xs.length hi - HT.sIx xs.length 0 lo)
theorem DqAll.cut {vs : List V} {ds : List PyData} (h : DqAll K F vs ds) (lo hi : Option Int) : DqAll K F (cutV vs lo hi) (cutA ds lo hi) := by
  unfold cutV cutA
  rw [h.len]
  exact (h.drop _).take _
theorem DqAll.dropLast {vs : List V} {ds : List PyData} (h : DqAll K F vs ds) : DqAll K F vs.dropLast ds.dropLast := by
  rw [List.dropLast_eq_take, List.dropLast_eq_take, h.len]
  exact h.take _
theorem DqAll.ints {vs : List V} : ∀ {ns : List Int}, DqAll K F vs (ns.map PyData.int) → vs = ns.map V.int := by
  intro ns
  induction ns generalizing vs with
  | nil => intro h; cases h; rfl
  | cons n ns ih =>
    intro h
    cases h with
    | cons h1 h2 => cases h1; rw [ih h2]; rfl
theorem DqAll.bools {vs : List V} : ∀ {ns : List Bool}, DqAll K F vs (ns.map PyData.bool) → vs = ns.map V.bl := by
  intro ns
  induction ns generalizing vs with
  | nil => intro h; cases h; rfl
  | cons n ns ih =>
    intro h
    cases h with
    | cons h1 h2 => cases h1; rw [ih h2]; rfl
theorem dqInts : ∀ ns : List Int, DqAll K F (ns.map V.int) (ns.map PyData.int)
  | [] => .nil
  | n :: ns => .cons (.int n) (dqInts ns)
theorem dqBools : ∀ ns : List Bool, DqAll K F (ns.map V.bl) (ns.map PyData.bool)
  | [] => .nil
  | n :: ns => .cons (.bl n) (dqBools ns)
end

/-! ### what a slot holds -/
inductive A where
  | d (x : PyData)
  | exc (c : Nat) (x : PyData)
  | spr (S : Spr)
  | scr (ns : List Int)
inductive Sl where
  | un
  | own (ds : List PyData)
  | rng (n : Nat)
  | a (x : A)
/-- the draws' object: footprint, address, heap, how many draws at most -/
structure RngI where
  at_ : (Addr → Prop) → Addr → Hp → Nat → Prop
  stay : ∀ {R : Addr → Prop} {r : Addr} {H H' : Hp} {n : Nat}, at_ R r H n → (∀ b o, R b → H b = some o → H' b = some o) → at_ R r H' n
structure Gx where
  K : PySem.W.Frag
  C : Nat → Addr
  S : Addr
  I : RngI
structure Fr where
  M : Addr → Prop
  R : Addr → Prop
  r : Addr
  ri : Nat
  F0 : Hp
  H0 : Hp
def Rp (Γ : Gx) (F : Hp) (v : V) : A → Prop
  | .d x => Dq Γ.K F v x
  | .exc c x => ∃ a d u, v = .ref a ∧ F a = some (exT a (.ref (Γ.C c)) (some d)) ∧ F d = some (.xd [("value", u)]) ∧ Dq Γ.K F u x
  | .spr S => ∃ p l, v = .ref p ∧ SpAt Γ.K Γ.S F p l S
  | .scr ns => ∃ a, v = .ref a ∧ SqL Γ.K F a (ns.map V.int)
def RpAll (Γ : Gx) (F : Hp) : List V → List A → Prop
  | [], [] => True
  | v :: vs, x :: xs => Rp Γ F v x ∧ RpAll Γ F vs xs
  | _, _ => False
theorem Rp.same {Γ : Gx} {F F' : Hp} (e : Same F F') {v : V} : ∀ {x : A}, Rp Γ F v x → Rp Γ F' v x
  | .d x, h => Dq.same e x h
  | .exc c x, ⟨a, d, u, h0, h1, h2, h3⟩ => ⟨a, d, u, h0, e _ _ h1, e _ _ h2, Dq.same e x h3⟩
  | .spr S, ⟨p, l, h0, h1⟩ => ⟨p, l, h0, h1.same e⟩
  | .scr ns, ⟨a, h0, h1⟩ => ⟨a, h0, e.seq h1⟩
theorem RpAll.same {Γ : Gx} {F F' : Hp} (e : Same F F') : ∀ {vs : List V} {xs : List A}, RpAll Γ F vs xs → RpAll Γ F' vs xs
  | [], [], h => h
  | _ :: _, _ :: _, ⟨h1, h2⟩ => ⟨h1.same e, RpAll.same e h2⟩
  | [], _ :: _, h => h
  | _ :: _, [], h => h
theorem RpAll.len {Γ : Gx} {F : Hp} : ∀ {vs : List V} {xs : List A}, RpAll Γ F vs xs → vs.length = xs.length
  | [], [], h => rfl
  | _ :: _, _ :: _, ⟨_, h2⟩ => congrArg (· + 1) (RpAll.len h2)
  | [], _ :: _, h => h.elim
  | _ :: _, [], h => h.elim
def OwnA (σ : L2.St) (ρ : List Sl) (b : Addr) : Prop := ∃ (i : Nat) (ds : List PyData), ρ[i]? = some (.own ds) ∧ σ[i]? = some (some (.ref b))
def SlR (Γ : Gx) (f : Fr) (F H : Hp) (i : Nat) (v : Option (Option V)) : Sl → Prop
  | .un => True
  | .a x => ∃ u, v = some (some u) ∧ Rp Γ F u x
  | .own ds => ∃ a xs, v = some (some (.ref a)) ∧ H a = some (.lst xs) ∧ DqAll Γ.K F xs ds ∧ F a = none ∧ (f.H0 a = none ∨ f.M a)
  | .rng n => (i = f.ri ∧ v = some (some (.ref f.r))) ∧ Γ.I.at_ f.R f.r H n
/-- what a known object leans on is known -/
def okO (F : Hp) (a : Addr) : HO → Prop
  | .ins _ dx _ => F dx = some (.own a)
  | .own x => F x ≠ none
  | .dT _ => False
  | .frz _ u => (∃ xs, u = .lst xs) ∨ ∃ xs, u = .tup xs
  | _ => True
def smpl : HO → Prop
  | .ins _ _ _ => False
  | .own _ => False
  | .dT _ => False
  | .frz _ u => (∃ xs, u = .lst xs) ∨ ∃ xs, u = .tup xs
  | _ => True
theorem okO.of {F : Hp} {a : Addr} {o : HO} (h : smpl o) : okO F a o := by
  cases o <;> first | exact trivial | exact h | exact h.elim
theorem okO.same {F F' : Hp} {a : Addr} {o : HO} (s : Same F F') (h : okO F a o) : okO F' a o := by
  cases o <;> first | exact trivial | exact (h : False).elim | skip
  · exact s _ _ h
  · rename_i x
    have h : F x ≠ none := h
    show F' x ≠ none
    intro z
    cases e : F x with
    | none => exact h e
    | some o => rw [s _ _ e] at z; cases z
  · exact h
structure Ent (Γ : Gx) (f : Fr) (F H : Hp) (σ : L2.St) (ρ : List Sl) : Prop where
  s0 : Same f.F0 F
  s1 : Same F H
  new : ∀ b o, F b = some o → f.F0 b = some o ∨ f.H0 b = none ∨ f.M b
  chg : ∀ b o, f.H0 b = some o → ¬ f.M b → H b = some o
  liv : ∀ b, H b = none → f.H0 b = none
  len : σ.length = ρ.length
  sl : ∀ (i : Nat) (s : Sl), ρ[i]? = some s → SlR Γ f F H i σ[i]? s
  dis : ∀ (i j : Nat) (a : Addr) (ds es : List PyData), ρ[i]? = some (.own ds) → ρ[j]? = some (.own es) → σ[i]? = some (some (.ref a)) → σ[j]? = some (some (.ref a)) → i = j
  rm : ∀ b, f.R b → f.M b
  rF : ∀ b, f.R b → F b = none
  rl : ∀ b, f.R b → H b ≠ none
  ro : ∀ b, f.R b → ¬ OwnA σ ρ b
  ml : ∀ b, f.M b → f.H0 b ≠ none
  cl : ∀ a o, F a = some o → okO F a o
section
variable {Γ : Gx} {f : Fr} {F H F' H' : Hp} {σ σ' : L2.St} {ρ ρ' : List Sl} {p a : Addr} {o : HO} {i : Nat} {x : A} {v : V} {ds es : List PyData} {xs : List V}
theorem same_updF (h : F p = none) : Same F (upd F p o) := fun b u e => by rw [upd_ne (ne_of_none e h)]; exact e
theorem Ent.fnone (E : Ent Γ f F H σ ρ) (h : H p = none) : F p = none := by
  cases e : F p with
  | none => rfl
  | some u => rw [E.s1 _ _ e] at h; cases h
theorem Ent.notOwn (E : Ent Γ f F H σ ρ) (h : H p = none) : ¬ OwnA σ ρ p := fun ⟨i, ds, h1, h2⟩ => by
  obtain ⟨a, xs, e1, e2, _⟩ := E.sl i _ h1
  rw [h2] at e1
  cases e1
  rw [h] at e2
  cases e2
/-- the slots as they stand, in heaps that have more -/
theorem SlR.more {v : Option (Option V)} : ∀ {s : Sl}, SlR Γ f F H i v s → Same F F' → (∀ a, v = some (some (.ref a)) → (∃ ds, s = .own ds) → F' a = none ∧ ∀ o, H a = some o → H' a = some o) → (∀ b o, f.R b → H b = some o → H' b = some o) → SlR Γ f F' H' i v s
  | .un, _, _, _, _ => trivial
  | .a x, ⟨u, h1, h2⟩, e, _, _ => ⟨u, h1, h2.same e⟩
  | .own ds, ⟨a, xs, h1, h2, h3, h4, h5⟩, e, k, _ => by
    obtain ⟨k1, k2⟩ := k a h1 ⟨ds, rfl⟩
    exact ⟨a, xs, h1, k2 _ h2, DqAll.same e ds h3, k1, h5⟩
  | .rng n, ⟨h1, h2⟩, _, _, k => ⟨h1, Γ.I.stay h2 k⟩
/-- a new object is laid and known -/
theorem Ent.alloc (E : Ent Γ f F H σ ρ) (h : H p = none) (hs : smpl o := by exact trivial) : Ent Γ f (upd F p o) (upd H p o) σ ρ := by
  have hF := E.fnone h
  have sF := same_updF (o := o) hF
  have sH := same_updF (o := o) h
  refine ⟨E.s0.trans sF, fun b u e => ?_, fun b u e => ?_, fun b u e m => sH _ _ (E.chg b u e m), fun b e => ?_, E.len, fun i s hi => (E.sl i s hi).more sF (fun a ha ⟨ds, hs⟩ => ?_) (fun b o _ e => sH _ _ e), E.dis, E.rm, fun b hb => ?_, fun b hb => ?_, E.ro, E.ml, fun b u e => ?_⟩
  · by_cases hb : b = p
    · rw [hb, upd_same] at e ⊢; exact e
    · rw [upd_ne hb] at e ⊢; exact E.s1 _ _ e
  · by_cases hb : b = p
    · rw [hb]; exact .inr (.inl (E.liv p h))
    · rw [upd_ne hb] at e; exact E.new b u e
  · by_cases hb : b = p
    · rw [hb, upd_same] at e; cases e
    · rw [upd_ne hb] at e; exact E.liv b e
  · subst hs
    obtain ⟨a', xs, e1, e2, _, e4, _⟩ := E.sl i _ hi
    rw [ha] at e1
    cases e1
    have hne := ne_of_none e2 h
    rw [upd_ne hne]
    exact ⟨e4, fun o q => sH _ _ q⟩
  · have hne : b ≠ p := fun z => E.rl b hb (by rw [z]; exact h)
    rw [upd_ne hne]
    exact E.rF b hb
  · have hne : b ≠ p := fun z => E.rl b hb (by rw [z]; exact h)
    rw [upd_ne hne]
    exact E.rl b hb
  · by_cases hb : b = p
    · rw [hb, upd_same] at e; cases e; exact .of hs
    · rw [upd_ne hb] at e; exact (E.cl b u e).same sF
/-- a new object is laid, not yet known -/
theorem Ent.raw (E : Ent Γ f F H σ ρ) (h : H p = none) : Ent Γ f F (upd H p o) σ ρ := by
  have sH := same_updF (o := o) h
  refine ⟨E.s0, E.s1.trans sH, E.new, fun b u e m => sH _ _ (E.chg b u e m), fun b e => ?_, E.len, fun i s hi => (E.sl i s hi).more (Same.refl _) (fun a ha ⟨ds, hs⟩ => ?_) (fun b o _ e => sH _ _ e), E.dis, E.rm, E.rF, fun b hb => ?_, E.ro, E.ml, E.cl⟩
  · by_cases hb : b = p
    · rw [hb, upd_same] at e; cases e
    · rw [upd_ne hb] at e; exact E.liv b e
  · subst hs
    obtain ⟨a', xs, e1, e2, _, e4, _⟩ := E.sl i _ hi
    rw [ha] at e1
    cases e1
    exact ⟨e4, fun o q => sH _ _ q⟩
  · have hne : b ≠ p := fun z => E.rl b hb (by rw [z]; exact h)
    rw [upd_ne hne]
    exact E.rl b hb
/-- an object that no slot owns and that is not known is changed -/
theorem Ent.poke (E : Ent Γ f F H σ ρ) (hF : F p = none) (h0 : f.H0 p = none ∨ f.M p) (hO : ¬ OwnA σ ρ p) (hR : ¬ f.R p) : Ent Γ f F (upd H p o) σ ρ := by
  refine ⟨E.s0, fun b u e => ?_, E.new, fun b u e m => ?_, fun b e => ?_, E.len, fun i s hi => (E.sl i s hi).more (Same.refl _) (fun a ha ⟨ds, hs⟩ => ?_) (fun b o hb e => ?_), E.dis, E.rm, E.rF, fun b hb => ?_, E.ro, E.ml, E.cl⟩
  · rw [upd_ne (ne_of_none e hF)]; exact E.s1 _ _ e
  · have hne : b ≠ p := fun z => by
      rw [z] at e m
      rcases h0 with h0 | h0
      · rw [h0] at e; cases e
      · exact m h0
    rw [upd_ne hne]
    exact E.chg b u e m
  · by_cases hb : b = p
    · rw [hb, upd_same] at e; cases e
    · rw [upd_ne hb] at e; exact E.liv b e
  · subst hs
    obtain ⟨a', xs, e1, e2, _, e4, _⟩ := E.sl i _ hi
    have hne : a ≠ p := fun z => hO ⟨i, ds, hi, by rw [ha, z]⟩
    rw [ha] at e1
    cases e1
    rw [upd_ne hne]
    exact ⟨e4, fun o q => q⟩
  · rw [upd_ne (fun z => by rw [z] at hb; exact hR hb)]; exact e
  · rw [upd_ne (fun z => by rw [z] at hb; exact hR hb)]; exact E.rl b hb
/-- such an object becomes known -/
theorem Ent.fz (E : Ent Γ f F H σ ρ) (hF : F p = none) (hH : H p = some o) (h0 : f.H0 p = none ∨ f.M p) (hO : ¬ OwnA σ ρ p) (hR : ¬ f.R p) (hs : smpl o := by exact trivial) : Ent Γ f (upd F p o) H σ ρ := by
  have sF := same_updF (o := o) hF
  refine ⟨E.s0.trans sF, fun b u e => ?_, fun b u e => ?_, E.chg, E.liv, E.len, fun i s hi => (E.sl i s hi).more sF (fun a ha ⟨ds, hs⟩ => ?_) (fun b o _ e => e), E.dis, E.rm, fun b hb => ?_, E.rl, E.ro, E.ml, fun b u e => ?_⟩
  · by_cases hb : b = p
    · rw [hb, upd_same] at e; cases e; rw [hb]; exact hH
    · rw [upd_ne hb] at e; exact E.s1 _ _ e
  · by_cases hb : b = p
    · rw [hb]; rcases h0 with h0 | h0
      · exact .inr (.inl h0)
      · exact .inr (.inr h0)
    · rw [upd_ne hb] at e; exact E.new b u e
  · subst hs
    obtain ⟨a', xs, e1, e2, _, e4, _⟩ := E.sl i _ hi
    have hne : a ≠ p := fun z => hO ⟨i, ds, hi, by rw [ha, z]⟩
    rw [ha] at e1
    cases e1
    rw [upd_ne hne]
    exact ⟨e4, fun o q => q⟩
  · rw [upd_ne (fun z => by rw [z] at hb; exact hR hb)]; exact E.rF b hb
  · by_cases hb : b = p
    · rw [hb, upd_same] at e; cases e; exact .of hs
    · rw [upd_ne hb] at e; exact (E.cl b u e).same sF
theorem own_set {w : Option V} {s : Sl} {b : Addr} (h : OwnA (σ.set i w) (ρ.set i s) b) : OwnA σ ρ b ∨ ((∃ ds, s = .own ds) ∧ w = some (.ref b)) := by
  obtain ⟨j, ds, h1, h2⟩ := h
  rw [List.getElem?_set] at h1 h2
  by_cases hj : i = j
  · rw [if_pos hj] at h1 h2
    split at h1
    · split at h2
      · cases h1; cases h2; exact .inr ⟨⟨ds, rfl⟩, rfl⟩
      · cases h2
    · cases h1
  · rw [if_neg hj] at h1 h2
    exact .inl ⟨j, ds, h1, h2⟩
/-- slot i is set to something that it does not own -/
theorem Ent.put (E : Ent Γ f F H σ ρ) {w : Option V} {s : Sl} (hs : ∀ ds, s ≠ .own ds) (h : i < σ.length → SlR Γ f F H i (some w) s) : Ent Γ f F H (σ.set i w) (ρ.set i s) := by
  refine ⟨E.s0, E.s1, E.new, E.chg, E.liv, by rw [List.length_set, List.length_set]; exact E.len, fun j s' hj => ?_, fun j k a ds es h1 h2 h3 h4 => ?_, E.rm, E.rF, E.rl, fun b hb ho => ?_, E.ml, E.cl⟩
  · rw [List.getElem?_set] at hj ⊢
    by_cases hij : i = j
    · rw [if_pos hij] at hj ⊢
      split at hj
      · rename_i hl
        cases hj
        have hl' : j < σ.length := by rw [E.len]; exact hij ▸ hl
        rw [if_pos (hij ▸ hl')]
        subst hij
        exact h hl'
      · cases hj
    · rw [if_neg hij] at hj ⊢
      exact E.sl j s' hj
  · rw [List.getElem?_set] at h1 h2 h3 h4
    by_cases hij : i = j
    · rw [if_pos hij] at h1
      split at h1
      · cases h1; exact absurd rfl (hs _)
      · cases h1
    · by_cases hik : i = k
      · rw [if_pos hik] at h2
        split at h2
        · cases h2; exact absurd rfl (hs _)
        · cases h2
      · rw [if_neg hij] at h1 h3
        rw [if_neg hik] at h2 h4
        exact E.dis j k a ds es h1 h2 h3 h4
  · rcases own_set ho with ho | ⟨⟨ds, e⟩, _⟩
    · exact E.ro b hb ho
    · exact hs ds e
theorem set_self {α : Type} {l : List α} {i : Nat} {w : α} (h : l[i]? = some w) : l.set i w = l := by
  apply List.ext_getElem?
  intro j
  rw [List.getElem?_set]
  by_cases hij : i = j
  · subst hij
    rw [if_pos rfl]
    split
    · exact h.symm
    · rename_i hl
      rw [List.getElem?_eq_none (by omega)] at h; cases h
  · rw [if_neg hij]
theorem Ent.setA (E : Ent Γ f F H σ ρ) (h : Rp Γ F v x) : Ent Γ f F H (σ.set i (some v)) (ρ.set i (.a x)) := E.put (fun _ => nofun) fun _ => ⟨v, rfl, h⟩
/-- slot i is no longer known -/
theorem Ent.setU (E : Ent Γ f F H σ ρ) {w : Option V} : Ent Γ f F H (σ.set i w) (ρ.set i .un) := E.put (fun _ => nofun) fun _ => trivial
theorem Ent.forget (E : Ent Γ f F H σ ρ) : Ent Γ f F H σ (ρ.set i .un) := by
  by_cases hi : i < σ.length
  · have := E.setU (i := i) (w := σ[i])
    rwa [set_self (List.getElem?_eq_getElem hi)] at this
  · rw [List.set_eq_of_length_le (by rw [← E.len]; omega)]
    exact E
/-- slot i is known as x where it stands -/
theorem Ent.same_as (E : Ent Γ f F H σ ρ) (hi : σ[i]? = some (some v)) (h : Rp Γ F v x) : Ent Γ f F H σ (ρ.set i (.a x)) := by
  have := E.setA (i := i) h
  rwa [set_self hi] at this
/-- slot i owns a list -/
theorem Ent.setO (E : Ent Γ f F H σ ρ) (hH : H a = some (.lst xs)) (hD : DqAll Γ.K F xs ds) (hF : F a = none) (h0 : f.H0 a = none ∨ f.M a) (hO : ¬ OwnA σ ρ a) (hR : ¬ f.R a) : Ent Γ f F H (σ.set i (some (.ref a))) (ρ.set i (.own ds)) := by
  refine ⟨E.s0, E.s1, E.new, E.chg, E.liv, by rw [List.length_set, List.length_set]; exact E.len, fun j s' hj => ?_, fun j k b es es' h1 h2 h3 h4 => ?_, E.rm, E.rF, E.rl, fun b hb ho => ?_, E.ml, E.cl⟩
  · rw [List.getElem?_set] at hj ⊢
    by_cases hij : i = j
    · rw [if_pos hij] at hj ⊢
      split at hj
      · rename_i hl
        cases hj
        have hl' : j < σ.length := by rw [E.len]; exact hij ▸ hl
        rw [if_pos (hij ▸ hl')]
        exact ⟨a, xs, rfl, hH, hD, hF, h0⟩
      · cases hj
    · rw [if_neg hij] at hj ⊢
      exact E.sl j s' hj
  · rw [List.getElem?_set] at h1 h2 h3 h4
    by_cases hij : i = j
    · by_cases hik : i = k
      · exact hij.symm.trans hik
      · rw [if_pos hij] at h3
        rw [if_neg hik] at h2 h4
        split at h3
        · cases h3; exact absurd ⟨k, es', h2, h4⟩ hO
        · cases h3
    · by_cases hik : i = k
      · rw [if_pos hik] at h4
        rw [if_neg hij] at h1 h3
        split at h4
        · cases h4; exact absurd ⟨j, es, h1, h3⟩ hO
        · cases h4
      · rw [if_neg hij] at h1 h3
        rw [if_neg hik] at h2 h4
        exact E.dis j k b es es' h1 h2 h3 h4
  · rcases own_set ho with ho | ⟨_, e⟩
    · exact E.ro b hb ho
    · cases e; exact hR hb
/-- what slot i owns, it owns alone -/
theorem Ent.alone (E : Ent Γ f F H σ ρ) (hi : ρ[i]? = some (.own ds)) (ha : σ[i]? = some (some (.ref a))) : ¬ OwnA σ (ρ.set i .un) a := fun ⟨j, es, h1, h2⟩ => by
  rw [List.getElem?_set] at h1
  by_cases hij : i = j
  · rw [if_pos hij] at h1
    split at h1 <;> cases h1
  · rw [if_neg hij] at h1
    exact hij (E.dis i j a ds es hi h1 ha h2)
/-- the list that slot i owns becomes known -/
theorem Ent.freeO (E : Ent Γ f F H σ ρ) (hi : ρ[i]? = some (.own ds)) : ∃ a xs, σ[i]? = some (some (.ref a)) ∧ H a = some (.lst xs) ∧ F a = none ∧ Dq Γ.K (upd F a (.lst xs)) (.ref a) (.list ds) ∧ Ent Γ f (upd F a (.lst xs)) H σ (ρ.set i (.a (.d (.list ds)))) := by
  obtain ⟨a, xs, e1, e2, e3, e4, e5⟩ := E.sl i _ hi
  have E1 := E.forget (i := i)
  have hR : ¬ f.R a := fun z => E.ro a z ⟨i, ds, hi, e1⟩
  have E2 := E1.fz e4 e2 e5 (E.alone hi e1) hR
  have hd : Dq Γ.K (upd F a (.lst xs)) (.ref a) (.list ds) := .lst upd_same (DqAll.same (same_updF e4) ds e3)
  have E3 := E2.same_as (x := .d (.list ds)) e1 hd
  rw [List.set_set] at E3
  exact ⟨a, xs, e1, e2, e4, hd, E3⟩
/-- the list that slot i owns is changed -/
theorem Ent.mutO (E : Ent Γ f F H σ ρ) (hi : ρ[i]? = some (.own ds)) (ha : σ[i]? = some (some (.ref a))) (hD : DqAll Γ.K F xs es) : Ent Γ f F (upd H a (.lst xs)) σ (ρ.set i (.own es)) := by
  obtain ⟨a', ys, e1, e2, e3, e4, e5⟩ := E.sl i _ hi
  rw [ha] at e1
  cases e1
  have hR : ¬ f.R a := fun z => E.ro a z ⟨i, ds, hi, ha⟩
  have E2 := (E.forget (i := i)).poke (o := .lst xs) e4 e5 (E.alone hi ha) hR
  have E3 := E2.setO (i := i) (a := a) (xs := xs) upd_same hD e4 e5 (E.alone hi ha) hR
  rw [List.set_set, set_self ha] at E3
  exact E3
/-- what a step between two places of a run keeps, said of the run's start -/
def Fr.from (f : Fr) (σ : L2.St) (ρ : List Sl) (F H : Hp) : Fr := ⟨fun b => f.M b ∨ OwnA σ ρ b, f.R, f.r, f.ri, F, H⟩
theorem Ent.self (E : Ent Γ f F H σ ρ) : Ent Γ (f.from σ ρ F H) F H σ ρ := by
  refine ⟨Same.refl _, E.s1, fun b o e => .inl e, fun b o e _ => e, fun b e => e, E.len, fun i s hi => ?_, E.dis, fun b hb => .inl (E.rm b hb), E.rF, E.rl, E.ro, fun b hb z => hb.elim (fun m => E.ml b m (E.liv b z)) (fun o => E.notOwn z o), E.cl⟩
  have := E.sl i s hi
  cases s with
  | un => trivial
  | a x => exact this
  | rng n => exact this
  | own ds =>
    obtain ⟨a, xs, e1, e2, e3, e4, e5⟩ := this
    exact ⟨a, xs, e1, e2, e3, e4, .inr (.inr ⟨i, ds, hi, e1⟩)⟩
theorem Ent.ownM (E : Ent Γ f F H σ ρ) {b : Addr} (h : OwnA σ ρ b) : f.H0 b = none ∨ f.M b := by
  obtain ⟨i, ds, h1, h2⟩ := h
  obtain ⟨a, xs, e1, _, _, _, e5⟩ := E.sl i _ h1
  rw [h2] at e1
  cases e1
  exact e5
theorem Ent.trans (E : Ent Γ f F H σ ρ) (E' : Ent Γ (f.from σ ρ F H) F' H' σ' ρ') : Ent Γ f F' H' σ' ρ' := by
  refine ⟨E.s0.trans E'.s0, E'.s1, fun b o e => ?_, fun b o e m => ?_, fun b e => E.liv b (E'.liv b e), E'.len, fun i s hi => ?_, E'.dis, E.rm, E'.rF, E'.rl, E'.ro, E.ml, E'.cl⟩
  · rcases E'.new b o e with h | h | h
    · exact E.new b o h
    · exact .inr (.inl (E.liv b h))
    · rcases h with h | h
      · exact .inr (.inr h)
      · exact .inr (E.ownM h)
  · refine E'.chg b o (E.chg b o e m) fun z => ?_
    rcases z with z | z
    · exact m z
    · rcases E.ownM z with y | y
      · rw [y] at e; cases e
      · exact m y
  · have := E'.sl i s hi
    cases s with
    | un => trivial
    | a x => exact this
    | rng n => exact this
    | own ds =>
      obtain ⟨a, xs, e1, e2, e3, e4, e5⟩ := this
      refine ⟨a, xs, e1, e2, e3, e4, ?_⟩
      rcases e5 with h | h | h
      · exact .inl (E.liv a h)
      · exact .inr h
      · exact E.ownM h
/-- what no slot owns and no draw touches stands -/
theorem Ent.kept (E' : Ent Γ (f.from σ ρ F H) F' H' σ' ρ') {b : Addr} {o : HO} (h : H b = some o) (hM : ¬ f.M b) (hO : ¬ OwnA σ ρ b) : H' b = some o :=
  E'.chg b o h fun z => z.elim hM hO
end
end Cc

set_option Elab.async false
set_option linter.all false
set_option maxRecDepth 100000
set_option maxHeartbeats 4000000
/-! The pure layer: expressions. -/
namespace Cc
open PySem PySem.Spec PyProof.Rows L2
abbrev XX := Nat → PyData → List Sl → Prop
abbrev EE := List Sl → (A → List Sl → Prop) → XX → Prop
abbrev AA := List Sl → (List A → List Sl → Prop) → XX → Prop
abbrev BB := List Sl → (Bool → List Sl → Prop) → XX → Prop
abbrev LL := List Sl → (List PyData → List Sl → Prop) → XX → Prop
abbrev P2 := PyData → PyData → (PyData → Prop) → Prop
abbrev PL := List A → (PyData → Prop) → Prop
def OutX (Γ : Gx) (f : Fr) (W : WX) (σ : L2.St) (Xx : XX) : Prop := ∀ c d ρ' F' H' dx v, Xx c d ρ' → Ent Γ f F' H' σ ρ' → F' dx = some (.xd [("value", v)]) → Dq Γ.K F' v d → W (.ref (Γ.C c)) (some dx) σ H'
def OutE (Γ : Gx) (f : Fr) (F : Hp) (σ : L2.St) (R : A → List Sl → Prop) (Q : VK) : Prop := ∀ x ρ' F' H' v, R x ρ' → Ent Γ f F' H' σ ρ' → Same F F' → Rp Γ F' v x → Q v H'
def OutA (Γ : Gx) (f : Fr) (F : Hp) (σ : L2.St) (R : List A → List Sl → Prop) (Q : List V → Hp → Prop) : Prop := ∀ xs ρ' F' H' vs, R xs ρ' → Ent Γ f F' H' σ ρ' → Same F F' → RpAll Γ F' vs xs → Q vs H'
def OutB (Γ : Gx) (f : Fr) (F : Hp) (σ : L2.St) (R : Bool → List Sl → Prop) (Q : Bool → Hp → Prop) : Prop := ∀ b ρ' F' H', R b ρ' → Ent Γ f F' H' σ ρ' → Same F F' → Q b H'
/-- a list that no one else has -/
structure Own1 (Γ : Gx) (f : Fr) (F H : Hp) (σ : L2.St) (ρ : List Sl) (a : Addr) (xs : List V) (ds : List PyData) : Prop where
  hH : H a = some (.lst xs)
  hF : F a = none
  hD : DqAll Γ.K F xs ds
  h0 : f.H0 a = none
  hO : ¬ OwnA σ ρ a
  hR : ¬ f.R a
def OutL (Γ : Gx) (f : Fr) (F : Hp) (σ : L2.St) (R : List PyData → List Sl → Prop) (Q : VK) : Prop := ∀ ds ρ' F' H' a xs, R ds ρ' → Ent Γ f F' H' σ ρ' → Same F F' → Own1 Γ f F' H' σ ρ' a xs ds → Q (.ref a) H'
def DenE (Γ : Gx) (W : WX) (t : TE) (ε : EE) : Prop := ∀ f F H σ ρ Q R Xx, Ent Γ f F H σ ρ → ε ρ R Xx → OutE Γ f F σ R Q → OutX Γ f W σ Xx → t σ H Q
def DenA (Γ : Gx) (W : WX) (t : TA) (ε : AA) : Prop := ∀ f F H σ ρ Q R Xx, Ent Γ f F H σ ρ → ε ρ R Xx → OutA Γ f F σ R Q → OutX Γ f W σ Xx → t σ H Q
def DenB (Γ : Gx) (W : WX) (t : TT) (ε : BB) : Prop := ∀ f F H σ ρ Q R Xx, Ent Γ f F H σ ρ → ε ρ R Xx → OutB Γ f F σ R Q → OutX Γ f W σ Xx → t σ H Q
def DenL (Γ : Gx) (W : WX) (t : TE) (ε : LL) : Prop := ∀ f F H σ ρ Q R Xx, Ent Γ f F H σ ρ → ε ρ R Xx → OutL Γ f F σ R Q → OutX Γ f W σ Xx → t σ H Q
def DE (Γ : Gx) (X : Cx) (W : WX) (e : Expr) (t : TE) (ε : EE) : Prop := PE X e t ∧ DenE Γ W t ε
def DL (Γ : Gx) (X : Cx) (W : WX) (e : Expr) (t : TE) (ε : LL) : Prop := PE X e t ∧ DenL Γ W t ε
def DA (Γ : Gx) (X : Cx) (W : WX) (es : List Expr) (t : TA) (ε : AA) : Prop := PA X es t ∧ DenA Γ W t ε
def DT (Γ : Gx) (X : Cx) (W : WX) (e : Expr) (t : TT) (ε : BB) : Prop := PT X e t ∧ DenB Γ W t ε

/-! ### meanings -/
def dD : A → (PyData → Prop) → Prop
  | .d x, P => P x
  | _, _ => False
def dB : A → (Bool → Prop) → Prop
  | .d (.bool b), P => P b
  | _, _ => False
def dI : A → (Int → Prop) → Prop
  | .d (.int b), P => P b
  | _, _ => False
def dL : A → (List PyData → Prop) → Prop
  | .d (.list b), P => P b
  | _, _ => False
def dS : A → (List PyData → Prop) → Prop
  | .d (.list b), P => P b
  | .d (.tuple b), P => P b
  | _, _ => False
def dAll : List A → (List PyData → Prop) → Prop
  | [], P => P []
  | x :: xs, P => dD x fun d => dAll xs fun ds => P (d :: ds)
def szL (n : Nat) : Prop := n ≤ sizeLine
def eVar (i : Nat) : EE := fun ρ R _ => match ρ[i]? with
  | some (.a x) => R x ρ
  | some (.own ds) => R (.d (.list ds)) (ρ.set i (.a (.d (.list ds))))
  | _ => False
def eC (d : PyData) : EE := fun ρ R _ => R (.d d) ρ
def eOp (p : P2) (a b : EE) : EE := fun ρ R Xx => a ρ (fun x ρ1 => b ρ1 (fun y ρ2 => dD x fun u => dD y fun w => p u w fun d => R (.d d) ρ2) Xx) Xx
def eUn (p : PyData → (PyData → Prop) → Prop) (a : EE) : EE := fun ρ R Xx => a ρ (fun x ρ1 => dD x fun u => p u fun d => R (.d d) ρ1) Xx
def eAnd (a b : EE) : EE := fun ρ R Xx => a ρ (fun x ρ1 => dB x fun c => if c = true then b ρ1 R Xx else R (.d (.bool false)) ρ1) Xx
def eOr (a b : EE) : EE := fun ρ R Xx => a ρ (fun x ρ1 => dB x fun c => if c = true then R (.d (.bool true)) ρ1 else b ρ1 R Xx) Xx
def eNot (a : EE) : EE := fun ρ R Xx => a ρ (fun x ρ1 => dB x fun c => R (.d (.bool !c)) ρ1) Xx
def eIf (t : BB) (a b : EE) : EE := fun ρ R Xx => t ρ (fun c ρ1 => if c = true then a ρ1 R Xx else b ρ1 R Xx) Xx
def isNon : A → Bool
  | .d .none => true
  | _ => false
def eIsN (a : EE) : EE := fun ρ R Xx => a ρ (fun x ρ1 => R (.d (.bool (isNon x))) ρ1) Xx
def eNotN (a : EE) : EE := fun ρ R Xx => a ρ (fun x ρ1 => R (.d (.bool !(isNon x))) ρ1) Xx
def bOf (a : EE) : BB := fun ρ R Xx => a ρ (fun x ρ1 => dB x fun c => R c ρ1) Xx
def truP : A → (Bool → Prop) → Prop
  | .d (.list ds), R => R (!ds.isEmpty)
  | .d (.tuple ds), R => R (!ds.isEmpty)
  | .d (.int i), R => R (i != 0)
  | .d (.bool b), R => R b
  | .d .none, R => R false
  | _, _ => False
def bTru (a : EE) : BB := fun ρ R Xx => a ρ (fun x ρ1 => truP x fun b => R b ρ1) Xx
def bNot (a : BB) : BB := fun ρ R Xx => a ρ (fun b ρ1 => R (!b) ρ1) Xx
def aNil : AA := fun ρ R _ => R [] ρ
def aCons (a : EE) (b : AA) : AA := fun ρ R Xx => a ρ (fun x ρ1 => b ρ1 (fun xs ρ2 => R (x :: xs) ρ2) Xx) Xx
def aStar (a : EE) (b : AA) : AA := fun ρ R Xx => a ρ (fun x ρ1 => dS x fun us => b ρ1 (fun xs ρ2 => R (us.map A.d ++ xs) ρ2) Xx) Xx
def eTup (a : AA) : EE := fun ρ R Xx => a ρ (fun xs ρ1 => dAll xs fun ds => szL ds.length ∧ R (.d (.tuple ds)) ρ1) Xx
def lDisp (a : AA) : LL := fun ρ R Xx => a ρ (fun xs ρ1 => dAll xs fun ds => szL ds.length ∧ R ds ρ1) Xx
def eFz (a : LL) : EE := fun ρ R Xx => a ρ (fun ds ρ1 => R (.d (.list ds)) ρ1) Xx
def eCB (p : PL) (a : AA) : EE := fun ρ R Xx => a ρ (fun xs ρ1 => p xs fun d => R (.d d) ρ1) Xx
def lCat (a b : EE) : LL := fun ρ R Xx => a ρ (fun x ρ1 => b ρ1 (fun y ρ2 => dL x fun u => dL y fun w => szL (u.length + w.length) ∧ R (u ++ w) ρ2) Xx) Xx
def lRep (a b : EE) : LL := fun ρ R Xx => a ρ (fun x ρ1 => b ρ1 (fun y ρ2 => dL x fun u => dI y fun k => -(2 ^ 63) ≤ k ∧ k < 2 ^ 63 ∧ szL (u.length * k.toNat) ∧ R (List.replicate k.toNat u).flatten ρ2) Xx) Xx
def lOf (a : EE) : LL := fun ρ R Xx => a ρ (fun x ρ1 => dS x fun u => R u ρ1) Xx
def dO : Option EE → List Sl → (Option Int → List Sl → Prop) → XX → Prop
  | none, ρ, R, _ => R none ρ
  | some e, ρ, R, Xx => e ρ (fun x ρ1 => dI x fun i => R (some i) ρ1) Xx
def lSl (a : EE) (lo hi : Option EE) : LL := fun ρ R Xx => a ρ (fun x ρ1 => dL x fun u => dO lo ρ1 (fun l ρ2 => dO hi ρ2 (fun h ρ3 => R (cutA u l h) ρ3) Xx) Xx) Xx
def pIx : P2
  | .list ds, .int i, R => ∃ d, atI ds i = some d ∧ R d
  | .tuple ds, .int i, R => ∃ d, atI ds i = some d ∧ R d
  | .str z, .int i, R => z.length ≤ sizeLine ∧ ∃ c, atI z.cps.toList i = some c ∧ R (.str ⟨#[c]⟩)
  | _, _, _ => False
def eIxN (i : Nat) (e : EE) : EE := fun ρ R Xx => match ρ[i]? with
  | some (.own _) => e ρ (fun y ρ1 => dI y fun k => match ρ1[i]? with | some (.own ds) => ∃ d, atI ds k = some d ∧ R (.d d) ρ1 | _ => False) Xx
  | some (.a x) => e ρ (fun y ρ1 => dD x fun u => dD y fun w => pIx u w fun d => R (.d d) ρ1) Xx
  | _ => False
def pLen : A → (Int → Prop) → Prop
  | .d (.list ds), R => R ds.length
  | .d (.tuple ds), R => R ds.length
  | .scr ns, R => R ns.length
  | _, _ => False
def eLenN (i : Nat) : EE := fun ρ R _ => match ρ[i]? with
  | some (.own ds) => R (.d (.int ds.length)) ρ
  | some (.a x) => pLen x fun n => R (.d (.int n)) ρ
  | _ => False
def pI0 (g : Int → Int → PyData) : P2
  | .int a, .int b, R => R (g a b)
  | _, _, _ => False
def pI (C : Int → Int → Prop) (g : Int → Int → PyData) : P2
  | .int a, .int b, R => C a b ∧ R (g a b)
  | _, _, _ => False
def pEq : P2
  | .int a, .int b, R => R (.bool (decide (a = b)))
  | .str a, .str b, R => R (.bool (decide (a = b)))
  | .bool a, .bool b, R => R (.bool (decide (a = b)))
  | _, _, _ => False
def pNe : P2
  | .int a, .int b, R => R (.bool (!decide (a = b)))
  | .str a, .str b, R => R (.bool (!decide (a = b)))
  | .bool a, .bool b, R => R (.bool (!decide (a = b)))
  | _, _, _ => False
def pEqD : P2 := fun a b R => SeqAt.shaped a = true ∧ SeqAt.shaped b = true ∧ R (.bool (PyData.eqv a b))
def pNeD : P2 := fun a b R => SeqAt.shaped a = true ∧ SeqAt.shaped b = true ∧ R (.bool (!PyData.eqv a b))
def flatD : PyData → Bool
  | .none | .bool _ | .int _ | .str _ => true
  | _ => false
def vOf : PyData → V
  | .bool b => .bl b
  | .int i => .int i
  | .str z => .str z
  | _ => .non
def pIn (neg : Bool) : P2
  | x, .list ds, R => flatD x = true ∧ ds.all flatD = true ∧ R (.bool (if neg then !inV (vOf x) (ds.map vOf) else inV (vOf x) (ds.map vOf)))
  | x, .tuple ds, R => flatD x = true ∧ ds.all flatD = true ∧ R (.bool (if neg then !inV (vOf x) (ds.map vOf) else inV (vOf x) (ds.map vOf)))
  | _, _, _ => False
def pNeg : PyData → (PyData → Prop) → Prop
  | .int a, R => R (.int (-a))
  | _, _ => False
def eChain (p p' : P2) (a b c : EE) : EE := fun ρ R Xx => a ρ (fun x ρ1 => b ρ1 (fun y ρ2 => dD x fun u => dD y fun w => p u w fun d => dB (.d d) fun k => if k = true then c ρ2 (fun z ρ3 => dD z fun v => p' w v fun d => R (.d d) ρ3) Xx else R (.d (.bool false)) ρ2) Xx) Xx

section
variable {Γ : Gx} {X : Cx} {W : WX} {f : Fr} {F H F' H' : Hp} {σ : L2.St} {ρ ρ' : List Sl} {x : A} {v : V} {d : PyData} {e e1 e2 e3 : Expr} {a b c : EE} {i : Nat} {es : List Expr} {pos : Pos}
theorem OutE.sub {R : A → List Sl → Prop} {Q : VK} (o : OutE Γ f F σ R Q) (s : Same F F') : OutE Γ f F' σ R Q := fun x ρ' F' H' v r E s' h => o x ρ' F' H' v r E (s.trans s') h
theorem OutL.sub {R : List PyData → List Sl → Prop} {Q : VK} (o : OutL Γ f F σ R Q) (s : Same F F') : OutL Γ f F' σ R Q := fun x ρ' F' H' a xs r E s' h => o x ρ' F' H' a xs r E (s.trans s') h
theorem OutA.sub {R : List A → List Sl → Prop} {Q : List V → Hp → Prop} (o : OutA Γ f F σ R Q) (s : Same F F') : OutA Γ f F' σ R Q := fun x ρ' F' H' v r E s' h => o x ρ' F' H' v r E (s.trans s') h
theorem OutB.sub {R : Bool → List Sl → Prop} {Q : Bool → Hp → Prop} (o : OutB Γ f F σ R Q) (s : Same F F') : OutB Γ f F' σ R Q := fun x ρ' F' H' r E s' => o x ρ' F' H' r E (s.trans s')
theorem dD_of {P : PyData → Prop} (h : dD x P) : ∃ d, x = .d d ∧ P d := by
  cases x with
  | d y => exact ⟨y, rfl, h⟩
  | exc => exact h.elim
  | spr => exact h.elim
  | scr => exact h.elim
theorem dB_of {P : Bool → Prop} (h : dB x P) : ∃ b, x = .d (.bool b) ∧ P b := by
  cases x with
  | d y => cases y <;> first | exact ⟨_, rfl, h⟩ | exact h.elim
  | exc => exact h.elim
  | spr => exact h.elim
  | scr => exact h.elim
theorem dI_of {P : Int → Prop} (h : dI x P) : ∃ b, x = .d (.int b) ∧ P b := by
  cases x with
  | d y => cases y <;> first | exact ⟨_, rfl, h⟩ | exact h.elim
  | exc => exact h.elim
  | spr => exact h.elim
  | scr => exact h.elim
theorem dL_of {P : List PyData → Prop} (h : dL x P) : ∃ b, x = .d (.list b) ∧ P b := by
  cases x with
  | d y => cases y <;> first | exact ⟨_, rfl, h⟩ | exact h.elim
  | exc => exact h.elim
  | spr => exact h.elim
  | scr => exact h.elim
theorem dS_of {P : List PyData → Prop} (h : dS x P) : ∃ b, (x = .d (.list b) ∨ x = .d (.tuple b)) ∧ P b := by
  cases x with
  | d y => cases y <;> first | exact ⟨_, .inl rfl, h⟩ | exact ⟨_, .inr rfl, h⟩ | exact h.elim
  | exc => exact h.elim
  | spr => exact h.elim
  | scr => exact h.elim
theorem dAll_of : ∀ {xs : List A} {P : List PyData → Prop}, dAll xs P → ∃ ds, xs = ds.map A.d ∧ P ds
  | [], _, h => ⟨[], rfl, h⟩
  | x :: xs, P, h => by
    obtain ⟨d, e, h1⟩ := dD_of h
    obtain ⟨ds, e2, h2⟩ := dAll_of (xs := xs) h1
    exact ⟨d :: ds, by rw [e, e2]; rfl, h2⟩
theorem RpAll.dq {F : Hp} : ∀ {vs : List V} {ds : List PyData}, RpAll Γ F vs (ds.map A.d) → DqAll Γ.K F vs ds
  | [], [], _ => .nil
  | _ :: _, _ :: _, ⟨h1, h2⟩ => .cons h1 (RpAll.dq h2)
  | [], _ :: _, h => h.elim
  | _ :: _, [], h => h.elim
theorem DqAll.rp {F : Hp} : ∀ {vs : List V} {ds : List PyData}, DqAll Γ.K F vs ds → RpAll Γ F vs (ds.map A.d)
  | [], [], _ => trivial
  | _ :: _, _ :: _, .cons h1 h2 => ⟨h1, DqAll.rp h2⟩
theorem RpAll.app {F : Hp} : ∀ {vs ws : List V} {xs ys : List A}, RpAll Γ F vs xs → RpAll Γ F ws ys → RpAll Γ F (vs ++ ws) (xs ++ ys)
  | [], _, [], _, _, h => h
  | _ :: _, _, _ :: _, _, ⟨h1, h2⟩, h => ⟨h1, RpAll.app h2 h⟩
  | [], _, _ :: _, _, h, _ => h.elim
  | _ :: _, _, [], _, h, _ => h.elim

theorem de_var (h : PE X e (tVar i)) : DE Γ X W e (tVar i) (eVar i) := by
  refine ⟨h, fun f F H σ ρ Q R Xx E r o _ => ?_⟩
  unfold eVar at r
  split at r
  · rename_i x hx
    obtain ⟨u, hu, hr⟩ := E.sl i _ hx
    exact ⟨u, hu, o x ρ F H u r E (Same.refl _) hr⟩
  · rename_i ds hx
    obtain ⟨a, xs, e1, e2, e4, hd, E2⟩ := E.freeO hx
    exact ⟨_, e1, o _ _ _ _ _ r E2 (same_updF e4) hd⟩
  · exact r.elim
theorem de_c (h : PE X e (tC v)) (hv : ∀ F, Dq Γ.K F v d) : DE Γ X W e (tC v) (eC d) := ⟨h, fun f F H σ ρ Q R Xx E r o _ => o _ ρ F H v r E (Same.refl _) (hv F)⟩
/-- an operator by values -/
def OpD (Γ : Gx) (r : R2) (p : P2) : Prop := ∀ f F H σ ρ x y u w Q R, Ent Γ f F H σ ρ → Dq Γ.K F x u → Dq Γ.K F y w → p u w R → (∀ d v F' H', R d → Ent Γ f F' H' σ ρ → Same F F' → Dq Γ.K F' v d → Q v H') → r x y H Q
theorem den_op {r : R2} {p : P2} {ta tb : TE} (hp : OpD Γ r p) (h1 : DenE Γ W ta a) (h2 : DenE Γ W tb b) : DenE Γ W (tOp r ta tb) (eOp p a b) := fun f F H σ ρ Q R Xx E q o ox => by
  refine h1 f F H σ ρ _ _ Xx E q (fun x ρ1 F1 H1 v1 q1 E1 s1 r1 => ?_) ox
  refine h2 f F1 H1 σ ρ1 _ _ Xx E1 q1 (fun y ρ2 F2 H2 v2 q2 E2 s2 r2 => ?_) ox
  obtain ⟨u, rfl, q2'⟩ := dD_of q2
  clear q2; have q2 := q2'
  obtain ⟨w, rfl, q2'⟩ := dD_of q2
  clear q2; have q2 := q2'
  exact hp f F2 H2 σ ρ2 v1 v2 u w Q _ E2 (Dq.same s2 u r1) r2 q2 fun d v F' H' rd E' s' hd => o _ _ _ _ _ rd E' ((s1.trans s2).trans s') hd
theorem de_op {r : R2} {p : P2} (hp : OpD Γ r p) (hpe : ∀ {ta tb : TE}, PE X e1 ta → PE X e2 tb → PE X e (tOp r ta tb)) {ta : TE} (h1 : DE Γ X W e1 ta a) {tb : TE} (h2 : DE Γ X W e2 tb b) : DE Γ X W e (tOp r ta tb) (eOp p a b) := by
  obtain ⟨p1, d1⟩ := h1
  obtain ⟨p2, d2⟩ := h2
  exact ⟨hpe p1 p2, den_op hp d1 d2⟩
theorem opd_int0 {g : Int → Int → Int} : OpD Γ (rI0 fun i j => .int (g i j)) (pI0 fun i j => .int (g i j)) := fun f F H σ ρ x y u w Q R E h1 h2 q o => by
  unfold pI0 at q
  split at q
  · cases h1; cases h2
    exact ⟨_, _, rfl, rfl, o _ _ F H q E (Same.refl _) (.int _)⟩
  · exact q.elim
theorem opd_bl0 {g : Int → Int → Bool} : OpD Γ (rI0 fun i j => .bl (g i j)) (pI0 fun i j => .bool (g i j)) := fun f F H σ ρ x y u w Q R E h1 h2 q o => by
  unfold pI0 at q
  split at q
  · cases h1; cases h2
    exact ⟨_, _, rfl, rfl, o _ _ F H q E (Same.refl _) (.bl _)⟩
  · exact q.elim
theorem opd_int {C : Int → Int → Prop} {g : Int → Int → Int} : OpD Γ (rI C fun i j => .int (g i j)) (pI C fun i j => .int (g i j)) := fun f F H σ ρ x y u w Q R E h1 h2 q o => by
  unfold pI at q
  split at q
  · cases h1; cases h2
    exact ⟨_, _, rfl, rfl, q.1, o _ _ F H q.2 E (Same.refl _) (.int _)⟩
  · exact q.elim
theorem opd_eq : OpD Γ rEq pEq := fun f F H σ ρ x y u w Q R E h1 h2 q o => by
  unfold pEq at q
  split at q
  · cases h1; cases h2
    refine ⟨rfl, o _ _ F H q E (Same.refl _) ?_⟩
    rw [x_dec]; exact .bl _
  · cases h1; cases h2
    refine ⟨rfl, o _ _ F H q E (Same.refl _) ?_⟩
    rw [x_decS]; exact .bl _
  · rename_i a1 b1
    cases h1; cases h2
    refine ⟨rfl, o _ _ F H q E (Same.refl _) ?_⟩
    rw [show decide (V.bl a1 = V.bl b1) = decide (a1 = b1) by cases a1 <;> cases b1 <;> rfl]; exact .bl _
  · exact q.elim
theorem opd_ne : OpD Γ rNe pNe := fun f F H σ ρ x y u w Q R E h1 h2 q o => by
  unfold pNe at q
  split at q
  · cases h1; cases h2
    refine ⟨rfl, o _ _ F H q E (Same.refl _) ?_⟩
    rw [x_dec]; exact .bl _
  · cases h1; cases h2
    refine ⟨rfl, o _ _ F H q E (Same.refl _) ?_⟩
    rw [x_decS]; exact .bl _
  · rename_i a1 b1
    cases h1; cases h2
    refine ⟨rfl, o _ _ F H q E (Same.refl _) ?_⟩
    rw [show decide (V.bl a1 = V.bl b1) = decide (a1 = b1) by cases a1 <;> cases b1 <;> rfl]; exact .bl _
  · exact q.elim
theorem opd_eqD : OpD Γ (rEqD Γ.K) pEqD := fun f F H σ ρ x y u w Q R E h1 h2 q o =>
  ⟨u, w, Dp.same E.s1 u (Dq.dp u h1), Dp.same E.s1 w (Dq.dp w h2), q.1, q.2.1, o _ _ F H q.2.2 E (Same.refl _) (.bl _)⟩
theorem opd_neD : OpD Γ (rNeD Γ.K) pNeD := fun f F H σ ρ x y u w Q R E h1 h2 q o =>
  ⟨u, w, Dp.same E.s1 u (Dq.dp u h1), Dp.same E.s1 w (Dq.dp w h2), q.1, q.2.1, o _ _ F H q.2.2 E (Same.refl _) (.bl _)⟩
theorem flat_v {F : Hp} : ∀ {u : PyData} {x : V}, Dq Γ.K F x u → flatD u = true → x = vOf u ∧ flatV x = true
  | .none, _, h, _ => by cases h; exact ⟨rfl, rfl⟩
  | .bool _, _, h, _ => by cases h; exact ⟨rfl, rfl⟩
  | .int _, _, h, _ => by cases h; exact ⟨rfl, rfl⟩
  | .str _, _, h, _ => by cases h; exact ⟨rfl, rfl⟩
  | .list _, _, _, h => nomatch h
  | .tuple _, _, _, h => nomatch h
  | .dict _, _, _, h => nomatch h
theorem flat_vs {F : Hp} : ∀ {us : List PyData} {xs : List V}, DqAll Γ.K F xs us → us.all flatD = true → xs = us.map vOf ∧ xs.all flatV = true
  | [], _, h, _ => by cases h; exact ⟨rfl, rfl⟩
  | u :: us, _, h, hf => by
    cases h with
    | cons h1 h2 =>
      rw [List.all_cons, Bool.and_eq_true] at hf
      obtain ⟨e1, f1⟩ := flat_v h1 hf.1
      obtain ⟨e2, f2⟩ := flat_vs h2 hf.2
      exact ⟨by rw [e1, e2]; rfl, by rw [List.all_cons, f1, f2]; rfl⟩
theorem opd_in {neg : Bool} : OpD Γ (rIn Γ.K neg) (pIn neg) := fun f F H σ ρ x y u w Q R E h1 h2 q o => by
  unfold pIn at q
  split at q
  · cases h2 with
    | lst hs ha =>
      obtain ⟨e1, f1⟩ := flat_v h1 q.1
      obtain ⟨e2, f2⟩ := flat_vs ha q.2.1
      subst e1 e2
      exact ⟨_, _, rfl, .inl (.of (E.s1 _ _ hs)), f1, f2, o _ _ F H q.2.2 E (Same.refl _) (.bl _)⟩
  · cases h2 with
    | tup hs ha =>
      obtain ⟨e1, f1⟩ := flat_v h1 q.1
      obtain ⟨e2, f2⟩ := flat_vs ha q.2.1
      subst e1 e2
      exact ⟨_, _, rfl, .inr (Same.tup E.s1 hs), f1, f2, o _ _ F H q.2.2 E (Same.refl _) (.bl _)⟩
  · exact q.elim
theorem atI_dq {F : Hp} {xs : List V} {ds : List PyData} (h : DqAll Γ.K F xs ds) {k : Int} {d : PyData} (e : atI ds k = some d) : ∃ v, atI xs k = some v ∧ Dq Γ.K F v d := by
  unfold atI at e ⊢
  rw [h.len]
  cases hk : ixN ds.length k with
  | none => rw [hk] at e; cases e
  | some j =>
    rw [hk] at e
    exact h.get e
theorem opd_ix : OpD Γ (rIx Γ.K) pIx := fun f F H σ ρ x y u w Q R E h1 h2 q o => by
  unfold pIx at q
  split at q
  · obtain ⟨d, hd, q⟩ := q
    cases h2
    cases h1 with
    | lst hs ha =>
      obtain ⟨v, hv, dv⟩ := atI_dq ha hd
      exact .inl ⟨_, _, _, v, rfl, rfl, .of (E.s1 _ _ hs), hv, o _ _ F H q E (Same.refl _) dv⟩
  · obtain ⟨d, hd, q⟩ := q
    cases h2
    cases h1 with
    | tup hs ha =>
      obtain ⟨v, hv, dv⟩ := atI_dq ha hd
      exact .inr (.inl ⟨_, _, _, v, rfl, rfl, Same.tup E.s1 hs, hv, o _ _ F H q E (Same.refl _) dv⟩)
  · obtain ⟨hz, c, hc, q⟩ := q
    cases h2
    cases h1
    exact .inr (.inr ⟨_, _, c, rfl, rfl, hz, hc, o _ _ F H q E (Same.refl _) (.str _)⟩)
  · exact q.elim
theorem de_ixN (hpe : ∀ {tb : TE}, PE X e2 tb → PE X e (tOp (rIx Γ.K) (tVar i) tb)) {tb : TE} (h : DE Γ X W e2 tb b) : DE Γ X W e (tOp (rIx Γ.K) (tVar i) tb) (eIxN i b) := by
  obtain ⟨p2, d2⟩ := h
  refine ⟨hpe p2, fun f F H σ ρ Q R Xx E q o ox => ?_⟩
  unfold eIxN at q
  split at q
  · rename_i ds hx
    obtain ⟨a, xs, e1, e2, e3, e4, e5⟩ := E.sl i _ hx
    refine ⟨.ref a, e1, ?_⟩
    refine d2 f F H σ ρ _ _ Xx E q (fun y ρ1 F1 H1 v1 q1 E1 s1 r1 => ?_) ox
    obtain ⟨k, rfl, q1'⟩ := dI_of q1
    clear q1; have q1 := q1'
    split at q1
    · rename_i ds' hx'
      obtain ⟨d, hd, q1⟩ := q1
      obtain ⟨a', xs', f1, f2, f3, f4, f5⟩ := E1.sl i _ hx'
      rw [e1] at f1
      cases f1
      cases r1
      obtain ⟨v, hv, dv⟩ := atI_dq f3 hd
      exact .inl ⟨_, _, _, v, rfl, rfl, .of f2, hv, o _ _ _ _ _ q1 E1 s1 dv⟩
    · exact q1.elim
  · rename_i x hx
    obtain ⟨u, hu, hr⟩ := E.sl i _ hx
    refine ⟨u, hu, ?_⟩
    refine d2 f F H σ ρ _ _ Xx E q (fun y ρ1 F1 H1 v1 q1 E1 s1 r1 => ?_) ox
    obtain ⟨u', rfl, q1'⟩ := dD_of q1
    clear q1; have q1 := q1'
    obtain ⟨w', rfl, q1'⟩ := dD_of q1
    clear q1; have q1 := q1'
    exact opd_ix f F1 H1 σ ρ1 u v1 u' w' Q _ E1 (Dq.same s1 u' hr) r1 q1 fun d v F' H' rd E' s' hd => o _ _ _ _ _ rd E' (s1.trans s') hd
  · exact q.elim
theorem de_un (hpe : ∀ {ta : TE}, PE X e1 ta → PE X e (tUn (rU fun i => .int (-i)) ta)) {ta : TE} (h1 : DE Γ X W e1 ta a) : DE Γ X W e (tUn (rU fun i => .int (-i)) ta) (eUn pNeg a) := by
  obtain ⟨p1, d1⟩ := h1
  refine ⟨hpe p1, fun f F H σ ρ Q R Xx E q o ox => ?_⟩
  refine d1 f F H σ ρ _ _ Xx E q (fun x ρ1 F1 H1 v1 q1 E1 s1 r1 => ?_) ox
  obtain ⟨u, rfl, q1'⟩ := dD_of q1
  clear q1; have q1 := q1'
  revert q1
  cases u <;> intro q1 <;> try exact False.elim q1
  cases r1
  exact ⟨_, rfl, o _ _ _ _ _ q1 E1 s1 (.int _)⟩
theorem de_and (hpe : ∀ {ta tb : TE}, PE X e1 ta → PE X e2 tb → PE X e (tAndV ta tb)) {ta : TE} (h1 : DE Γ X W e1 ta a) {tb : TE} (h2 : DE Γ X W e2 tb b) : DE Γ X W e (tAndV ta tb) (eAnd a b) := by
  obtain ⟨p1, d1⟩ := h1
  obtain ⟨p2, d2⟩ := h2
  refine ⟨hpe p1 p2, fun f F H σ ρ Q R Xx E q o ox => ?_⟩
  refine d1 f F H σ ρ _ _ Xx E q (fun x ρ1 F1 H1 v1 q1 E1 s1 r1 => ?_) ox
  obtain ⟨c, rfl, q1'⟩ := dB_of q1
  clear q1; have q1 := q1'
  cases r1
  refine ⟨c, rfl, ?_⟩
  cases c with
  | true => exact d2 f F1 H1 σ ρ1 _ _ Xx E1 q1 (o.sub s1) ox
  | false => exact o _ _ _ _ _ q1 E1 s1 (.bl _)
theorem de_or (hpe : ∀ {ta tb : TE}, PE X e1 ta → PE X e2 tb → PE X e (tOrV ta tb)) {ta : TE} (h1 : DE Γ X W e1 ta a) {tb : TE} (h2 : DE Γ X W e2 tb b) : DE Γ X W e (tOrV ta tb) (eOr a b) := by
  obtain ⟨p1, d1⟩ := h1
  obtain ⟨p2, d2⟩ := h2
  refine ⟨hpe p1 p2, fun f F H σ ρ Q R Xx E q o ox => ?_⟩
  refine d1 f F H σ ρ _ _ Xx E q (fun x ρ1 F1 H1 v1 q1 E1 s1 r1 => ?_) ox
  obtain ⟨c, rfl, q1'⟩ := dB_of q1
  clear q1; have q1 := q1'
  cases r1
  refine ⟨c, rfl, ?_⟩
  cases c with
  | true => exact o _ _ _ _ _ q1 E1 s1 (.bl _)
  | false => exact d2 f F1 H1 σ ρ1 _ _ Xx E1 q1 (o.sub s1) ox
theorem de_one (hpe : ∀ {ta : TE}, PE X e1 ta → PE X e ta) {ta : TE} (h1 : DE Γ X W e1 ta a) : DE Γ X W e ta a := by
  obtain ⟨p1, d1⟩ := h1
  exact ⟨hpe p1, d1⟩
theorem de_not (hpe : ∀ {ta : TE}, PE X e1 ta → PE X e (tNotV ta)) {ta : TE} (h1 : DE Γ X W e1 ta a) : DE Γ X W e (tNotV ta) (eNot a) := by
  obtain ⟨p1, d1⟩ := h1
  refine ⟨hpe p1, fun f F H σ ρ Q R Xx E q o ox => ?_⟩
  refine d1 f F H σ ρ _ _ Xx E q (fun x ρ1 F1 H1 v1 q1 E1 s1 r1 => ?_) ox
  obtain ⟨c, rfl, q1'⟩ := dB_of q1
  clear q1; have q1 := q1'
  cases r1
  exact ⟨c, rfl, o _ _ _ _ _ q1 E1 s1 (.bl _)⟩
theorem isNon_v {F : Hp} (h : Rp Γ F v x) : decide (v = V.non) = Cc.isNon x := by
  cases x with
  | d y => cases y <;> cases h <;> rfl
  | exc c y => obtain ⟨_, _, _, rfl, _⟩ := h; rfl
  | spr S => obtain ⟨_, _, rfl, _⟩ := h; rfl
  | scr ns => obtain ⟨_, rfl, _⟩ := h; rfl
theorem de_isN (hpe : ∀ {ta : TE}, PE X e1 ta → PE X e (tOp (fun x y H Q => y = V.non ∧ Q (V.bl (decide (x = V.non))) H) ta (tC .non))) {ta : TE} (h1 : DE Γ X W e1 ta a) : DE Γ X W e (tOp (fun x y H Q => y = V.non ∧ Q (V.bl (decide (x = V.non))) H) ta (tC .non)) (eIsN a) := by
  obtain ⟨p1, d1⟩ := h1
  refine ⟨hpe p1, fun f F H σ ρ Q R Xx E q o ox => ?_⟩
  refine d1 f F H σ ρ _ _ Xx E q (fun x ρ1 F1 H1 v1 q1 E1 s1 r1 => ?_) ox
  show V.non = V.non ∧ Q (V.bl (decide (v1 = V.non))) H1
  refine ⟨rfl, ?_⟩
  rw [isNon_v r1]
  exact o _ _ _ _ _ q1 E1 s1 (.bl _)
theorem de_notN (hpe : ∀ {ta : TE}, PE X e1 ta → PE X e (tOp (fun x y H Q => y = V.non ∧ Q (V.bl (!decide (x = V.non))) H) ta (tC .non))) {ta : TE} (h1 : DE Γ X W e1 ta a) : DE Γ X W e (tOp (fun x y H Q => y = V.non ∧ Q (V.bl (!decide (x = V.non))) H) ta (tC .non)) (eNotN a) := by
  obtain ⟨p1, d1⟩ := h1
  refine ⟨hpe p1, fun f F H σ ρ Q R Xx E q o ox => ?_⟩
  refine d1 f F H σ ρ _ _ Xx E q (fun x ρ1 F1 H1 v1 q1 E1 s1 r1 => ?_) ox
  show V.non = V.non ∧ Q (V.bl (!decide (v1 = V.non))) H1
  refine ⟨rfl, ?_⟩
  rw [isNon_v r1]
  exact o _ _ _ _ _ q1 E1 s1 (.bl _)
theorem dt_val (hpe : ∀ {ta : TE}, PE X e ta → PT X e (tB ta)) {ta : TE} (h1 : DE Γ X W e ta a) : DT Γ X W e (tB ta) (bOf a) := by
  obtain ⟨p1, d1⟩ := h1
  refine ⟨hpe p1, fun f F H σ ρ Q R Xx E q o ox => ?_⟩
  refine d1 f F H σ ρ _ _ Xx E q (fun x ρ1 F1 H1 v1 q1 E1 s1 r1 => ?_) ox
  obtain ⟨c, rfl, q1'⟩ := dB_of q1
  clear q1; have q1 := q1'
  cases r1
  exact ⟨c, rfl, o _ _ _ _ q1 E1 s1⟩
theorem tru_v {F H : Hp} (s : Same F H) {R : Bool → Prop} (h : Rp Γ F v x) (q : truP x R) : ∃ k, TruV Γ.K v H k ∧ R k := by
  have em : ∀ {us : List PyData} {xs : List V}, DqAll Γ.K F xs us → us.isEmpty = xs.isEmpty := fun {us xs} h => by
    cases h <;> rfl
  cases x with
  | d y =>
    cases y with
    | none => cases h; exact ⟨_, rfl, q⟩
    | bool b => cases h; exact ⟨_, rfl, q⟩
    | int i => cases h; exact ⟨_, rfl, q⟩
    | str z => exact q.elim
    | list ds =>
      cases h with
      | lst hs ha => exact ⟨_, truL (.of (s _ _ hs)), by rw [← em ha]; exact q⟩
    | tuple ds =>
      cases h with
      | tup hs ha => exact ⟨_, truT (Same.tup s hs), by rw [← em ha]; exact q⟩
    | dict _ => exact q.elim
  | exc c y => exact q.elim
  | spr S => exact q.elim
  | scr ns => exact q.elim
theorem dt_tru (hpe : ∀ {ta : TE}, PE X e ta → PT X e (fun σ H Q => ta σ H fun x H' => ∃ k, TruV Γ.K x H' k ∧ Q k H')) {ta : TE} (h1 : DE Γ X W e ta a) : DT Γ X W e (fun σ H Q => ta σ H fun x H' => ∃ k, TruV Γ.K x H' k ∧ Q k H') (bTru a) := by
  obtain ⟨p1, d1⟩ := h1
  refine ⟨hpe p1, fun f F H σ ρ Q R Xx E q o ox => ?_⟩
  refine d1 f F H σ ρ _ _ Xx E q (fun x ρ1 F1 H1 v1 q1 E1 s1 r1 => ?_) ox
  obtain ⟨k, hk, r⟩ := tru_v E1.s1 r1 (R := fun b => R b ρ1) q1
  exact ⟨k, hk, o _ _ _ _ r E1 s1⟩
theorem dt_not {t1 : BB} (hpe : ∀ {ta : TT}, PT X e1 ta → PT X e (tNot ta)) {ta : TT} (h1 : DT Γ X W e1 ta t1) : DT Γ X W e (tNot ta) (bNot t1) := by
  obtain ⟨p1, d1⟩ := h1
  exact ⟨hpe p1, fun f F H σ ρ Q R Xx E q o ox => d1 f F H σ ρ _ _ Xx E q (fun b ρ1 F1 H1 q1 E1 s1 => o _ _ _ _ q1 E1 s1) ox⟩
theorem de_ifExp {t1 : BB} (hpe : ∀ {tt : TT} {ta tb : TE}, PT X e1 tt → PE X e2 ta → PE X e3 tb → PE X e (tIf tt ta tb)) {tt : TT} (h1 : DT Γ X W e1 tt t1) {ta : TE} (h2 : DE Γ X W e2 ta a) {tb : TE} (h3 : DE Γ X W e3 tb b) : DE Γ X W e (tIf tt ta tb) (eIf t1 a b) := by
  obtain ⟨p1, d1⟩ := h1
  obtain ⟨p2, d2⟩ := h2
  obtain ⟨p3, d3⟩ := h3
  refine ⟨hpe p1 p2 p3, fun f F H σ ρ Q R Xx E q o ox => ?_⟩
  refine d1 f F H σ ρ _ _ Xx E q (fun c ρ1 F1 H1 q1 E1 s1 => ?_) ox
  cases c with
  | true => exact d2 f F1 H1 σ ρ1 _ _ Xx E1 q1 (o.sub s1) ox
  | false => exact d3 f F1 H1 σ ρ1 _ _ Xx E1 q1 (o.sub s1) ox
theorem da_nil (h : PA X [] tNil) : DA Γ X W [] tNil aNil := ⟨h, fun f F H σ ρ Q R Xx E q o ox => o [] ρ F H [] q E (Same.refl _) trivial⟩
theorem da_cons {as : AA} (hpe : ∀ {ta : TE} {tr : TA}, PE X e ta → PA X es tr → PA X (e :: es) (tCons ta tr)) {ta : TE} (h1 : DE Γ X W e ta a) {tr : TA} (h2 : DA Γ X W es tr as) : DA Γ X W (e :: es) (tCons ta tr) (aCons a as) := by
  obtain ⟨p1, d1⟩ := h1
  obtain ⟨p2, d2⟩ := h2
  refine ⟨hpe p1 p2, fun f F H σ ρ Q R Xx E q o ox => ?_⟩
  refine d1 f F H σ ρ _ _ Xx E q (fun x ρ1 F1 H1 v1 q1 E1 s1 r1 => ?_) ox
  exact d2 f F1 H1 σ ρ1 _ _ Xx E1 q1 (fun xs ρ2 F2 H2 vs q2 E2 s2 r2 => o _ _ _ _ _ q2 E2 (s1.trans s2) ⟨r1.same s2, r2⟩) ox
theorem da_star {as : AA} {es' : List Expr} (hpe : ∀ {ta : TE} {tr : TA}, PE X e ta → PA X es tr → PA X es' (StX.tStar Γ.K ta tr)) {ta : TE} (h1 : DE Γ X W e ta a) {tr : TA} (h2 : DA Γ X W es tr as) : DA Γ X W es' (StX.tStar Γ.K ta tr) (aStar a as) := by
  obtain ⟨p1, d1⟩ := h1
  obtain ⟨p2, d2⟩ := h2
  refine ⟨hpe p1 p2, fun f F H σ ρ Q R Xx E q o ox => ?_⟩
  refine d1 f F H σ ρ _ _ Xx E q (fun x ρ1 F1 H1 v1 q1 E1 s1 r1 => ?_) ox
  obtain ⟨us, hx, q1'⟩ := dS_of q1
  clear q1; have q1 := q1'
  obtain ⟨p, xs, rfl, hs, hd⟩ : ∃ p xs, v1 = .ref p ∧ (SqT Γ.K H1 p xs ∨ SqL Γ.K H1 p xs) ∧ DqAll Γ.K F1 xs us := by
    rcases hx with rfl | rfl
    · cases r1 with | lst hs ha => exact ⟨_, _, rfl, .inr (.of (E1.s1 _ _ hs)), ha⟩
    · cases r1 with | tup hs ha => exact ⟨_, _, rfl, .inl (Same.tup E1.s1 hs), ha⟩
  refine ⟨p, xs, rfl, hs, ?_⟩
  exact d2 f F1 H1 σ ρ1 _ _ Xx E1 q1 (fun ys ρ2 F2 H2 vs q2 E2 s2 r2 => o _ _ _ _ _ q2 E2 (s1.trans s2) (RpAll.app (DqAll.rp (DqAll.same s2 us hd)) r2)) ox
theorem de_tup {as : AA} (hpe : ∀ {ta : TA}, PA X es ta → PE X e (tTup ta)) {ta : TA} (h1 : DA Γ X W es ta as) : DE Γ X W e (tTup ta) (eTup as) := by
  obtain ⟨p1, d1⟩ := h1
  refine ⟨hpe p1, fun f F H σ ρ Q R Xx E q o ox => ?_⟩
  refine d1 f F H σ ρ _ _ Xx E q (fun xs ρ1 F1 H1 vs q1 E1 s1 r1 => ?_) ox
  obtain ⟨ds, rfl, hz, q1'⟩ := dAll_of q1
  clear q1; have q1 := q1'
  have hd := r1.dq
  refine ⟨by rw [hd.len]; exact hz, fun p np => ?_⟩
  have nF := E1.fnone np
  exact o _ _ _ _ _ q1 (E1.alloc np) (s1.trans (same_updF nF)) (.tup (.of upd_same) (DqAll.same (same_updF nF) ds hd))
/-- a new list -/
theorem own_new {ds : List PyData} {xs : List V} {p : Addr} (E : Ent Γ f F H σ ρ) (hd : DqAll Γ.K F xs ds) (np : H p = none) : Own1 Γ f F (upd H p (.lst xs)) σ ρ p xs ds :=
  ⟨upd_same, E.fnone np, hd, E.liv p np, E.notOwn np, fun z => E.rl p z np⟩
theorem dl_disp {as : AA} (hpe : ∀ {ta : TA}, PA X es ta → PE X e (tLst ta)) {ta : TA} (h1 : DA Γ X W es ta as) : DL Γ X W e (tLst ta) (lDisp as) := by
  obtain ⟨p1, d1⟩ := h1
  refine ⟨hpe p1, fun f F H σ ρ Q R Xx E q o ox => ?_⟩
  refine d1 f F H σ ρ _ _ Xx E q (fun xs ρ1 F1 H1 vs q1 E1 s1 r1 => ?_) ox
  obtain ⟨ds, rfl, hz, q1'⟩ := dAll_of q1
  clear q1; have q1 := q1'
  have hd := r1.dq
  exact ⟨by rw [hd.len]; exact hz, fun p np => o _ _ _ _ _ _ q1 (E1.raw np) s1 (own_new E1 hd np)⟩
theorem de_fz {l : LL} {t : TE} (h : DL Γ X W e t l) : DE Γ X W e t (eFz l) := by
  obtain ⟨p1, d1⟩ := h
  refine ⟨p1, fun f F H σ ρ Q R Xx E q o ox => ?_⟩
  refine d1 f F H σ ρ _ _ Xx E q (fun ds ρ1 F1 H1 a xs q1 E1 s1 w => ?_) ox
  exact o _ _ _ _ _ q1 (E1.fz w.hF w.hH (.inl w.h0) w.hO w.hR) (s1.trans (same_updF w.hF)) (.lst upd_same (DqAll.same (same_updF w.hF) ds w.hD))
theorem dl_cat (hpe : ∀ {ta tb : TE}, PE X e1 ta → PE X e2 tb → PE X e (tOp rCat ta tb)) {ta : TE} (h1 : DE Γ X W e1 ta a) {tb : TE} (h2 : DE Γ X W e2 tb b) : DL Γ X W e (tOp rCat ta tb) (lCat a b) := by
  obtain ⟨p1, d1⟩ := h1
  obtain ⟨p2, d2⟩ := h2
  refine ⟨hpe p1 p2, fun f F H σ ρ Q R Xx E q o ox => ?_⟩
  refine d1 f F H σ ρ _ _ Xx E q (fun x ρ1 F1 H1 v1 q1 E1 s1 r1 => ?_) ox
  refine d2 f F1 H1 σ ρ1 _ _ Xx E1 q1 (fun y ρ2 F2 H2 v2 q2 E2 s2 r2 => ?_) ox
  obtain ⟨u, rfl, q2'⟩ := dL_of q2
  clear q2; have q2 := q2'
  obtain ⟨w, rfl, hz, q2'⟩ := dL_of q2
  clear q2; have q2 := q2'
  cases r1 with
  | lst hs ha =>
    cases r2 with
    | lst hs' ha' =>
      refine ⟨_, _, _, _, rfl, rfl, E2.s1 _ _ (s2 _ _ hs), E2.s1 _ _ hs', by rw [ha.len, ha'.len]; exact hz, fun p np => ?_⟩
      exact o _ _ _ _ _ _ q2 (E2.raw np) (s1.trans s2) (own_new E2 ((DqAll.same s2 u ha).app ha') np)
def rListOf (K : PySem.W.Frag) : List V → Hp → VK → Prop := fun xs H Q => ∃ p ys, xs = [V.ref p] ∧ (SqL K H p ys ∨ SqT K H p ys) ∧ ∀ l, H l = none → Q (.ref l) (upd H l (.lst ys))
theorem dl_of (hpe : ∀ {ta : TE}, PE X e1 ta → PE X e (tCB (rListOf Γ.K) (tCons ta tNil))) {ta : TE} (h1 : DE Γ X W e1 ta a) : DL Γ X W e (tCB (rListOf Γ.K) (tCons ta tNil)) (lOf a) := by
  obtain ⟨p1, d1⟩ := h1
  refine ⟨hpe p1, fun f F H σ ρ Q R Xx E q o ox => ?_⟩
  refine d1 f F H σ ρ _ _ Xx E q (fun x ρ1 F1 H1 v1 q1 E1 s1 r1 => ?_) ox
  obtain ⟨us, hx, q1'⟩ := dS_of q1
  clear q1; have q1 := q1'
  obtain ⟨p, xs, rfl, hs, hd⟩ : ∃ p xs, v1 = .ref p ∧ (SqL Γ.K H1 p xs ∨ SqT Γ.K H1 p xs) ∧ DqAll Γ.K F1 xs us := by
    rcases hx with rfl | rfl
    · cases r1 with | lst hs ha => exact ⟨_, _, rfl, .inl (.of (E1.s1 _ _ hs)), ha⟩
    · cases r1 with | tup hs ha => exact ⟨_, _, rfl, .inr (Same.tup E1.s1 hs), ha⟩
  exact ⟨p, xs, rfl, hs, fun l nl => o _ _ _ _ _ _ q1 (E1.raw nl) s1 (own_new E1 hd nl)⟩
/-- an optional part of a slice -/
def DO (Γ : Gx) (X : Cx) (W : WX) (e : Option Expr) (t : TO) (ε : Option EE) : Prop := PO X e t ∧ ∀ f F H σ ρ (Q : Option Int → Hp → Prop) (R : Option Int → List Sl → Prop) Xx, Ent Γ f F H σ ρ → dO ε ρ R Xx → (∀ o ρ' F' H', R o ρ' → Ent Γ f F' H' σ ρ' → Same F F' → Q o H') → OutX Γ f W σ Xx → t σ H Q
theorem do_none (h : PO X none tNoPart) : DO Γ X W none tNoPart none := ⟨h, fun f F H σ ρ Q R Xx E q o ox => o _ _ _ _ q E (Same.refl _)⟩
theorem do_some (hpe : ∀ {ta : TE}, PE X e ta → PO X (some e) (tPart ta)) {ta : TE} (h1 : DE Γ X W e ta a) : DO Γ X W (some e) (tPart ta) (some a) := by
  obtain ⟨p1, d1⟩ := h1
  refine ⟨hpe p1, fun f F H σ ρ Q R Xx E q o ox => ?_⟩
  refine d1 f F H σ ρ _ _ Xx E q (fun x ρ1 F1 H1 v1 q1 E1 s1 r1 => ?_) ox
  obtain ⟨k, rfl, q1'⟩ := dI_of q1
  clear q1; have q1 := q1'
  cases r1
  exact ⟨k, rfl, o _ _ _ _ q1 E1 s1⟩
theorem dl_sl {l h : Option Expr} {lo hi : Option EE} (hpe : ∀ {ta : TE} {tl th : TO}, PE X e1 ta → PO X l tl → PO X h th → PE X e (tSl (rSlL Γ.K) ta tl th)) {ta : TE} (h1 : DE Γ X W e1 ta a) {tl : TO} (h2 : DO Γ X W l tl lo) {th : TO} (h3 : DO Γ X W h th hi) : DL Γ X W e (tSl (rSlL Γ.K) ta tl th) (lSl a lo hi) := by
  obtain ⟨p1, d1⟩ := h1
  obtain ⟨p2, d2⟩ := h2
  obtain ⟨p3, d3⟩ := h3
  refine ⟨hpe p1 p2 p3, fun f F H σ ρ Q R Xx E q o ox => ?_⟩
  refine d1 f F H σ ρ _ _ Xx E q (fun x ρ1 F1 H1 v1 q1 E1 s1 r1 => ?_) ox
  obtain ⟨us, rfl, q1'⟩ := dL_of q1
  clear q1; have q1 := q1'
  refine d2 f F1 H1 σ ρ1 _ _ Xx E1 q1 (fun lo' ρ2 F2 H2 q2 E2 s2 => ?_) ox
  refine d3 f F2 H2 σ ρ2 _ _ Xx E2 q2 (fun hi' ρ3 F3 H3 q3 E3 s3 => ?_) ox
  cases r1 with
  | lst hs ha =>
    have s23 := s2.trans s3
    refine ⟨_, _, rfl, .of (E3.s1 _ _ (s23 _ _ hs)), fun p np => ?_⟩
    exact o _ _ _ _ _ _ q3 (E3.raw np) (s1.trans s23) (own_new E3 ((DqAll.same s23 us ha).cut _ _) np)
/-- a built-in by values -/
def CallD (Γ : Gx) (r : List V → Hp → VK → Prop) (p : PL) : Prop := ∀ f F H σ ρ vs xs Q R, Ent Γ f F H σ ρ → RpAll Γ F vs xs → p xs R → (∀ d v F' H', R d → Ent Γ f F' H' σ ρ → Same F F' → Dq Γ.K F' v d → Q v H') → r vs H Q
theorem de_cb {r : List V → Hp → VK → Prop} {p : PL} {as : AA} (hp : CallD Γ r p) (hpe : ∀ {ta : TA}, PA X es ta → PE X e (tCB r ta)) {ta : TA} (h1 : DA Γ X W es ta as) : DE Γ X W e (tCB r ta) (eCB p as) := by
  obtain ⟨p1, d1⟩ := h1
  refine ⟨hpe p1, fun f F H σ ρ Q R Xx E q o ox => ?_⟩
  refine d1 f F H σ ρ _ _ Xx E q (fun xs ρ1 F1 H1 vs q1 E1 s1 r1 => ?_) ox
  exact hp f F1 H1 σ ρ1 vs xs Q _ E1 r1 q1 fun d v F' H' rd E' s' hd => o _ _ _ _ _ rd E' (s1.trans s') hd
theorem de_lenN (hpe : PE X e (tCB (fun xs H Q => ∃ p ys, xs = [V.ref p] ∧ (SqL Γ.K H p ys ∨ SqT Γ.K H p ys) ∧ Q (.int ys.length) H) (tCons (tVar i) tNil))) : DE Γ X W e (tCB (fun xs H Q => ∃ p ys, xs = [V.ref p] ∧ (SqL Γ.K H p ys ∨ SqT Γ.K H p ys) ∧ Q (.int ys.length) H) (tCons (tVar i) tNil)) (eLenN i) := by
  refine ⟨hpe, fun f F H σ ρ Q R Xx E q o ox => ?_⟩
  unfold eLenN at q
  split at q
  · rename_i ds hx
    obtain ⟨a, xs, e1, e2, e3, e4, e5⟩ := E.sl i _ hx
    refine ⟨.ref a, e1, a, xs, rfl, .inl (.of e2), ?_⟩
    rw [e3.len]
    exact o _ _ _ _ _ q E (Same.refl _) (.int _)
  · rename_i x hx
    obtain ⟨u, hu, hr⟩ := E.sl i _ hx
    refine ⟨u, hu, ?_⟩
    unfold pLen at q
    split at q
    · cases hr with
      | lst hs ha => exact ⟨_, _, rfl, .inl (.of (E.s1 _ _ hs)), by rw [ha.len]; exact o _ _ _ _ _ q E (Same.refl _) (.int _)⟩
    · cases hr with
      | tup hs ha => exact ⟨_, _, rfl, .inr (Same.tup E.s1 hs), by rw [ha.len]; exact o _ _ _ _ _ q E (Same.refl _) (.int _)⟩
    · obtain ⟨p, rfl, hs⟩ := hr
      exact ⟨_, _, rfl, .inl (E.s1.seq hs), by rw [List.length_map]; exact o _ _ _ _ _ q E (Same.refl _) (.int _)⟩
    · exact q.elim
  · exact q.elim
theorem de_chain {r r' : R2} {p p' : P2} (hp : OpD Γ r p) (hp' : OpD Γ r' p') (hpe : ∀ {ta tb tc : TE}, PE X e1 ta → PE X e2 tb → PE X e3 tc → PE X e (tChain r r' ta tb tc)) {ta : TE} (h1 : DE Γ X W e1 ta a) {tb : TE} (h2 : DE Γ X W e2 tb b) {tc : TE} (h3 : DE Γ X W e3 tc c) : DE Γ X W e (tChain r r' ta tb tc) (eChain p p' a b c) := by
  obtain ⟨p1, d1⟩ := h1
  obtain ⟨p2, d2⟩ := h2
  obtain ⟨p3, d3⟩ := h3
  refine ⟨hpe p1 p2 p3, fun f F H σ ρ Q R Xx E q o ox => ?_⟩
  refine d1 f F H σ ρ _ _ Xx E q (fun x ρ1 F1 H1 v1 q1 E1 s1 r1 => ?_) ox
  refine d2 f F1 H1 σ ρ1 _ _ Xx E1 q1 (fun y ρ2 F2 H2 v2 q2 E2 s2 r2 => ?_) ox
  obtain ⟨u, rfl, q2'⟩ := dD_of q2
  clear q2; have q2 := q2'
  obtain ⟨w, rfl, q2'⟩ := dD_of q2
  clear q2; have q2 := q2'
  refine hp f F2 H2 σ ρ2 v1 v2 u w _ _ E2 (Dq.same s2 u r1) r2 q2 fun d v F' H' rd E' s' hd => ?_
  obtain ⟨k, ek, rd'⟩ := dB_of rd
  clear rd; have rd := rd'
  cases ek
  cases hd
  refine ⟨k, rfl, ?_⟩
  cases k with
  | false => exact o _ _ _ _ _ rd E' ((s1.trans s2).trans s') (.bl _)
  | true =>
    refine d3 f F' H' σ ρ2 _ _ Xx E' rd (fun z ρ3 F3 H3 v3 q3 E3 s3 r3 => ?_) ox
    obtain ⟨v', rfl, q3'⟩ := dD_of q3
    clear q3; have q3 := q3'
    exact hp' f F3 H3 σ ρ3 v2 v3 w v' _ _ E3 (Dq.same (s'.trans s3) w r2) r3 q3 fun d v F' H' rd E' s'' hd => o _ _ _ _ _ rd E' ((((s1.trans s2).trans s').trans s3).trans s'') hd
theorem ixSK {K : PySem.W.Frag} (h : X.K = K) : IxR X (rIx K) := h ▸ ix_seq
theorem slLK {K : PySem.W.Frag} (h : X.K = K) : L2.SlR X (rSlL K) := h ▸ sl_list
end
end Cc

set_option Elab.async false
set_option linter.all false
set_option maxRecDepth 100000
set_option maxHeartbeats 4000000
/-! The pure layer: statements. -/
namespace Cc
open PySem PySem.Spec PyProof.Rows L2
structure EndsP where
  nx : List Sl → Prop
  rt : A → List Sl → Prop
  bk : List Sl → Prop
  ct : List Sl → Prop
  ex : XX
abbrev SS := List Sl → EndsP → Prop
abbrev GG := A → List Sl → (List Sl → Prop) → Prop
abbrev GGs := List PyData → List Sl → (List Sl → Prop) → Prop
abbrev II := List Sl → (List A → List Sl → Prop) → XX → Prop
structure OutS (Γ : Gx) (f : Fr) (W : WX) (F : Hp) (P : EndsP) (D : Ends) : Prop where
  nx : ∀ σ ρ F' H', P.nx ρ → Ent Γ f F' H' σ ρ → Same F F' → D.nx σ H'
  rt : ∀ x σ ρ F' H' v, P.rt x ρ → Ent Γ f F' H' σ ρ → Same F F' → Rp Γ F' v x → D.rt v H'
  bk : ∀ σ ρ F' H', P.bk ρ → Ent Γ f F' H' σ ρ → Same F F' → D.bk σ H'
  ct : ∀ σ ρ F' H', P.ct ρ → Ent Γ f F' H' σ ρ → Same F F' → D.ct σ H'
  ex : ∀ σ, OutX Γ f W σ P.ex
def DenS (Γ : Gx) (W : WX) (t : TS) (κ : SS) : Prop := ∀ f F H σ ρ P D, Ent Γ f F H σ ρ → κ ρ P → OutS Γ f W F P D → t D σ H
def DS (Γ : Gx) (X : Cx) (W : WX) (st : Stmt) (t : TS) (κ : SS) : Prop := PS X st t ∧ DenS Γ W t κ
def DSs (Γ : Gx) (X : Cx) (W : WX) (st : List Stmt) (t : TS) (κ : SS) : Prop := PSs X st t ∧ DenS Γ W t κ
def DenG (Γ : Gx) (g : TG) (γ : GG) (gs : List Nat) : Prop := ∀ f F H σ ρ v x (Q : L2.St → Hp → Prop) R, Ent Γ f F H σ ρ → Rp Γ F v x → γ x ρ R → (∀ σ' ρ' F' H', R ρ' → Ent Γ f F' H' σ' ρ' → Same F F' → σ'.length = σ.length → (∀ j, j ∉ gs → σ'[j]? = σ[j]?) → Q σ' H') → g v σ H Q
def DenGs (Γ : Gx) (g : TGs) (γ : GGs) (gs : List Nat) : Prop := ∀ f F H σ ρ vs xs (Q : L2.St → Hp → Prop) R, Ent Γ f F H σ ρ → DqAll Γ.K F vs xs → γ xs ρ R → (∀ σ' ρ' F' H', R ρ' → Ent Γ f F' H' σ' ρ' → Same F F' → σ'.length = σ.length → (∀ j, j ∉ gs → σ'[j]? = σ[j]?) → Q σ' H') → g vs σ H Q
def DG (Γ : Gx) (X : Cx) (e : Expr) (t : TG) (γ : GG) (gs : List Nat) : Prop := PG X e t ∧ DenG Γ t γ gs
def DGs (Γ : Gx) (X : Cx) (e : List Expr) (t : TGs) (γ : GGs) (gs : List Nat) : Prop := PGs X e t ∧ DenGs Γ t γ gs
/-- an iterator gives xs -/
structure JOk (Γ : Gx) (F : Hp) (J : It) (xs : List A) : Prop where
  go : ∀ i H, Same F H → i < xs.length → J.go i H
  stop : ∀ i H, Same F H → xs.length ≤ i → J.stop i H
  yld : ∀ i H v H', Same F H → i < xs.length → J.yld i H v H' → ∃ x, xs[i]? = some x ∧ ((H' = H ∧ Rp Γ F v x) ∨ ∃ T o, H T = none ∧ H' = upd H T o ∧ smpl o ∧ ∀ F', Same F F' → F' T = none → Rp Γ (upd F' T o) v x)
def DenI (Γ : Gx) (W : WX) (wi : TI) (ι : II) : Prop := ∀ f F H σ ρ (G : It → Hp → Prop) R Xx, Ent Γ f F H σ ρ → ι ρ R Xx → (∀ xs ρ' F' H' J, R xs ρ' → Ent Γ f F' H' σ ρ' → Same F F' → JOk Γ F' J xs → G J H') → OutX Γ f W σ Xx → wi σ H G
def DI (Γ : Gx) (X : Cx) (W : WX) (tg e : Expr) (t : TI) (ι : II) : Prop := PI X tg e t ∧ DenI Γ W t ι

/-! ### meanings -/
def sSeq (a b : SS) : SS := fun ρ P => a ρ { P with nx := fun ρ1 => b ρ1 P }
def sNext : SS := fun ρ P => P.nx ρ
def sBrk : SS := fun ρ P => P.bk ρ
def sCnt : SS := fun ρ P => P.ct ρ
def sAsg (e : EE) (g : GG) : SS := fun ρ P => e ρ (fun x ρ1 => g x ρ1 P.nx) P.ex
def sSetO (i : Nat) (l : LL) : SS := fun ρ P => l ρ (fun ds ρ1 => P.nx (ρ1.set i (.own ds))) P.ex
def gNm (i : Nat) : GG := fun x ρ R => R (ρ.set i (.a x))
def gTp (n : Nat) (g : GGs) : GG := fun x ρ R => dD x fun d => match d with | .tuple ds => ds.length = n ∧ g ds ρ R | _ => False
def gsNil : GGs := fun ds ρ R => match ds with | [] => R ρ | _ => False
def gsCons (g : GG) (h : GGs) : GGs := fun ds ρ R => match ds with | d :: ds => g (.d d) ρ fun ρ1 => h ds ρ1 R | [] => False
def gSubO (i : Nat) (e : EE) : GG := fun x ρ R => dD x fun d => (∃ ds, ρ[i]? = some (.own ds)) ∧ e ρ (fun y ρ1 => dI y fun k => match ρ1[i]? with | some (.own ds) => ∃ j, ixN ds.length k = some j ∧ R (ρ1.set i (.own (ds.set j d))) | _ => False) (fun _ _ _ => False)
def sPar (i j : Nat) (as : AA) : SS := fun ρ P => as ρ (fun xs ρ1 => match xs with | [x, y] => P.nx ((ρ1.set i (.a x)).set j (.a y)) | _ => False) P.ex
def sAug (i : Nat) (g : Int → Int → Int) (e : EE) : SS := fun ρ P => match ρ[i]? with
  | some (.a x) => dI x fun a => e ρ (fun y ρ1 => dI y fun b => P.nx (ρ1.set i (.a (.d (.int (g a b)))))) P.ex
  | _ => False
def sExpr (e : EE) : SS := fun ρ P => e ρ (fun _ ρ1 => P.nx ρ1) P.ex
def sApp (i : Nat) (e : EE) : SS := fun ρ P => (∃ ds, ρ[i]? = some (.own ds)) ∧ e ρ (fun y ρ1 => dD y fun d => match ρ1[i]? with | some (.own ds) => szL (ds.length + 1) ∧ P.nx (ρ1.set i (.own (ds ++ [d]))) | _ => False) P.ex
def sExt (i : Nat) (e : EE) : SS := fun ρ P => (∃ ds, ρ[i]? = some (.own ds)) ∧ e ρ (fun y ρ1 => dL y fun es => match ρ1[i]? with | some (.own ds) => szL (ds.length + es.length) ∧ P.nx (ρ1.set i (.own (ds ++ es))) | _ => False) P.ex
def sIf (t : BB) (a b : SS) : SS := fun ρ P => t ρ (fun c ρ1 => if c = true then a ρ1 P else b ρ1 P) P.ex
def sRet (e : EE) : SS := fun ρ P => e ρ P.rt P.ex
def sRetN : SS := fun ρ P => P.rt (.d .none) ρ
/-- what is left of a loop over xs -/
def LoopP (xs : List A) (g : GG) (b : SS) (P : EndsP) (ρ : List Sl) : Prop := ∃ Inv : Nat → List Sl → Prop, Inv 0 ρ ∧ (∀ i x ρ1, xs[i]? = some x → Inv i ρ1 → g x ρ1 fun ρ2 => b ρ2 { P with nx := Inv (i + 1), ct := Inv (i + 1), bk := P.nx }) ∧ ∀ ρ1, Inv xs.length ρ1 → P.nx ρ1
def sFor (ι : II) (g : GG) (b : SS) : SS := fun ρ P => ι ρ (fun xs ρ1 => LoopP xs g b P ρ1) P.ex
def WhileP (t : BB) (b : SS) (P : EndsP) (ρ : List Sl) : Prop := ∃ Inv : Nat → List Sl → Prop, (∃ m, Inv m ρ) ∧ ∀ m ρ1, Inv m ρ1 → t ρ1 (fun c ρ2 => if c = true then b ρ2 { P with nx := fun ρ3 => ∃ m', m' < m ∧ Inv m' ρ3, ct := fun ρ3 => ∃ m', m' < m ∧ Inv m' ρ3, bk := P.nx } else P.nx ρ2) P.ex
def sWhile (t : BB) (b : SS) : SS := fun ρ P => WhileP t b P ρ
def iSeq (e : EE) : II := fun ρ R Xx => e ρ (fun x ρ1 => match x with
  | .d (.list ds) => R (ds.map A.d) ρ1
  | .scr ns => R (ns.map fun n => A.d (.int n)) ρ1
  | _ => False) Xx
def iTp (e : EE) : II := fun ρ R Xx => e ρ (fun x ρ1 => match x with
  | .d (.tuple ds) => R (ds.map A.d) ρ1
  | _ => False) Xx
def rngA (lo : Int) (n : Nat) : List A := (List.range n).map fun i => A.d (.int (lo + (i : Nat)))
def iR1 (e : EE) : II := fun ρ R Xx => e ρ (fun x ρ1 => dI x fun k => -(2 ^ 62) ≤ k ∧ k < 2 ^ 62 ∧ R (rngA 0 k.toNat) ρ1) Xx
def iR2 (e e' : EE) : II := fun ρ R Xx => e ρ (fun x ρ1 => e' ρ1 (fun y ρ2 => dI x fun i => dI y fun j => (-(2 ^ 62) ≤ i ∧ i < 2 ^ 62 ∧ -(2 ^ 62) ≤ j ∧ j < 2 ^ 62) ∧ R (rngA i (j - i).toNat) ρ2) Xx) Xx
def enA (ds : List PyData) : List A := ds.mapIdx fun i d => A.d (.tuple [.int (i : Nat), d])
def iEn (e : EE) : II := fun ρ R Xx => e ρ (fun x ρ1 => dL x fun ds => R (enA ds) ρ1) Xx
def zipA (ds es : List PyData) : List A := (List.zip ds es).map fun p => A.d (.tuple [p.1, p.2])
def iZp (e e' : EE) : II := fun ρ R Xx => e ρ (fun x ρ1 => e' ρ1 (fun y ρ2 => match x, y with
  | .d (.list ds), .d (.list es) => R (zipA ds es) ρ2
  | .d (.tuple ds), .d (.tuple es) => R (zipA ds es) ρ2
  | _, _ => False) Xx) Xx
def wipeP (ρ : List Sl) : List Nat → List Sl
  | [] => ρ
  | v :: vs => (wipeP ρ vs).set v .un
def plainS : Option Sl → Prop
  | some .un => True
  | some (.a _) => True
  | none => True
  | _ => False
def restP (ρ0 : List Sl) : List Nat → List Sl → List Sl
  | [], ρ => ρ
  | v :: vs, ρ => restP ρ0 vs (ρ.set v (ρ0[v]?.getD .un))
def noX : XX := fun _ _ _ => False
def LcP (xs : List A) (g : GG) (t : BB) (e : EE) (vs : List Nat) (R : List PyData → List Sl → Prop) (ρ : List Sl) : Prop := (∀ v ∈ vs, plainS ρ[v]?) ∧ ∃ Inv : Nat → List PyData → List Sl → Prop, Inv 0 [] (wipeP ρ vs) ∧
  (∀ i x acc ρ1, xs[i]? = some x → Inv i acc ρ1 → g x ρ1 fun ρ2 => t ρ2 (fun b ρ3 => if b = true then e ρ3 (fun y ρ4 => dD y fun d => szL (acc.length + 1) ∧ Inv (i + 1) (acc ++ [d]) (wipeP ρ4 vs)) noX else Inv (i + 1) acc (wipeP ρ3 vs)) noX) ∧
  ∀ acc ρ1, Inv xs.length acc ρ1 → R acc (restP ρ vs ρ1)
def lLc (ι : II) (g : GG) (t : BB) (e : EE) (vs : List Nat) : LL := fun ρ R Xx => ι ρ (fun xs ρ1 => LcP xs g t e vs R ρ1) Xx
def bYes : BB := fun ρ R _ => R true ρ

section
variable {Γ : Gx} {X : Cx} {W : WX} {f : Fr} {F H F' H' : Hp} {σ σ' : L2.St} {ρ ρ' : List Sl} {x : A} {v : V} {d : PyData} {e e1 e2 e3 tg : Expr} {a b c : EE} {i j : Nat} {es : List Expr} {pos : Pos} {st : Stmt} {sts sts' : List Stmt} {k k' : SS} {t : BB} {g : GG} {gs : List Nat} {l : LL} {P : EndsP} {D : Ends}
theorem OutS.sub (o : OutS Γ f W F P D) (s : Same F F') : OutS Γ f W F' P D :=
  ⟨fun σ ρ F1 H1 p E q => o.nx σ ρ F1 H1 p E (s.trans q), fun x σ ρ F1 H1 v p E q r => o.rt x σ ρ F1 H1 v p E (s.trans q) r, fun σ ρ F1 H1 p E q => o.bk σ ρ F1 H1 p E (s.trans q), fun σ ρ F1 H1 p E q => o.ct σ ρ F1 H1 p E (s.trans q), o.ex⟩
theorem dss_one (hpe : ∀ {t : TS}, PS X st t → PSs X [st] t) {t : TS} (h : DS Γ X W st t k) : DSs Γ X W [st] t k := by
  obtain ⟨p, d⟩ := h
  exact ⟨hpe p, d⟩
theorem dss_nil (hpe : PSs X [] tNext) : DSs Γ X W [] tNext sNext := ⟨hpe, fun f F H σ ρ P D E q o => o.nx _ _ _ _ q E (Same.refl _)⟩
theorem dss_cons (hpe : ∀ {t u : TS}, PS X st t → PSs X sts u → PSs X (st :: sts) (tSeq t u)) {t : TS} (h : DS Γ X W st t k) {u : TS} (h' : DSs Γ X W sts u k') : DSs Γ X W (st :: sts) (tSeq t u) (sSeq k k') := by
  obtain ⟨p, d⟩ := h
  obtain ⟨p', d'⟩ := h'
  refine ⟨hpe p p', fun f F H σ ρ P D E q o => ?_⟩
  exact d f F H σ ρ { P with nx := fun ρ1 => k' ρ1 P } { D with nx := u D } E q ⟨fun σ1 ρ1 F1 H1 q1 E1 s1 => d' f F1 H1 σ1 ρ1 P D E1 q1 (o.sub s1), o.rt, o.bk, o.ct, o.ex⟩
theorem ds_pass (hpe : PS X st tNext) : DS Γ X W st tNext sNext := ⟨hpe, fun f F H σ ρ P D E q o => o.nx _ _ _ _ q E (Same.refl _)⟩
theorem ds_brk (hpe : PS X st tBreak) : DS Γ X W st tBreak sBrk := ⟨hpe, fun f F H σ ρ P D E q o => o.bk _ _ _ _ q E (Same.refl _)⟩
theorem ds_cnt (hpe : PS X st tCont) : DS Γ X W st tCont sCnt := ⟨hpe, fun f F H σ ρ P D E q o => o.ct _ _ _ _ q E (Same.refl _)⟩
theorem den_gName : DenG Γ (gName i) (gNm i) [i] := fun f F H σ ρ v x Q R E r q o => by
  refine o _ _ F H q (E.setA r) (Same.refl _) (List.length_set ..) fun j hj => ?_
  rw [List.getElem?_set_ne]
  simpa [eq_comm] using hj
theorem dg_name (hpe : PG X e (gName i)) : DG Γ X e (gName i) (gNm i) [i] := ⟨hpe, den_gName⟩
theorem dgs_nil (hpe : PGs X [] gNil) : DGs Γ X [] gNil gsNil [] := ⟨hpe, fun f F H σ ρ vs xs Q R E r q o => by
  cases xs with
  | nil => cases r; exact ⟨rfl, o _ _ F H q E (Same.refl _) rfl fun _ _ => rfl⟩
  | cons d ds => exact q.elim⟩
theorem dgs_cons {γ : GG} {γs : GGs} {gs' : List Nat} (hpe : ∀ {g : TG} {g' : TGs}, PG X e g → PGs X es g' → PGs X (e :: es) (gCons g g')) {g : TG} {g' : TGs} (h : DG Γ X e g γ gs) (h' : DGs Γ X es g' γs gs') : DGs Γ X (e :: es) (gCons g g') (gsCons γ γs) (gs ++ gs') := by
  obtain ⟨p, d⟩ := h
  obtain ⟨p', d'⟩ := h'
  refine ⟨hpe p p', fun f F H σ ρ vs xs Q R E r q o => ?_⟩
  cases xs with
  | nil => exact q.elim
  | cons y ys =>
    cases r with
    | cons r1 r2 =>
      refine ⟨_, _, rfl, ?_⟩
      refine d f F H σ ρ _ (.d y) _ _ E r1 q fun σ1 ρ1 F1 H1 q1 E1 s1 l1 k1 => ?_
      refine d' f F1 H1 σ1 ρ1 _ ys _ _ E1 (DqAll.same s1 ys r2) q1 fun σ2 ρ2 F2 H2 q2 E2 s2 l2 k2 => ?_
      refine o _ _ _ _ q2 E2 (s1.trans s2) (l2.trans l1) fun j hj => ?_
      rw [List.mem_append, not_or] at hj
      exact (k2 j hj.2).trans (k1 j hj.1)
theorem dg_tup {γs : GGs} {n : Nat} (hpe : ∀ {g : TGs}, PGs X es g → PG X e (gTup Γ.K n g)) {g : TGs} (h : DGs Γ X es g γs gs) : DG Γ X e (gTup Γ.K n g) (gTp n γs) gs := by
  obtain ⟨p, d⟩ := h
  refine ⟨hpe p, fun f F H σ ρ v x Q R E r q o => ?_⟩
  obtain ⟨u, rfl, q'⟩ := dD_of q
  clear q
  cases u <;> try exact False.elim q'
  cases r with
  | tup hs ha => exact ⟨_, _, rfl, Same.tup E.s1 hs, by rw [ha.len]; exact q'.1, d f F H σ ρ _ _ Q R E ha q'.2 o⟩
theorem ds_asg {γ : GG} {te : Expr} (hpe : ∀ {t : TE} {g : TG}, PE X e t → PG X te g → PS X st (tAsg t g)) {t : TE} {g : TG} (h : DE Γ X W e t a) (h' : DG Γ X te g γ gs) : DS Γ X W st (tAsg t g) (sAsg a γ) := by
  obtain ⟨p, d⟩ := h
  obtain ⟨p', d'⟩ := h'
  refine ⟨hpe p p', fun f F H σ ρ P D E q o => ?_⟩
  refine d f F H σ ρ _ _ P.ex E q (fun x ρ1 F1 H1 v1 q1 E1 s1 r1 => ?_) (o.ex σ)
  exact d' f F1 H1 σ ρ1 v1 x _ _ E1 r1 q1 fun σ2 ρ2 F2 H2 q2 E2 s2 _ _ => o.nx _ _ _ _ q2 E2 (s1.trans s2)
theorem ds_set (hpe : ∀ {t : TE}, PE X e t → PS X st (tAsg t (gName i))) {t : TE} (h : DE Γ X W e t a) : DS Γ X W st (tAsg t (gName i)) (sAsg a (gNm i)) := by
  obtain ⟨p, d⟩ := h
  refine ⟨hpe p, fun f F H σ ρ P D E q o => ?_⟩
  refine d f F H σ ρ _ _ P.ex E q (fun x ρ1 F1 H1 v1 q1 E1 s1 r1 => ?_) (o.ex σ)
  exact den_gName f F1 H1 σ ρ1 v1 x _ _ E1 r1 q1 fun σ2 ρ2 F2 H2 q2 E2 s2 _ _ => o.nx _ _ _ _ q2 E2 (s1.trans s2)
theorem ds_setO (hpe : ∀ {t : TE}, PE X e t → PS X st (tAsg t (gName i))) {t : TE} (h : DL Γ X W e t l) : DS Γ X W st (tAsg t (gName i)) (sSetO i l) := by
  obtain ⟨p, d⟩ := h
  refine ⟨hpe p, fun f F H σ ρ P D E q o => ?_⟩
  refine d f F H σ ρ _ _ P.ex E q (fun ds ρ1 F1 H1 a xs q1 E1 s1 w => ?_) (o.ex σ)
  exact o.nx _ _ _ _ q1 (E1.setO w.hH w.hD w.hF (.inl w.h0) w.hO w.hR) s1
theorem ds_par {as : AA} (hpe : ∀ {ta : TA}, PA X es ta → PS X st (tPar i j ta)) {t : TA} (h : DA Γ X W es t as) : DS Γ X W st (tPar i j t) (sPar i j as) := by
  obtain ⟨p, d⟩ := h
  refine ⟨hpe p, fun f F H σ ρ P D E q o => ?_⟩
  refine d f F H σ ρ _ _ P.ex E q (fun xs ρ1 F1 H1 vs q1 E1 s1 r1 => ?_) (o.ex σ)
  match xs, vs, q1, r1 with
  | [x, y], [u, w], q1, r1 => exact ⟨u, w, rfl, o.nx _ _ _ _ q1 ((E1.setA r1.1).setA r1.2.1) s1⟩
  | [_, _], [], _, r1 => exact r1.elim
  | [_, _], [_], _, r1 => exact r1.2.elim
  | [_, _], _ :: _ :: _ :: _, _, r1 => exact r1.2.2.elim
  | [], _, q1, _ => exact q1.elim
  | [_], _, q1, _ => exact q1.elim
  | _ :: _ :: _ :: _, _, q1, _ => exact q1.elim
theorem dg_subO {te : Expr} (hpe : ∀ {t : TE}, PE X e t → PG X te (gSub (tVar i) t rSetL)) {t : TE} (h : DE Γ X (fun _ _ _ _ => False) e t a) : DG Γ X te (gSub (tVar i) t rSetL) (gSubO i a) [] := by
  obtain ⟨p, d⟩ := h
  refine ⟨hpe p, fun f F H σ ρ v x Q R E r q o => ?_⟩
  obtain ⟨u, rfl, q'⟩ := dD_of q
  clear q
  obtain ⟨⟨ds, hi⟩, q⟩ := q'
  obtain ⟨p0, xs, e1, e2, e3, e4, e5⟩ := E.sl i _ hi
  refine ⟨.ref p0, e1, ?_⟩
  refine d f F H σ ρ _ _ noX E q (fun y ρ1 F1 H1 v1 q1 E1 s1 r1 => ?_) (fun _ _ _ _ _ _ _ z => z.elim)
  obtain ⟨k, rfl, q1'⟩ := dI_of q1
  clear q1
  split at q1'
  · rename_i ds' hx'
    obtain ⟨j, hj, q2⟩ := q1'
    obtain ⟨a', xs', f1, f2, f3, f4, f5⟩ := E1.sl i _ hx'
    rw [e1] at f1
    cases f1
    cases r1
    refine ⟨_, _, _, j, rfl, rfl, f2, by rw [f3.len]; exact hj, ?_⟩
    exact o _ _ _ _ q2 (E1.mutO hx' e1 (f3.set (Dq.same s1 u r) j)) s1 rfl fun _ _ => rfl
  · exact q1'.elim
theorem ds_aug {gi : Int → Int → Int} (hpe : ∀ {t : TE}, PE X e t → PS X st (tAug i t (ipI gi))) {t : TE} (h : DE Γ X W e t a) : DS Γ X W st (tAug i t (ipI gi)) (sAug i gi a) := by
  obtain ⟨p, d⟩ := h
  refine ⟨hpe p, fun f F H σ ρ P D E q o => ?_⟩
  unfold sAug at q
  split at q
  · rename_i x hx
    obtain ⟨u, hu, hr⟩ := E.sl i _ hx
    obtain ⟨k, rfl, q'⟩ := dI_of q
    clear q
    cases hr
    refine ⟨_, hu, ?_⟩
    refine d f F H σ ρ _ _ P.ex E q' (fun y ρ1 F1 H1 v1 q1 E1 s1 r1 => ?_) (o.ex σ)
    obtain ⟨k', rfl, q1'⟩ := dI_of q1
    cases r1
    exact ⟨_, _, rfl, rfl, o.nx _ _ _ _ q1' (E1.setA (.int _)) s1⟩
  · exact q.elim
theorem ds_expr (hpe : ∀ {t : TE}, PE X e t → PS X st (tDrop t)) {t : TE} (h : DE Γ X W e t a) : DS Γ X W st (tDrop t) (sExpr a) := by
  obtain ⟨p, d⟩ := h
  refine ⟨hpe p, fun f F H σ ρ P D E q o => ?_⟩
  exact d f F H σ ρ _ _ P.ex E q (fun x ρ1 F1 H1 v1 q1 E1 s1 r1 => o.nx _ _ _ _ q1 E1 s1) (o.ex σ)
theorem ds_app (hpe : ∀ {t : TE}, PE X e t → PS X st (tDrop (tBM Γ.K "list" rAppend (tVar i) (tCons t tNil)))) {t : TE} (h : DE Γ X W e t a) : DS Γ X W st (tDrop (tBM Γ.K "list" rAppend (tVar i) (tCons t tNil))) (sApp i a) := by
  obtain ⟨p, d⟩ := h
  refine ⟨hpe p, fun f F H σ ρ P D E q o => ?_⟩
  obtain ⟨⟨ds, hi⟩, q⟩ := q
  obtain ⟨p0, xs, e1, e2, e3, e4, e5⟩ := E.sl i _ hi
  refine ⟨.ref p0, e1, x_tyL (.of e2), ?_⟩
  refine d f F H σ ρ _ _ P.ex E q (fun y ρ1 F1 H1 v1 q1 E1 s1 r1 => ?_) (o.ex σ)
  obtain ⟨u, rfl, q1'⟩ := dD_of q1
  clear q1
  split at q1'
  · rename_i ds' hx'
    obtain ⟨hz, q2⟩ := q1'
    obtain ⟨a', xs', f1, f2, f3, f4, f5⟩ := E1.sl i _ hx'
    rw [e1] at f1
    cases f1
    refine ⟨_, _, _, rfl, rfl, f2, by rw [f3.len]; exact hz, ?_⟩
    exact o.nx _ _ _ _ q2 (E1.mutO hx' e1 (f3.app (.one r1))) s1
  · exact q1'.elim
theorem ds_ext (hpe : ∀ {t : TE}, PE X e t → PS X st (tDrop (tBM Γ.K "list" rExtend (tVar i) (tCons t tNil)))) {t : TE} (h : DE Γ X W e t a) : DS Γ X W st (tDrop (tBM Γ.K "list" rExtend (tVar i) (tCons t tNil))) (sExt i a) := by
  obtain ⟨p, d⟩ := h
  refine ⟨hpe p, fun f F H σ ρ P D E q o => ?_⟩
  obtain ⟨⟨ds, hi⟩, q⟩ := q
  obtain ⟨p0, xs, e1, e2, e3, e4, e5⟩ := E.sl i _ hi
  refine ⟨.ref p0, e1, x_tyL (.of e2), ?_⟩
  refine d f F H σ ρ _ _ P.ex E q (fun y ρ1 F1 H1 v1 q1 E1 s1 r1 => ?_) (o.ex σ)
  obtain ⟨u, rfl, q1'⟩ := dL_of q1
  clear q1
  split at q1'
  · rename_i ds' hx'
    obtain ⟨hz, q2⟩ := q1'
    obtain ⟨a', xs', f1, f2, f3, f4, f5⟩ := E1.sl i _ hx'
    rw [e1] at f1
    cases f1
    cases r1 with
    | lst hs ha =>
      refine ⟨_, _, _, _, rfl, rfl, f2, E1.s1 _ _ hs, by rw [f3.len, ha.len]; exact hz, ?_⟩
      exact o.nx _ _ _ _ q2 (E1.mutO hx' e1 (f3.app ha)) s1
  · exact q1'.elim
theorem ds_if (hpe : ∀ {t : TT} {ta tb : TS}, PT X e t → PSs X sts ta → PSs X sts' tb → PS X st (tIfS t ta tb)) {tt : TT} (h : DT Γ X W e tt t) {ta : TS} (h1 : DSs Γ X W sts ta k) {tb : TS} (h2 : DSs Γ X W sts' tb k') : DS Γ X W st (tIfS tt ta tb) (sIf t k k') := by
  obtain ⟨p, d⟩ := h
  obtain ⟨p1, d1⟩ := h1
  obtain ⟨p2, d2⟩ := h2
  refine ⟨hpe p p1 p2, fun f F H σ ρ P D E q o => ?_⟩
  refine d f F H σ ρ _ _ P.ex E q (fun c ρ1 F1 H1 q1 E1 s1 => ?_) (o.ex σ)
  cases c with
  | true => exact d1 f F1 H1 σ ρ1 P D E1 q1 (o.sub s1)
  | false => exact d2 f F1 H1 σ ρ1 P D E1 q1 (o.sub s1)
theorem ds_ret (hpe : ∀ {t : TE}, PE X e t → PS X st (tRet t)) {t : TE} (h : DE Γ X W e t a) : DS Γ X W st (tRet t) (sRet a) := by
  obtain ⟨p, d⟩ := h
  refine ⟨hpe p, fun f F H σ ρ P D E q o => ?_⟩
  exact d f F H σ ρ _ _ P.ex E q (fun x ρ1 F1 H1 v1 q1 E1 s1 r1 => o.rt _ _ _ _ _ _ q1 E1 s1 r1) (o.ex σ)
theorem ds_retN (hpe : PS X st tRetN) : DS Γ X W st tRetN sRetN := ⟨hpe, fun f F H σ ρ P D E q o => o.rt _ _ _ _ _ _ q E (Same.refl _) .non⟩
/-! ### what is walked -/
theorem seqL_eq {K : PySem.W.Frag} {F H : Hp} {a : Addr} {xs ys : List V} (h : F a = some (.lst xs)) (s : Same F H) (i : Nat) (x : V) (hx : ∀ ys, SqL K H a ys → ys[i]? = some x) : xs[i]? = some x := hx xs (.of (s _ _ h))
theorem jok_list {a : Addr} {xs : List V} {ds : List PyData} (h : F a = some (.lst xs)) (hd : DqAll Γ.K F xs ds) : JOk Γ F (Itl Γ.K a) (ds.map A.d) where
  go i H s hi := by
    rw [List.length_map, ← hd.len] at hi
    exact ⟨xs, xs[i], .of (s _ _ h), List.getElem?_eq_getElem hi⟩
  stop i H s hi := by
    rw [List.length_map, ← hd.len] at hi
    exact ⟨xs, .of (s _ _ h), hi⟩
  yld i H v H' s hil y := by
    obtain ⟨rfl, y⟩ := y
    obtain ⟨d, hx, hv⟩ := hd.getV (y xs (.of (s _ _ h)))
    exact ⟨.d d, by rw [List.getElem?_map, hx]; rfl, .inl ⟨rfl, hv⟩⟩
theorem jok_tup {a : Addr} {xs : List V} {ds : List PyData} (h : SqT Γ.K F a xs) (hd : DqAll Γ.K F xs ds) : JOk Γ F (Itt Γ.K a) (ds.map A.d) where
  go i H s hi := by
    rw [List.length_map, ← hd.len] at hi
    exact ⟨xs, xs[i], Same.tup s h, List.getElem?_eq_getElem hi⟩
  stop i H s hi := by
    rw [List.length_map, ← hd.len] at hi
    exact ⟨xs, Same.tup s h, hi⟩
  yld i H v H' s hil y := by
    obtain ⟨rfl, y⟩ := y
    obtain ⟨d, hx, hv⟩ := hd.getV (y xs (Same.tup s h))
    exact ⟨.d d, by rw [List.getElem?_map, hx]; rfl, .inl ⟨rfl, hv⟩⟩
theorem jok_scr {a : Addr} {ns : List Int} (h : SqL Γ.K F a (ns.map V.int)) : JOk Γ F (Itl Γ.K a) (ns.map fun n => A.d (.int n)) where
  go i H s hi := by
    rw [List.length_map] at hi
    exact ⟨_, .int ns[i], s.seq h, by rw [List.getElem?_map, List.getElem?_eq_getElem hi]; rfl⟩
  stop i H s hi := by
    rw [List.length_map] at hi
    exact ⟨_, s.seq h, by rw [List.length_map]; exact hi⟩
  yld i H v H' s hil y := by
    obtain ⟨rfl, y⟩ := y
    have e := y _ (s.seq h)
    rw [List.getElem?_map] at e
    obtain ⟨n, hn, rfl⟩ := Option.map_eq_some_iff.mp e
    exact ⟨.d (.int n), by rw [List.getElem?_map, hn]; rfl, .inl ⟨rfl, .int n⟩⟩
theorem rngA_len {lo : Int} {n : Nat} : (rngA lo n).length = n := by unfold rngA; rw [List.length_map, List.length_range]
theorem rngA_get {lo : Int} {n i : Nat} (h : i < n) : (rngA lo n)[i]? = some (.d (.int (lo + (i : Nat)))) := by
  unfold rngA
  rw [List.getElem?_map, List.getElem?_range h]
  rfl
theorem jok_rng {lo : Int} {n : Nat} : JOk Γ F (Itr lo n) (rngA lo n) where
  go i H s hi := by
    rw [rngA_len] at hi
    exact hi
  stop i H s hi := by
    rw [rngA_len] at hi
    exact hi
  yld i H v H' s hil y := by
    obtain ⟨rfl, rfl⟩ := y
    rw [rngA_len] at hil
    exact ⟨_, rngA_get hil, .inl ⟨rfl, .int _⟩⟩
theorem enA_len {ds : List PyData} : (enA ds).length = ds.length := by unfold enA; rw [List.length_mapIdx]
theorem enA_get {ds : List PyData} {i : Nat} {d : PyData} (h : ds[i]? = some d) : (enA ds)[i]? = some (.d (.tuple [.int (i : Nat), d])) := by
  unfold enA
  rw [List.getElem?_mapIdx, h]
  rfl
theorem jok_en {a : Addr} {xs : List V} {ds : List PyData} (h : F a = some (.lst xs)) (hd : DqAll Γ.K F xs ds) : JOk Γ F (Ite Γ.K a) (enA ds) where
  go i H s hi := by
    rw [enA_len, ← hd.len] at hi
    exact ⟨xs, xs[i], .of (s _ _ h), List.getElem?_eq_getElem hi⟩
  stop i H s hi := by
    rw [enA_len, ← hd.len] at hi
    exact ⟨xs, .of (s _ _ h), hi⟩
  yld i H v H' s hil y := by
    obtain ⟨T, x, rfl, nT, rfl, y⟩ := y
    obtain ⟨d, hx, hv⟩ := hd.getV (y xs (.of (s _ _ h)))
    refine ⟨_, enA_get hx, .inr ⟨T, _, nT, rfl, trivial, fun F' sF nF => ?_⟩⟩
    exact .tup (.of upd_same) (.cons (.int _) (.cons (Dq.same (sF.trans (same_updF nF)) d hv) .nil))
theorem zipA_len {ds es : List PyData} : (zipA ds es).length = min ds.length es.length := by unfold zipA; rw [List.length_map, List.length_zip]
theorem zipA_get {ds es : List PyData} {i : Nat} {d u : PyData} (h : ds[i]? = some d) (h' : es[i]? = some u) : (zipA ds es)[i]? = some (.d (.tuple [d, u])) := by
  unfold zipA
  rw [List.getElem?_map, List.getElem?_zip_eq_some (z := (d, u)).mpr ⟨h, h'⟩]
  rfl
theorem jok_zp {a b : Addr} {xs ys : List V} {ds es : List PyData} (h : F a = some (.lst xs)) (hd : DqAll Γ.K F xs ds) (h' : F b = some (.lst ys)) (hd' : DqAll Γ.K F ys es) : JOk Γ F (Itz Γ.K a b) (zipA ds es) where
  go i H s hi := by
    rw [zipA_len, ← hd.len, ← hd'.len] at hi
    exact ⟨xs, ys, xs[i], ys[i], .of (s _ _ h), .of (s _ _ h'), List.getElem?_eq_getElem _, List.getElem?_eq_getElem _⟩
  stop i H s hi := by
    rw [zipA_len, ← hd.len, ← hd'.len] at hi
    exact ⟨xs, ys, .of (s _ _ h), .of (s _ _ h'), by omega⟩
  yld i H v H' s hil y := by
    obtain ⟨T, x, x', rfl, nT, rfl, y, y'⟩ := y
    obtain ⟨d, hx, hv⟩ := hd.getV (y xs (.of (s _ _ h)))
    obtain ⟨u, hx', hv'⟩ := hd'.getV (y' ys (.of (s _ _ h')))
    refine ⟨_, zipA_get hx hx', .inr ⟨T, _, nT, rfl, trivial, fun F' sF nF => ?_⟩⟩
    exact .tup (.of upd_same) (.cons (Dq.same (sF.trans (same_updF nF)) d hv) (.cons (Dq.same (sF.trans (same_updF nF)) u hv') .nil))
theorem jok_zpT {a b : Addr} {xs ys : List V} {ds es : List PyData} (h : SqT Γ.K F a xs) (hd : DqAll Γ.K F xs ds) (h' : SqT Γ.K F b ys) (hd' : DqAll Γ.K F ys es) : JOk Γ F (RZ.ItzT Γ.K a b) (zipA ds es) where
  go i H s hi := by
    rw [zipA_len, ← hd.len, ← hd'.len] at hi
    exact ⟨xs, ys, xs[i], ys[i], Same.tup s h, Same.tup s h', List.getElem?_eq_getElem _, List.getElem?_eq_getElem _⟩
  stop i H s hi := by
    rw [zipA_len, ← hd.len, ← hd'.len] at hi
    exact ⟨xs, ys, Same.tup s h, Same.tup s h', by omega⟩
  yld i H v H' s hil y := by
    obtain ⟨T, x, x', rfl, nT, rfl, y, y'⟩ := y
    obtain ⟨d, hx, hv⟩ := hd.getV (y xs (Same.tup s h))
    obtain ⟨u, hx', hv'⟩ := hd'.getV (y' ys (Same.tup s h'))
    refine ⟨_, zipA_get hx hx', .inr ⟨T, _, nT, rfl, trivial, fun F' sF nF => ?_⟩⟩
    exact .tup (.of upd_same) (.cons (Dq.same (sF.trans (same_updF nF)) d hv) (.cons (Dq.same (sF.trans (same_updF nF)) u hv') .nil))
/-! ### iterators -/
theorem di_list (hpe : ∀ {t : TE}, PE X e t → PI X tg e (iList Γ.K t)) {t : TE} (h : DE Γ X W e t a) : DI Γ X W tg e (iList Γ.K t) (iSeq a) := by
  obtain ⟨p, d⟩ := h
  refine ⟨hpe p, fun f F H σ ρ G R Xx E q o ox => ?_⟩
  refine d f F H σ ρ _ _ Xx E q (fun x ρ1 F1 H1 v1 q1 E1 s1 r1 => ?_) ox
  split at q1
  · cases r1 with
    | lst hs ha => exact ⟨_, rfl, ⟨_, .of (E1.s1 _ _ hs)⟩, o _ _ _ _ _ q1 E1 s1 (jok_list hs ha)⟩
  · obtain ⟨b, rfl, hs⟩ := r1
    exact ⟨_, rfl, ⟨_, E1.s1.seq hs⟩, o _ _ _ _ _ q1 E1 s1 (jok_scr hs)⟩
  · exact q1.elim
theorem di_tup (hpe : ∀ {t : TE}, PE X e t → PI X tg e (iTup Γ.K t)) {t : TE} (h : DE Γ X W e t a) : DI Γ X W tg e (iTup Γ.K t) (iTp a) := by
  obtain ⟨p, d⟩ := h
  refine ⟨hpe p, fun f F H σ ρ G R Xx E q o ox => ?_⟩
  refine d f F H σ ρ _ _ Xx E q (fun x ρ1 F1 H1 v1 q1 E1 s1 r1 => ?_) ox
  split at q1
  · cases r1 with
    | tup hs ha => exact ⟨_, rfl, ⟨_, Same.tup E1.s1 hs⟩, o _ _ _ _ _ q1 E1 s1 (jok_tup hs ha)⟩
  · exact q1.elim
theorem di_r1 (hpe : ∀ {t : TE}, PE X e1 t → PI X tg e (iRng1 (tCons t tNil))) {t : TE} (h : DE Γ X W e1 t a) : DI Γ X W tg e (iRng1 (tCons t tNil)) (iR1 a) := by
  obtain ⟨p, d⟩ := h
  refine ⟨hpe p, fun f F H σ ρ G R Xx E q o ox => ?_⟩
  refine d f F H σ ρ _ _ Xx E q (fun x ρ1 F1 H1 v1 q1 E1 s1 r1 => ?_) ox
  obtain ⟨k, rfl, q2⟩ := dI_of q1
  cases r1
  exact ⟨_, rfl, q2.1, q2.2.1, o _ _ _ _ _ q2.2.2 E1 s1 jok_rng⟩
theorem di_r2 (hpe : ∀ {t u : TE}, PE X e1 t → PE X e2 u → PI X tg e (iRng2 (tCons t (tCons u tNil)))) {t u : TE} (h : DE Γ X W e1 t a) (h' : DE Γ X W e2 u b) : DI Γ X W tg e (iRng2 (tCons t (tCons u tNil))) (iR2 a b) := by
  obtain ⟨p, d⟩ := h
  obtain ⟨p', d'⟩ := h'
  refine ⟨hpe p p', fun f F H σ ρ G R Xx E q o ox => ?_⟩
  refine d f F H σ ρ _ _ Xx E q (fun x ρ1 F1 H1 v1 q1 E1 s1 r1 => ?_) ox
  refine d' f F1 H1 σ ρ1 _ _ Xx E1 q1 (fun y ρ2 F2 H2 v2 q2 E2 s2 r2 => ?_) ox
  obtain ⟨k, rfl, q3⟩ := dI_of q2
  obtain ⟨k', rfl, q4⟩ := dI_of q3
  cases r1
  cases r2
  exact ⟨_, _, rfl, q4.1, o _ _ _ _ _ q4.2 E2 (s1.trans s2) jok_rng⟩
theorem di_en (hpe : ∀ {t : TE}, PE X e1 t → PI X tg e (iEnum Γ.K (tCons t tNil))) {t : TE} (h : DE Γ X W e1 t a) : DI Γ X W tg e (iEnum Γ.K (tCons t tNil)) (iEn a) := by
  obtain ⟨p, d⟩ := h
  refine ⟨hpe p, fun f F H σ ρ G R Xx E q o ox => ?_⟩
  refine d f F H σ ρ _ _ Xx E q (fun x ρ1 F1 H1 v1 q1 E1 s1 r1 => ?_) ox
  obtain ⟨ds, rfl, q2⟩ := dL_of q1
  cases r1 with
  | lst hs ha => exact ⟨_, _, rfl, .of (E1.s1 _ _ hs), o _ _ _ _ _ q2 E1 s1 (jok_en hs ha)⟩
theorem di_zp (hpe : ∀ {t u : TE}, PE X e1 t → PE X e2 u → PI X tg e (RZ.iZipA Γ.K (tCons t (tCons u tNil)))) {t u : TE} (h : DE Γ X W e1 t a) (h' : DE Γ X W e2 u b) : DI Γ X W tg e (RZ.iZipA Γ.K (tCons t (tCons u tNil))) (iZp a b) := by
  obtain ⟨p, d⟩ := h
  obtain ⟨p', d'⟩ := h'
  refine ⟨hpe p p', fun f F H σ ρ G R Xx E q o ox => ?_⟩
  refine d f F H σ ρ _ _ Xx E q (fun x ρ1 F1 H1 v1 q1 E1 s1 r1 => ?_) ox
  refine d' f F1 H1 σ ρ1 _ _ Xx E1 q1 (fun y ρ2 F2 H2 v2 q2 E2 s2 r2 => ?_) ox
  split at q2
  · cases r1 with
    | lst hs ha =>
      cases r2 with
      | lst hs' ha' => exact ⟨_, _, _, _, rfl, .inl ⟨.of (E2.s1 _ _ (s2 _ _ hs)), .of (E2.s1 _ _ hs'), o _ _ _ _ _ q2 E2 (s1.trans s2) (jok_zp (s2 _ _ hs) (DqAll.same s2 _ ha) hs' ha')⟩⟩
  · cases r1 with
    | tup hs ha =>
      cases r2 with
      | tup hs' ha' => exact ⟨_, _, _, _, rfl, .inr ⟨Same.tup (s2.trans E2.s1) hs, Same.tup E2.s1 hs', o _ _ _ _ _ q2 E2 (s1.trans s2) (jok_zpT (Same.tup s2 hs) (DqAll.same s2 _ ha) hs' ha')⟩⟩
  · exact q2.elim
theorem ds_for {ι : II} {γ : GG} (hpe : ∀ {wi : TI} {g : TG} {tb : TS}, PI X tg e wi → PG X tg g → PSs X sts tb → PS X st (tFor wi g tb)) {wi : TI} {g : TG} (h : DI Γ X W tg e wi ι) (hg : DG Γ X tg g γ gs) {tb : TS} (hb : DSs Γ X W sts tb k) : DS Γ X W st (tFor wi g tb) (sFor ι γ k) := by
  obtain ⟨p, d⟩ := h
  obtain ⟨p', d'⟩ := hg
  obtain ⟨p2, d2⟩ := hb
  refine ⟨hpe p p' p2, fun f F H σ ρ P D E q o => ?_⟩
  refine d f F H σ ρ _ _ P.ex E q (fun xs ρ1 F1 H1 J q1 E1 s1 jk => ?_) (o.ex σ)
  obtain ⟨Inv, h0, hs, hd⟩ := q1
  refine ⟨fun i m σ H => m = xs.length - i ∧ i ≤ xs.length ∧ ∃ F ρ, Ent Γ f F H σ ρ ∧ Same F1 F ∧ Inv i ρ, ⟨_, rfl, Nat.zero_le _, F1, ρ1, E1, Same.refl _, h0⟩, ?_⟩
  rintro i m σ1 H2 ⟨rfl, hi, F2, ρ2, E2, s2, inv⟩
  by_cases lt : i < xs.length
  · refine .inr ⟨jk.go i H2 (s2.trans E2.s1) lt, fun σ H => ∃ F ρ, Ent Γ f F H σ ρ ∧ Same F1 F ∧ Inv (i + 1) ρ, fun σ' H' p' => ⟨xs.length - (i + 1), by omega, rfl, lt, p'⟩, fun v H3 y => ?_⟩
    obtain ⟨x, hx, y⟩ := jk.yld i H2 v H3 (s2.trans E2.s1) lt y
    have q3 := hs i x ρ2 hx inv
    obtain ⟨F3, E3, s3, r3⟩ : ∃ F3, Ent Γ f F3 H3 σ1 ρ2 ∧ Same F2 F3 ∧ Rp Γ F3 v x := by
      rcases y with ⟨rfl, r⟩ | ⟨T, oo, nT, rfl, so, r⟩
      · exact ⟨F2, E2, Same.refl _, r.same s2⟩
      · have nF := E2.fnone nT
        exact ⟨_, E2.alloc nT so, same_updF nF, r F2 s2 nF⟩
    refine d' f F3 H3 σ1 ρ2 v x _ _ E3 r3 q3 fun σ4 ρ4 F4 H4 q4 E4 s4 _ _ => ?_
    have s14 := (s2.trans s3).trans s4
    refine d2 f F4 H4 σ4 ρ4 _ _ E4 q4 ⟨fun σ5 ρ5 F5 H5 q5 E5 s5 => ⟨F5, ρ5, E5, s14.trans s5, q5⟩, fun x σ5 ρ5 F5 H5 v q5 E5 s5 r5 => o.rt x _ _ _ _ _ q5 E5 ((s1.trans s14).trans s5) r5, fun σ5 ρ5 F5 H5 q5 E5 s5 => o.nx _ _ _ _ q5 E5 ((s1.trans s14).trans s5), fun σ5 ρ5 F5 H5 q5 E5 s5 => ⟨F5, ρ5, E5, s14.trans s5, q5⟩, o.ex⟩
  · have e : i = xs.length := by omega
    subst e
    exact .inl ⟨jk.stop _ H2 (s2.trans E2.s1) (Nat.le_refl _), o.nx _ _ _ _ (hd ρ2 inv) E2 (s1.trans s2)⟩
theorem ds_while (hpe : ∀ {t : TT} {tb : TS}, PT X e t → PSs X sts tb → PS X st (tWhile t tb)) {tt : TT} (h : DT Γ X W e tt t) {tb : TS} (hb : DSs Γ X W sts tb k) : DS Γ X W st (tWhile tt tb) (sWhile t k) := by
  obtain ⟨p, d⟩ := h
  obtain ⟨p2, d2⟩ := hb
  refine ⟨hpe p p2, fun f F H σ ρ P D E q o => ?_⟩
  obtain ⟨Inv, ⟨m0, h0⟩, hs⟩ := q
  refine ⟨fun m σ H => ∃ F' ρ, Ent Γ f F' H σ ρ ∧ Same F F' ∧ Inv m ρ, ⟨m0, F, ρ, E, Same.refl _, h0⟩, ?_⟩
  rintro m σ1 H1 ⟨F1, ρ1, E1, s1, inv⟩
  refine d f F1 H1 σ1 ρ1 _ _ P.ex E1 (hs m ρ1 inv) (fun c ρ2 F2 H2 q2 E2 s2 => ?_) (o.ex σ1)
  cases c with
  | false => exact o.nx _ _ _ _ q2 E2 (s1.trans s2)
  | true =>
    refine ⟨fun σ H => ∃ F' ρ m', Ent Γ f F' H σ ρ ∧ Same F F' ∧ m' < m ∧ Inv m' ρ, fun σ' H' ⟨F', ρ', m', E', s', lt, i'⟩ => ⟨m', lt, F', ρ', E', s', i'⟩, ?_⟩
    have s12 := s1.trans s2
    exact d2 f F2 H2 σ1 ρ2 _ _ E2 q2 ⟨fun σ5 ρ5 F5 H5 ⟨m', lt, q5⟩ E5 s5 => ⟨F5, ρ5, m', E5, s12.trans s5, lt, q5⟩, fun x σ5 ρ5 F5 H5 v q5 E5 s5 r5 => o.rt x _ _ _ _ _ q5 E5 (s12.trans s5) r5, fun σ5 ρ5 F5 H5 q5 E5 s5 => o.nx _ _ _ _ q5 E5 (s12.trans s5), fun σ5 ρ5 F5 H5 ⟨m', lt, q5⟩ E5 s5 => ⟨F5, ρ5, m', E5, s12.trans s5, lt, q5⟩, o.ex⟩
/-! ### comprehensions -/
theorem wipe_eq {σ' : L2.St} (hl : σ'.length = σ.length) : ∀ (vs : List Nat), (∀ j, j ∉ vs → σ'[j]? = σ[j]?) → wipe σ' vs = wipe σ vs := by
  intro vs h
  apply List.ext_getElem?
  intro j
  have get : ∀ (τ : L2.St) (ws : List Nat) (j : Nat), (wipe τ ws)[j]? = if j ∈ ws then (if j < τ.length then some none else none) else τ[j]? := by
    intro τ ws
    induction ws with
    | nil => intro j; simp [wipe]
    | cons w ws ih =>
      intro j
      show ((wipe τ ws).set w none)[j]? = _
      rw [List.getElem?_set, wipe_length]
      by_cases hj : w = j
      · subst hj
        simp
      · rw [if_neg hj, ih j]
        have : j ∈ w :: ws ↔ j ∈ ws := by simp [eq_comm, hj]
        simp only [this]
  rw [get, get, hl]
  by_cases hj : j ∈ vs
  · rw [if_pos hj, if_pos hj]
  · rw [if_neg hj, if_neg hj, h j hj]
theorem Ent.wiped (E : Ent Γ f F H σ ρ) : ∀ vs : List Nat, Ent Γ f F H (wipe σ vs) (wipeP ρ vs)
  | [] => E
  | v :: vs => (Ent.wiped E vs).setU
theorem Ent.rest {ρ0 : List Sl} {F0 : Hp} (E0 : Ent Γ f F0 H' σ ρ0) (s : Same F0 F) : ∀ (vs : List Nat) {ρ : List Sl}, vs.Nodup → (∀ v ∈ vs, plainS ρ0[v]?) → Ent Γ f F H (wipe σ vs) ρ → Ent Γ f F H σ (restP ρ0 vs ρ)
  | [], ρ, _, _, E => E
  | v :: vs, ρ, hn, hp, E => by
    have hv := List.nodup_cons.mp hn
    refine Ent.rest E0 s vs hv.2 (fun w hw => hp w (List.mem_cons_of_mem _ hw)) ?_
    show Ent Γ f F H (wipe σ vs) (ρ.set v (ρ0[v]?.getD .un))
    have hw : ∀ (τ : L2.St) (ws : List Nat), v ∉ ws → (wipe τ ws)[v]? = τ[v]? := fun τ ws => by
      induction ws with
      | nil => intro _; rfl
      | cons w ws ih =>
        intro h
        rw [List.mem_cons, not_or] at h
        show ((wipe τ ws).set w none)[v]? = _
        rw [List.getElem?_set, if_neg (fun z => h.1 z.symm)]
        exact ih h.2
    have hσ := hw σ vs hv.1
    have pl := hp v List.mem_cons_self
    have E' : Ent Γ f F H ((wipe σ vs).set v none) ρ := E
    by_cases lt : v < (wipe σ vs).length
    · have E1 := E'.put (i := v) (w := (wipe σ vs)[v]) (s := ρ0[v]?.getD .un) (fun ds z => by
        cases h0 : ρ0[v]? with
        | none => rw [h0] at z; cases z
        | some s0 => rw [h0] at z pl; cases z; exact pl) (fun _ => by
        cases h0 : ρ0[v]? with
        | none => trivial
        | some s0 =>
          rw [h0] at pl
          have := E0.sl v s0 h0
          cases s0 with
          | un => trivial
          | own ds => exact pl.elim
          | rng n => exact pl.elim
          | a x =>
            obtain ⟨u, h1, h2⟩ := this
            rw [← hσ, List.getElem?_eq_getElem lt] at h1
            exact ⟨u, h1, h2.same s⟩)
      rwa [List.set_set, set_self (List.getElem?_eq_getElem lt)] at E1
    · rw [List.set_eq_of_length_le (by omega)] at E'
      rw [List.set_eq_of_length_le (by rw [← E'.len]; omega)]
      exact E'
theorem own_wipe : ∀ (vs : List Nat) {b : Addr}, OwnA (wipe σ vs) (wipeP ρ vs) b → OwnA σ ρ b
  | [], b, h => h
  | v :: vs, b, h => by
    rcases own_set (σ := wipe σ vs) (ρ := wipeP ρ vs) (w := none) (s := .un) h with h | ⟨⟨_, h⟩, _⟩
    · exact own_wipe vs h
    · cases h
theorem own_rest {ρ0 : List Sl} : ∀ (vs : List Nat) {ρ : List Sl} {b : Addr}, (∀ v ∈ vs, plainS ρ0[v]?) → OwnA σ (restP ρ0 vs ρ) b → OwnA (wipe σ vs) ρ b
  | [], _, _, _, h => h
  | v :: vs, ρ, b, hp, h => by
    obtain ⟨j, ds, h1, h2⟩ := own_rest vs (ρ := ρ.set v (ρ0[v]?.getD .un)) (fun w hw => hp w (List.mem_cons_of_mem _ hw)) h
    rw [List.getElem?_set] at h1
    by_cases hj : v = j
    · rw [if_pos hj] at h1
      split at h1
      · have pl := hp v List.mem_cons_self
        cases h0 : ρ0[v]? with
        | none => rw [h0] at h1; cases h1
        | some s0 => rw [h0] at h1 pl; cases h1; exact pl.elim
      · cases h1
    · rw [if_neg hj] at h1
      refine ⟨j, ds, h1, ?_⟩
      show ((wipe σ vs).set v none)[j]? = _
      rw [List.getElem?_set, if_neg hj]
      exact h2
theorem dl_lc {ι : II} {γ : GG} {τ : BB} {ε : EE} {vs : List Nat} {X' : Cx} {t0 : TE} (hn : vs.Nodup) (hg' : ∀ v ∈ gs, v ∈ vs)
    {wi : TI} {g : TG} {tt : TT} {te : TE} (hpe : PE X e (tLc wi g tt te vs)) (h : DenI Γ W wi ι) (hg : DenG Γ g γ gs) (ht : DenB Γ (fun _ _ _ _ => False) tt τ) (he : DenE Γ (fun _ _ _ _ => False) te ε) : DL Γ X W e (tLc wi g tt te vs) (lLc ι γ τ ε vs) := by
  refine ⟨hpe, fun f F H σ ρ Q R Xx E q o ox => ?_⟩
  refine h f F H σ ρ _ _ Xx E q (fun xs ρ1 F1 H1 J q1 E1 s1 jk => ?_) ox
  obtain ⟨hpl, Inv, h0, hs, hd⟩ := q1
  intro Dd nD
  have Ew := E1.wiped vs
  refine ⟨fun i m H => m = xs.length - i ∧ i ≤ xs.length ∧ ∃ F ρ acc as, Ent Γ f F H (wipe σ vs) ρ ∧ Same F1 F ∧ Inv i acc ρ ∧ Own1 Γ f F H (wipe σ vs) ρ Dd as acc,
    ⟨_, rfl, Nat.zero_le _, F1, _, [], [], Ew.raw nD, Same.refl _, h0, own_new Ew .nil nD⟩, ?_⟩
  rintro i m H2 ⟨rfl, hi, F2, ρ2, acc, as, E2, s2, inv, w⟩
  by_cases lt : i < xs.length
  · refine .inr ⟨jk.go i H2 (s2.trans E2.s1) lt, fun H => ∃ F ρ acc as, Ent Γ f F H (wipe σ vs) ρ ∧ Same F1 F ∧ Inv (i + 1) acc ρ ∧ Own1 Γ f F H (wipe σ vs) ρ Dd as acc, fun H' p' => ⟨xs.length - (i + 1), by omega, rfl, lt, p'⟩, fun v H3 y => ?_⟩
    obtain ⟨x, hx, y⟩ := jk.yld i H2 v H3 (s2.trans E2.s1) lt y
    have q3 := hs i x acc ρ2 hx inv
    obtain ⟨F3, E3, s3, r3, w3⟩ : ∃ F3, Ent Γ f F3 H3 (wipe σ vs) ρ2 ∧ Same F2 F3 ∧ Rp Γ F3 v x ∧ Own1 Γ f F3 H3 (wipe σ vs) ρ2 Dd as acc := by
      rcases y with ⟨rfl, r⟩ | ⟨T, oo, nT, rfl, so, r⟩
      · exact ⟨F2, E2, Same.refl _, r.same s2, w⟩
      · have nF := E2.fnone nT
        have hne : Dd ≠ T := ne_of_none w.hH nT
        exact ⟨_, E2.alloc nT so, same_updF nF, r F2 s2 nF, ⟨by rw [upd_ne hne]; exact w.hH, by rw [upd_ne hne]; exact w.hF, DqAll.same (same_updF nF) acc w.hD, w.h0, w.hO, w.hR⟩⟩
    have hM : ¬ f.M Dd := fun z => E3.ml Dd z w3.h0
    -- what the turn keeps of the list
    have keep : ∀ {σ' : L2.St} {ρ' : List Sl} {F' H' : Hp}, Ent Γ (f.from (wipe σ vs) ρ2 F3 H3) F' H' σ' ρ' → σ'.length = (wipe σ vs).length → (∀ j, j ∉ vs → σ'[j]? = (wipe σ vs)[j]?) → Ent Γ f F' H' (wipe σ vs) (wipeP ρ' vs) ∧ Own1 Γ f F' H' (wipe σ vs) (wipeP ρ' vs) Dd as acc := by
      intro σ' ρ' F' H' E' hl hk
      have E'' := E3.trans E'
      have e1 : wipe σ' vs = wipe σ vs := by
        rw [wipe_eq hl vs hk]
        exact wipe_eq (wipe_length σ vs) vs fun j hj => by
          have get : ∀ (ws : List Nat), j ∉ ws → (wipe σ ws)[j]? = σ[j]? := by
            intro ws
            induction ws with
            | nil => intro _; rfl
            | cons w ws ih =>
              intro h
              rw [List.mem_cons, not_or] at h
              show ((wipe σ ws).set w none)[j]? = _
              rw [List.getElem?_set, if_neg (fun z => h.1 z.symm)]
              exact ih h.2
          exact get vs hj
      have Ew' := E''.wiped vs
      rw [e1] at Ew'
      have hH' : H' Dd = some (.lst as) := E'.kept w3.hH hM w3.hO
      have nO : ¬ OwnA σ' ρ' Dd := fun z => by
        rcases E'.ownM z with z | z | z
        · have z : H3 Dd = none := z
          rw [w3.hH] at z; cases z
        · exact hM z
        · exact w3.hO z
      refine ⟨Ew', hH', ?_, DqAll.same E'.s0 acc w3.hD, w3.h0, fun z => nO (own_wipe vs (by rw [e1]; exact z)), w3.hR⟩
      cases hF' : F' Dd with
      | none => rfl
      | some oo =>
        rcases E'.new _ _ hF' with z | z | z | z
        · have z : F3 Dd = some oo := z
          rw [w3.hF] at z; cases z
        · have z : H3 Dd = none := z
          rw [w3.hH] at z; cases z
        · exact absurd z hM
        · exact absurd z w3.hO
    refine hg _ F3 H3 _ ρ2 v x _ _ E3.self r3 q3 fun σ4 ρ4 F4 H4 q4 E4 s4 l4 k4 => ?_
    have k4' : ∀ j, j ∉ vs → σ4[j]? = (wipe σ vs)[j]? := fun j hj => k4 j fun z => hj (hg' j z)
    have e4 : wipe σ4 vs = wipe σ vs := by
      rw [wipe_eq l4 vs k4']
      refine wipe_eq (wipe_length σ vs) vs fun j hj => ?_
      have get : ∀ (ws : List Nat), j ∉ ws → (wipe σ ws)[j]? = σ[j]? := by
        intro ws
        induction ws with
        | nil => intro _; rfl
        | cons w ws ih =>
          intro h
          rw [List.mem_cons, not_or] at h
          show ((wipe σ ws).set w none)[j]? = _
          rw [List.getElem?_set, if_neg (fun z => h.1 z.symm)]
          exact ih h.2
      exact get vs hj
    refine ⟨e4, ?_⟩
    refine ht _ F4 H4 σ4 ρ4 _ _ noX E4 q4 (fun c ρ5 F5 H5 q5 E5 s5 => ?_) (fun _ _ _ _ _ _ _ z => z.elim)
    cases c with
    | false =>
      obtain ⟨E6, w6⟩ := keep E5 l4 k4'
      exact ⟨F5, _, acc, as, E6, ((s2.trans s3).trans s4).trans s5, q5, w6⟩
    | true =>
      refine he _ F5 H5 σ4 ρ5 _ _ noX E5 q5 (fun yv ρ6 F6 H6 u q6 E6 s6 r6 => ?_) (fun _ _ _ _ _ _ _ z => z.elim)
      obtain ⟨d, rfl, q7⟩ := dD_of q6
      clear q6
      obtain ⟨hz, inv'⟩ := q7
      obtain ⟨E7, w7⟩ := keep E6 l4 k4'
      refine ⟨as, w7.hH, by rw [w7.hD.len]; exact hz, F6, _, acc ++ [d], as ++ [u], E7.poke w7.hF (.inl w7.h0) w7.hO w7.hR, (((s2.trans s3).trans s4).trans s5).trans s6, inv', ?_⟩
      exact ⟨upd_same, w7.hF, w7.hD.app (.one r6), w7.h0, w7.hO, w7.hR⟩
  · have e : i = xs.length := by omega
    subst e
    refine .inl ⟨jk.stop _ H2 (s2.trans E2.s1) (Nat.le_refl _), ?_⟩
    have E3 := Ent.rest E1 s2 vs hn hpl E2
    refine o _ _ _ _ _ _ (hd acc ρ2 inv) E3 (s1.trans s2) ⟨w.hH, w.hF, w.hD, w.h0, fun z => w.hO (own_rest vs hpl z), w.hR⟩
end
end Cc

set_option Elab.async false
set_option linter.all false
set_option maxRecDepth 100000
set_option maxHeartbeats 4000000
/-! The pure layer: defs, calls, what is raised, built-ins. -/
namespace Cc
open PySem PySem.Spec PyProof.Rows L2
abbrev Phi := Nat → List A → (A → Nat → Prop) → (Nat → PyData → Nat → Prop) → Prop
/-- what a call leaves -/
structure Stp (Γ : Gx) (rg : Bool) (R : Addr → Prop) (r : Addr) (F H F' H' : Hp) (n' : Nat) : Prop where
  s0 : Same F F'
  s1 : Same F' H'
  new : ∀ b o, F' b = some o → F b = some o ∨ H b = none
  chg : ∀ b o, H b = some o → ¬ R b → H' b = some o
  liv : ∀ b, H' b = none → H b = none
  at_ : rg = true → Γ.I.at_ R r H' n'
  cl : ∀ a o, F' a = some o → okO F' a o
def spP (Γ : Gx) (rg : Bool) (φ : Phi) : Sp := fun vs H Q E => ∃ (R : Addr → Prop) (r : Addr) (F : Hp) (n : Nat) (xs : List A) (us : List V) (RR : A → Nat → Prop) (Xx : Nat → PyData → Nat → Prop),
  vs = (if rg = true then V.ref r :: us else us) ∧ RpAll Γ F us xs ∧ Same F H ∧ (∀ b, R b → F b = none ∧ H b ≠ none) ∧ (∀ a o, F a = some o → okO F a o) ∧ (rg = true → Γ.I.at_ R r H n) ∧ (rg = false → ∀ b, ¬ R b) ∧ φ n xs RR Xx ∧
  (∀ x n' v F' H', RR x n' → Stp Γ rg R r F H F' H' n' → Rp Γ F' v x → Q v H') ∧
  ∀ c d n' v dx F' H', Xx c d n' → Stp Γ rg R r F H F' H' n' → F' dx = some (.xd [("value", v)]) → Dq Γ.K F' v d → E (.ref (Γ.C c)) (some dx) H'
section
variable {Γ : Gx} {X : Cx} {W : WX} {f : Fr} {F H F' H' : Hp} {σ σ' : L2.St} {ρ ρ' : List Sl} {x : A} {v : V} {d : PyData} {e e1 e2 e3 tg : Expr} {a b c : EE} {i j : Nat} {es : List Expr} {pos : Pos} {st : Stmt} {sts sts' : List Stmt} {k k' : SS}
theorem Ent.stp0 (E : Ent Γ f F H σ ρ) {R : Addr → Prop} {r : Addr} {n' : Nat} (hR : ∀ b, ¬ R b) (s : Stp Γ false R r F H F' H' n') : Ent Γ f F' H' σ ρ := by
  have hk : ∀ b o, H b = some o → H' b = some o := fun b o e => s.chg b o e (hR b)
  refine ⟨E.s0.trans s.s0, s.s1, fun b o e => ?_, fun b o e m => hk _ _ (E.chg b o e m), fun b e => E.liv b (s.liv b e), E.len, fun i s' hi => (E.sl i s' hi).more s.s0 (fun a ha ⟨ds, hs⟩ => ?_) (fun b o _ e => hk _ _ e), E.dis, E.rm, fun b hb => ?_, fun b hb => ?_, E.ro, E.ml, s.cl⟩
  · rcases s.new b o e with h | h
    · exact E.new b o h
    · exact .inr (.inl (E.liv b h))
  · subst hs
    obtain ⟨a', xs, e1, e2, _, e4, _⟩ := E.sl i _ hi
    rw [ha] at e1
    cases e1
    refine ⟨?_, fun o q => hk _ _ q⟩
    cases h : F' a with
    | none => rfl
    | some o =>
      rcases s.new a o h with z | z
      · rw [e4] at z; cases z
      · rw [e2] at z; cases z
  · cases h : F' b with
    | none => rfl
    | some o =>
      rcases s.new b o h with z | z
      · rw [E.rF b hb] at z; cases z
      · exact absurd z (E.rl b hb)
  · exact fun z => E.rl b hb (s.liv b z)
theorem Ent.stpR (E : Ent Γ f F H σ ρ) {n n' : Nat} (hi : ρ[f.ri]? = some (.rng n)) (s : Stp Γ true f.R f.r F H F' H' n') : Ent Γ f F' H' σ (ρ.set f.ri (.rng n')) := by
  have E1 := E.forget (i := f.ri)
  -- all slots but the draws' one
  have E2 : Ent Γ f F' H' σ (ρ.set f.ri .un) := by
    refine ⟨E.s0.trans s.s0, s.s1, fun b o e => ?_, fun b o e m => s.chg _ _ (E.chg b o e m) (fun z => m (E.rm b z)), fun b e => E.liv b (s.liv b e), E1.len, fun i s' hi' => ?_, E1.dis, E.rm, fun b hb => ?_, fun b hb => ?_, E1.ro, E.ml, s.cl⟩
    · rcases s.new b o e with h | h
      · exact E.new b o h
      · exact .inr (.inl (E.liv b h))
    · have old := E1.sl i s' hi'
      cases s' with
      | un => trivial
      | a x =>
        obtain ⟨u, h1, h2⟩ := old
        exact ⟨u, h1, h2.same s.s0⟩
      | rng m =>
        have e := old.1.1
        rw [e, List.getElem?_set, if_pos rfl] at hi'
        split at hi' <;> cases hi'
      | own ds =>
        obtain ⟨a, xs, e1, e2, e3, e4, e5⟩ := old
        have nR : ¬ f.R a := fun z => E1.ro a z ⟨i, ds, hi', e1⟩
        refine ⟨a, xs, e1, s.chg _ _ e2 nR, DqAll.same s.s0 ds e3, ?_, e5⟩
        cases h : F' a with
        | none => rfl
        | some o =>
          rcases s.new a o h with z | z
          · rw [e4] at z; cases z
          · rw [e2] at z; cases z
    · cases h : F' b with
      | none => rfl
      | some o =>
        rcases s.new b o h with z | z
        · rw [E.rF b hb] at z; cases z
        · exact absurd z (E.rl b hb)
    · exact fun z => E.rl b hb (s.liv b z)
  obtain ⟨⟨_, hv⟩, _⟩ := E.sl _ _ hi
  have E3 := E2.put (i := f.ri) (w := some (V.ref f.r)) (s := .rng n') (fun _ => nofun) fun _ => ⟨⟨rfl, rfl⟩, s.at_ rfl⟩
  rw [List.set_set, set_self hv] at E3
  exact E3
/-! ### calls -/
def eCall (φ : Phi) (as : AA) : EE := fun ρ R Xx => as ρ (fun xs ρ1 => φ 0 xs (fun x _ => R x ρ1) (fun c d _ => Xx c d ρ1)) Xx
def eCallR (i : Nat) (φ : Phi) (as : AA) : EE := fun ρ R Xx => (∃ m, ρ[i]? = some (.rng m)) ∧ as ρ (fun xs ρ1 => match ρ1[i]? with
  | some (.rng n) => φ n xs (fun x n' => R x (ρ1.set i (.rng n'))) (fun c d n' => Xx c d (ρ1.set i (.rng n')))
  | _ => False) Xx
/-- a call that raises nothing -/
def eCall0 (φ : Phi) (as : AA) : EE := fun ρ R Xx => as ρ (fun xs ρ1 => φ 0 xs (fun x _ => R x ρ1) (fun _ _ _ => False)) Xx
def eCallR0 (i : Nat) (φ : Phi) (as : AA) : EE := fun ρ R Xx => (∃ m, ρ[i]? = some (.rng m)) ∧ as ρ (fun xs ρ1 => match ρ1[i]? with
  | some (.rng n) => φ n xs (fun x n' => R x (ρ1.set i (.rng n'))) (fun _ _ _ => False)
  | _ => False) Xx
theorem sp_at {φ : Phi} {E : XK} {xs : List A} {us : List V} {Q : VK} {RR : A → Nat → Prop} {Xx : Nat → PyData → Nat → Prop} (hE : Ent Γ f F H σ ρ) (r : RpAll Γ F us xs) (q : φ 0 xs RR Xx)
    (o : ∀ x v F' H', RR x 0 ∨ (∃ n', RR x n') → Ent Γ f F' H' σ ρ → Same F F' → Rp Γ F' v x → Q v H') (ox : ∀ c d n' v dx F' H', Xx c d n' → Ent Γ f F' H' σ ρ → F' dx = some (.xd [("value", v)]) → Dq Γ.K F' v d → E (.ref (Γ.C c)) (some dx) H') : spP Γ false φ us H Q E :=
  ⟨fun _ => False, 0, F, 0, xs, us, RR, Xx, rfl, r, hE.s1, (fun _ z => z.elim), hE.cl, (fun z => Bool.noConfusion z), (fun _ _ z => z), q,
    fun x n' v F' H' rr s h => o x v F' H' (.inr ⟨n', rr⟩) (hE.stp0 (fun _ z => z) s) s.s0 h, fun c d n' v dx F' H' xx s h1 h2 => ox c d n' v dx F' H' xx (hE.stp0 (fun _ z => z) s) h1 h2⟩
theorem sp_atR {φ : Phi} {E : XK} {xs : List A} {us : List V} {Q : VK} {RR : A → Nat → Prop} {Xx : Nat → PyData → Nat → Prop} {n : Nat} (hE : Ent Γ f F H σ ρ) (hi : ρ[f.ri]? = some (.rng n)) (r : RpAll Γ F us xs) (q : φ n xs RR Xx)
    (o : ∀ x n' v F' H', RR x n' → Ent Γ f F' H' σ (ρ.set f.ri (.rng n')) → Same F F' → Rp Γ F' v x → Q v H') (ox : ∀ c d n' v dx F' H', Xx c d n' → Ent Γ f F' H' σ (ρ.set f.ri (.rng n')) → F' dx = some (.xd [("value", v)]) → Dq Γ.K F' v d → E (.ref (Γ.C c)) (some dx) H') : spP Γ true φ (.ref f.r :: us) H Q E := by
  obtain ⟨_, hat⟩ := hE.sl _ _ hi
  exact ⟨f.R, f.r, F, n, xs, us, RR, Xx, rfl, r, hE.s1, fun b hb => ⟨hE.rF b hb, hE.rl b hb⟩, hE.cl, (fun _ => hat), (fun z => Bool.noConfusion z), q,
    fun x n' v F' H' rr s h => o x n' v F' H' rr (hE.stpR hi s) s.s0 h, fun c d n' v dx F' H' xx s h1 h2 => ox c d n' v dx F' H' xx (hE.stpR hi s) h1 h2⟩
theorem de_call0 {φ : Phi} {as : AA} (hpe : ∀ {ta : TA}, PA X es ta → PE X e (tCall (spP Γ false φ) [] E0 ta)) {ta : TA} (h : DA Γ X W es ta as) : DE Γ X W e (tCall (spP Γ false φ) [] E0 ta) (eCall0 φ as) := by
  obtain ⟨p, dn⟩ := h
  refine ⟨hpe p, fun f F H σ ρ Q R Xx E q o ox => ?_⟩
  refine dn f F H σ ρ _ _ Xx E q (fun xs ρ1 F1 H1 us q1 E1 s1 r1 => ?_) ox
  show spP Γ false φ (us ++ []) H1 Q E0
  rw [List.append_nil]
  exact sp_at E1 r1 q1 (fun x v F' H' rr E' s' h => o x ρ1 F' H' v (rr.elim id fun ⟨_, z⟩ => z) E' (s1.trans s') h) fun c d n' v dx F' H' z => z.elim
theorem de_callR0 {φ : Phi} {as : AA} (hpe : ∀ {ta : TA}, PA X es ta → PE X e (tCall (spP Γ true φ) [] E0 (tCons (tVar i) ta))) {ta : TA} (h : DA Γ X W es ta as) : DE Γ X W e (tCall (spP Γ true φ) [] E0 (tCons (tVar i) ta)) (eCallR0 i φ as) := by
  obtain ⟨p, dn⟩ := h
  refine ⟨hpe p, fun f F H σ ρ Q R Xx E q o ox => ?_⟩
  obtain ⟨⟨m, hi⟩, q⟩ := q
  obtain ⟨⟨ei, hv⟩, _⟩ := E.sl _ _ hi
  subst ei
  refine ⟨_, hv, ?_⟩
  refine dn f F H σ ρ _ _ Xx E q (fun xs ρ1 F1 H1 us q1 E1 s1 r1 => ?_) ox
  split at q1
  · rename_i n hn
    show spP Γ true φ (V.ref f.r :: us ++ []) H1 Q E0
    rw [List.append_nil]
    exact sp_atR E1 hn r1 q1 (fun x n' v F' H' rr E' s' h => o x _ F' H' v rr E' (s1.trans s') h) fun c d n' v dx F' H' z => z.elim
  · exact q1.elim
theorem de_callX {φ : Phi} {as : AA} (hpe : ∀ {ta : TA}, PA X es ta → PE X e (tCallS (spP Γ false φ) (WE W) ta)) {ta : TA} (h : DA Γ X W es ta as) : DE Γ X W e (tCallS (spP Γ false φ) (WE W) ta) (eCall φ as) := by
  obtain ⟨p, dn⟩ := h
  refine ⟨hpe p, fun f F H σ ρ Q R Xx E q o ox => ?_⟩
  refine dn f F H σ ρ _ _ Xx E q (fun xs ρ1 F1 H1 us q1 E1 s1 r1 => ?_) ox
  exact sp_at E1 r1 q1 (fun x v F' H' rr E' s' h => o x ρ1 F' H' v (rr.elim id fun ⟨_, z⟩ => z) E' (s1.trans s') h) fun c d n' v dx F' H' xx E' h1 h2 => ox c d ρ1 F' H' dx v xx E' h1 h2
/-- by keyword -/
theorem de_callKX {φ : Phi} {as : AA} {kws : List Keyword} {gV : List V → List V} {gA : List A → List A} (hg : ∀ {vs : List V} {xs : List A} {F : Hp}, RpAll Γ F vs xs → RpAll Γ F (gV vs) (gA xs)) (hpe : ∀ {ta : TA}, PK X kws ta → PE X e (tCallKS (spP Γ false φ) gV (WE W) ta)) {ta : TA} (h : PK X kws ta ∧ DenA Γ W ta as) :
    DE Γ X W e (tCallKS (spP Γ false φ) gV (WE W) ta) (eCall (fun n xs => φ n (gA xs)) as) := by
  obtain ⟨p, dn⟩ := h
  refine ⟨hpe p, fun f F H σ ρ Q R Xx E q o ox => ?_⟩
  refine dn f F H σ ρ _ _ Xx E q (fun xs ρ1 F1 H1 us q1 E1 s1 r1 => ?_) ox
  exact sp_at E1 (hg r1) q1 (fun x v F' H' rr E' s' h => o x ρ1 F' H' v (rr.elim id fun ⟨_, z⟩ => z) E' (s1.trans s') h) fun c d n' v dx F' H' xx E' h1 h2 => ox c d ρ1 F' H' dx v xx E' h1 h2

/-! ### what is raised -/
def sRaise (c : Nat) (a : EE) : SS := fun ρ P => a ρ (fun x ρ1 => dD x fun d => P.ex c d ρ1) P.ex
theorem ds_raise {c : Nat} (hpe : ∀ {ta : TE}, PE X e ta → PS X st (tRaise Γ.K (Γ.C c) W (tCons ta tNil))) {ta : TE} (h : DE Γ X W e ta a) : DS Γ X W st (tRaise Γ.K (Γ.C c) W (tCons ta tNil)) (sRaise c a) := by
  obtain ⟨p, dn⟩ := h
  refine ⟨hpe p, fun f F H σ ρ P D E q o => ?_⟩
  refine dn f F H σ ρ _ _ P.ex E q (fun x ρ1 F1 H1 v1 q1 E1 s1 r1 => ?_) (o.ex σ)
  obtain ⟨u, rfl, q2⟩ := dD_of q1
  show MkR Γ.K (Γ.C c) [v1] H1 fun cls d H' => W cls d σ H'
  refine mkR1 fun dx nd => ?_
  have nF := E1.fnone nd
  exact o.ex σ c u ρ1 _ _ dx v1 q2 (E1.alloc nd) upd_same (Dq.same (same_updF nF) u r1)
/-- try: body except C as n: suite -/
def sTry (yes : Nat → Bool) (i : Nat) (b s : SS) : SS := fun ρ P => b ρ { P with ex := fun c d ρ1 => if yes c = true then s (ρ1.set i (.a (.exc c d))) { P with nx := fun ρ2 => P.nx (ρ2.set i .un), bk := fun ρ2 => P.bk (ρ2.set i .un), ct := fun ρ2 => P.ct (ρ2.set i .un), ex := fun _ _ _ => False } else P.ex c d ρ1 }
theorem ds_try {yes : Nat → Bool} {cl : Value} {tb : WX → TS} {ts : TS} (hy : ∀ c, PySem.W.exmOne Γ.K (.ref (Γ.C c)) cl = some (yes c)) (hpe : PS X st (fun D σ H => tb (wTrk Γ.K cl i ts W D) D σ H)) (hb : ∀ W', DenS Γ W' (tb W') k) (hs : DenS Γ (fun _ _ _ _ => False) ts k') :
    DS Γ X W st (fun D σ H => tb (wTrk Γ.K cl i ts W D) D σ H) (sTry yes i k k') := by
  refine ⟨hpe, fun f F H σ ρ P D E q o => ?_⟩
  refine hb _ (f.from σ ρ F H) F H σ ρ { P with ex := fun c d ρ1 => if yes c = true then k' (ρ1.set i (.a (.exc c d))) { P with nx := fun ρ2 => P.nx (ρ2.set i .un), bk := fun ρ2 => P.bk (ρ2.set i .un), ct := fun ρ2 => P.ct (ρ2.set i .un), ex := fun _ _ _ => False } else P.ex c d ρ1 } D E.self q
    ⟨fun σ1 ρ1 F1 H1 q1 E1 s1 => o.nx σ1 ρ1 F1 H1 q1 (E.trans E1) s1, fun x σ1 ρ1 F1 H1 v q1 E1 s1 r => o.rt x σ1 ρ1 F1 H1 v q1 (E.trans E1) s1 r, fun σ1 ρ1 F1 H1 q1 E1 s1 => o.bk σ1 ρ1 F1 H1 q1 (E.trans E1) s1, fun σ1 ρ1 F1 H1 q1 E1 s1 => o.ct σ1 ρ1 F1 H1 q1 (E.trans E1) s1, fun σ1 c d ρ1 F1 H1 dx v q1 E1' h1 h2 => ?_⟩
  have E1 := E.trans E1'
  have s01 : Same F F1 := E1'.s0
  have q1 : if yes c = true then k' (ρ1.set i (.a (.exc c d))) { P with nx := fun ρ2 => P.nx (ρ2.set i .un), bk := fun ρ2 => P.bk (ρ2.set i .un), ct := fun ρ2 => P.ct (ρ2.set i .un), ex := fun _ _ _ => False } else P.ex c d ρ1 := q1
  refine ⟨yes c, hy c, fun hyes a na => ?_, fun hno => ?_⟩
  · rw [if_pos hyes] at q1
    have nF := E1.fnone na
    have E2 := (E1.alloc (o := exT a (.ref (Γ.C c)) (some dx)) na).setA (i := i) (x := .exc c d) (v := .ref a) ⟨a, dx, v, rfl, upd_same, by rw [upd_ne (ne_of_none h1 nF)]; exact h1, Dq.same (same_updF nF) d h2⟩
    have s02 := s01.trans (same_updF (o := exT a (.ref (Γ.C c)) (some dx)) nF)
    exact hs f _ _ _ _ _ _ E2 q1 ⟨fun σ3 ρ3 F3 H3 q3 E3 s3 => o.nx _ _ _ _ q3 E3.setU (s02.trans s3), fun x σ3 ρ3 F3 H3 u q3 E3 s3 r3 => o.rt _ _ _ _ _ _ q3 E3 (s02.trans s3) r3, fun σ3 ρ3 F3 H3 q3 E3 s3 => o.bk _ _ _ _ q3 E3.setU (s02.trans s3), fun σ3 ρ3 F3 H3 q3 E3 s3 => o.ct _ _ _ _ q3 E3.setU (s02.trans s3), fun _ _ _ _ _ _ _ _ z => z.elim⟩
  · rw [hno, if_neg (by decide)] at q1
    exact o.ex σ1 c d ρ1 F1 H1 dx v q1 E1 h1 h2
end
/-! ### a def by its body -/
def initS (rg : Bool) (n : Nat) (N : List Str) (xs : List A) : List Sl := match rg with
  | true => .rng n :: (xs.map Sl.a ++ List.replicate (N.length - (xs.length + 1)) .un)
  | false => xs.map Sl.a ++ List.replicate (N.length - xs.length) .un
def outR (rg : Bool) (R : A → Nat → Prop) (x : A) (ρ : List Sl) : Prop := match rg with
  | true => match (ρ[0]? : Option Sl) with | some (Sl.rng n) => R x n | _ => False
  | false => R x 0
def outX (rg : Bool) (R : Nat → PyData → Nat → Prop) (c : Nat) (x : PyData) (ρ : List Sl) : Prop := match rg with
  | true => match (ρ[0]? : Option Sl) with | some (Sl.rng n) => R c x n | _ => False
  | false => R c x 0
def ends0 (rg : Bool) (R : A → Nat → Prop) : EndsP := ⟨outR rg R (.d .none), outR rg R, fun _ => False, fun _ => False, fun _ _ _ => False⟩
def endsX (rg : Bool) (R : A → Nat → Prop) (Xx : Nat → PyData → Nat → Prop) : EndsP := ⟨outR rg R (.d .none), outR rg R, fun _ => False, fun _ => False, outX rg Xx⟩
section
variable {Γ : Gx} {f : Fr} {F H F' H' : Hp} {σ : L2.St} {ρ : List Sl}
theorem sl_init : ∀ {us : List V} {xs : List A} (m j : Nat), RpAll Γ F us xs → ∀ (i : Nat) (s : Sl), (xs.map Sl.a ++ List.replicate m .un)[i]? = some s → (s = .un ∨ ∃ x, s = .a x) ∧ SlR Γ f F H j ((us.map some ++ List.replicate m none)[i]?) s
  | [], [], m, j, _, i, s, h => by
    simp only [List.map_nil, List.nil_append] at h ⊢
    rw [List.getElem?_replicate] at h
    split at h
    · cases h
      exact ⟨.inl rfl, trivial⟩
    · cases h
  | u :: us, x :: xs, m, j, ⟨h1, h2⟩, 0, s, h => by
    simp at h
    subst h
    exact ⟨.inr ⟨x, rfl⟩, u, rfl, h1⟩
  | u :: us, x :: xs, m, j, ⟨h1, h2⟩, i + 1, s, h => sl_init m j h2 i s (by simpa using h)
  | [], _ :: _, _, _, h, _, _, _ => h.elim
  | _ :: _, [], _, _, h, _, _, _ => h.elim
theorem ent_init {N : List Str} {vs us : List V} {xs : List A} {rg : Bool} {R : Addr → Prop} {r : Addr} {n : Nat} (hvs : vs = if rg = true then V.ref r :: us else us) (hr : RpAll Γ F us xs) (s : Same F H) (hR : ∀ b, R b → F b = none ∧ H b ≠ none) (hcl : ∀ a o, F a = some o → okO F a o) (hat : rg = true → Γ.I.at_ R r H n) :
    Ent Γ ⟨R, R, r, 0, F, H⟩ F H (start N vs) (initS rg n N xs) := by
  have key : ∀ (i : Nat) (s : Sl), (initS rg n N xs)[i]? = some s → ((∃ m, s = .rng m) ∨ s = .un ∨ ∃ x, s = .a x) ∧ SlR Γ ⟨R, R, r, 0, F, H⟩ F H i (start N vs)[i]? s := by
    intro i s hi
    subst hvs
    cases rg with
    | false =>
      have := sl_init (Γ := Γ) (f := ⟨R, R, r, 0, F, H⟩) (H := H) (N.length - us.length) i hr i s (by rw [hr.len]; exact hi)
      exact ⟨.inr this.1, this.2⟩
    | true =>
      cases i with
      | zero =>
        have hi : some (Sl.rng n) = some s := hi
        cases hi
        exact ⟨.inl ⟨n, rfl⟩, ⟨rfl, rfl⟩, hat rfl⟩
      | succ i =>
        have := sl_init (Γ := Γ) (f := ⟨R, R, r, 0, F, H⟩) (H := H) (N.length - (us.length + 1)) (i + 1) hr i s (by rw [hr.len]; exact hi)
        refine ⟨.inr this.1, ?_⟩
        have e : (start N (if true = true then V.ref r :: us else us))[i + 1]? = (us.map some ++ List.replicate (N.length - (us.length + 1)) none)[i]? := rfl
        rw [e]
        exact this.2
  have noOwn : ∀ (i : Nat) (ds : List PyData), (initS rg n N xs)[i]? = some (Sl.own ds) → False := fun i ds h => by
    rcases (key i _ h).1 with ⟨m, e⟩ | e | ⟨x, e⟩ <;> cases e
  refine ⟨Same.refl _, s, fun b o e => .inl e, fun b o e _ => e, fun b e => e, ?_, fun i s hi => (key i s hi).2, fun i j a ds es h1 => (noOwn i ds h1).elim, fun b h => h, fun b h => (hR b h).1, fun b h => (hR b h).2, fun b _ ⟨i, ds, h1, _⟩ => noOwn i ds h1, fun b h => (hR b h).2, hcl⟩
  subst hvs
  unfold L2.start initS
  cases rg with
  | false =>
    show (us.map some ++ List.replicate (N.length - us.length) none).length = (xs.map Sl.a ++ List.replicate (N.length - xs.length) Sl.un).length
    simp [hr.len]
  | true =>
    show ((V.ref r :: us).map some ++ List.replicate (N.length - (us.length + 1)) none).length = (Sl.rng n :: (xs.map Sl.a ++ List.replicate (N.length - (xs.length + 1)) .un)).length
    simp [hr.len]
theorem stp_of {R : Addr → Prop} {r : Addr} {rg : Bool} {n' : Nat} (E : Ent Γ ⟨R, R, r, 0, F, H⟩ F' H' σ ρ) (hR : rg = false → ∀ b, ¬ R b) (hat : rg = true → ρ[0]? = some (.rng n')) : Stp Γ rg R r F H F' H' n' := by
  refine ⟨E.s0, E.s1, fun b o e => ?_, E.chg, E.liv, fun h => (E.sl 0 _ (hat h)).2, E.cl⟩
  rcases E.new b o e with z | z | z
  · exact .inl z
  · exact .inr z
  · rw [E.rF b z] at e; cases e
variable {P : Program} {w : World} {mg : Str → Option Value} {base : Heap} {k : Nat} {x : Str} {st : Stmt} {N ps : List Str} {φ : Phi} {rg : Bool}
theorem sp_len (len : ∀ n xs R Xx, φ n xs R Xx → (if rg = true then 1 else 0) + xs.length = ps.length) : ∀ vs H Q E, spP Γ rg φ vs H Q E → vs.length = ps.length := fun vs H Q E ⟨R, r, F, n, xs, us, RR, Xx, e, hr, _, _, _, _, _, q, _⟩ => by
  have := len n xs RR Xx q
  rw [e, ← this]
  cases rg
  · simp [hr.len]
  · simp [hr.len]
    omega
theorem body0 {κ : SS} {t : TS} {X : Cx} {vs : List V} {Q : VK} {E : XK} (h : spP Γ rg φ vs H Q E) (d : DenS Γ (fun _ _ _ _ => False) t κ) (hb : ∀ n xs R, φ n xs R (fun _ _ _ => False) → κ (initS rg n N xs) (ends0 rg R)) (hX : ∀ n xs R Xx, φ n xs R Xx → φ n xs R fun _ _ _ => False) :
    t { nx := fun _ H' => Q .non H', rt := Q } (start N vs) H := by
  obtain ⟨R, r, F, n, xs, us, RR, Xx, e, hr, s, hR, hcl, hat, hno, q, o, ox⟩ := h
  have E0 := ent_init (N := N) (n := n) e hr s hR hcl hat
  refine d _ F H _ _ _ _ E0 (hb n xs RR (hX n xs RR Xx q)) ⟨fun σ ρ F' H' p E' s' => ?_, fun x σ ρ F' H' v p E' s' r' => ?_, fun _ _ _ _ p => p.elim, fun _ _ _ _ p => p.elim, fun _ _ _ _ _ _ _ _ p => p.elim⟩
  · cases rg with
    | false => exact o _ 0 .non F' H' p (stp_of E' hno fun z => Bool.noConfusion z) .non
    | true =>
      have p : (match (ρ[0]? : Option Sl) with | some (Sl.rng n) => RR (.d .none) n | _ => False) := p
      split at p
      · rename_i n' hn
        exact o _ n' .non F' H' p (stp_of E' hno fun _ => hn) .non
      · exact p.elim
  · cases rg with
    | false => exact o _ 0 v F' H' p (stp_of E' hno fun z => Bool.noConfusion z) r'
    | true =>
      have p : (match (ρ[0]? : Option Sl) with | some (Sl.rng n) => RR x n | _ => False) := p
      split at p
      · rename_i n' hn
        exact o _ n' v F' H' p (stp_of E' hno fun _ => hn) r'
      · exact p.elim
theorem bodyX {κ : SS} {t : TS} {vs : List V} {Q : VK} {E : XK} (h : spP Γ rg φ vs H Q E) (d : DenS Γ (fun cls dx _ H => E cls dx H) t κ) (hb : ∀ n xs R Xx, φ n xs R Xx → κ (initS rg n N xs) (endsX rg R Xx)) :
    t { nx := fun _ H' => Q .non H', rt := Q } (start N vs) H := by
  obtain ⟨R, r, F, n, xs, us, RR, Xx, e, hr, s, hR, hcl, hat, hno, q, o, ox⟩ := h
  have E0 := ent_init (N := N) (n := n) e hr s hR hcl hat
  refine d _ F H _ _ _ _ E0 (hb n xs RR Xx q) ⟨fun σ ρ F' H' p E' s' => ?_, fun x σ ρ F' H' v p E' s' r' => ?_, fun _ _ _ _ p => p.elim, fun _ _ _ _ p => p.elim, fun σ c d ρ F' H' dx v p E' h1 h2 => ?_⟩
  · cases rg with
    | false => exact o _ 0 .non F' H' p (stp_of E' hno fun z => Bool.noConfusion z) .non
    | true =>
      have p : (match (ρ[0]? : Option Sl) with | some (Sl.rng n) => RR (.d .none) n | _ => False) := p
      split at p
      · rename_i n' hn
        exact o _ n' .non F' H' p (stp_of E' hno fun _ => hn) .non
      · exact p.elim
  · cases rg with
    | false => exact o _ 0 v F' H' p (stp_of E' hno fun z => Bool.noConfusion z) r'
    | true =>
      have p : (match (ρ[0]? : Option Sl) with | some (Sl.rng n) => RR x n | _ => False) := p
      split at p
      · rename_i n' hn
        exact o _ n' v F' H' p (stp_of E' hno fun _ => hn) r'
      · exact p.elim
  · cases rg with
    | false => exact ox c d 0 v dx F' H' p (stp_of E' hno fun z => Bool.noConfusion z) h1 h2
    | true =>
      have p : (match (ρ[0]? : Option Sl) with | some (Sl.rng n) => Xx c d n | _ => False) := p
      split at p
      · rename_i n' hn
        exact ox c d n' v dx F' H' p (stp_of E' hno fun _ => hn) h1 h2
      · exact p.elim
/-- a def that raises nothing -/
theorem mkPP (T : Tx Γ.K mg x st) (S : FnScope N ps (defScope st))
    (bi : ∀ (kV doc pm : Value) (an : Option Addr) (cdv ct : Value) (us : List Value), us.length = ps.length → bindArgs (PySem.W.fnOf x x (defArgs st) (defBody st) (defScope st) .none kV doc pm an cdv ct) ⟨us, []⟩ = pure (ps.zip us))
    (len : ∀ n xs R Xx, φ n xs R Xx → (if rg = true then 1 else 0) + xs.length = ps.length) (hX : ∀ n xs R Xx, φ n xs R Xx → φ n xs R fun _ _ _ => False)
    (hbody : ∀ (f : Addr) (cdv : Value) (A : Around) (outer : List Env) (s : Shared) (H : Hp) (E : XK), A.guards = some [] → Room k (A.deeper (envOfC x (defScope st) s.heap.objs.size f cdv)) →
      ∃ t κ, DSs Γ (cxOf CX0 P w Γ.K mg base N x (defScope st) f cdv A outer s H E).nox (fun _ _ _ _ => False) (defBody st) t κ ∧ ∀ n xs R, φ n xs R (fun _ _ _ => False) → κ (initS rg n N xs) (ends0 rg R)) :
    Pr P w Γ.K mg base CX0 (k + 1) x ps (spP Γ rg φ) :=
  mkP T S bi (sp_len len) fun f cdv A outer s H vs Q E hG hr h => by
    obtain ⟨t, κ, d, q⟩ := hbody f cdv A outer s H E hG hr
    exact ⟨t, d.1, body0 (X := cxOf CX0 P w Γ.K mg base N x (defScope st) f cdv A outer s H E) h d.2 q hX⟩
/-- a def that may raise -/
theorem mkPPX (T : Tx Γ.K mg x st) (S : FnScope N ps (defScope st))
    (bi : ∀ (kV doc pm : Value) (an : Option Addr) (cdv ct : Value) (us : List Value), us.length = ps.length → bindArgs (PySem.W.fnOf x x (defArgs st) (defBody st) (defScope st) .none kV doc pm an cdv ct) ⟨us, []⟩ = pure (ps.zip us))
    (len : ∀ n xs R Xx, φ n xs R Xx → (if rg = true then 1 else 0) + xs.length = ps.length)
    (hbody : ∀ (f : Addr) (cdv : Value) (A : Around) (outer : List Env) (s : Shared) (H : Hp) (E : XK), A.guards = some [] → Room k (A.deeper (envOfC x (defScope st) s.heap.objs.size f cdv)) →
      ∃ t κ, DSs Γ (cxOf (L2.CX P w) P w Γ.K mg base N x (defScope st) f cdv A outer s H E) (fun cls dx _ H => E cls dx H) (defBody st) t κ ∧ ∀ n xs R Xx, φ n xs R Xx → κ (initS rg n N xs) (endsX rg R Xx)) :
    Pr P w Γ.K mg base (L2.CX P w) (k + 1) x ps (spP Γ rg φ) :=
  mkPX T S bi (sp_len len) fun f cdv A outer s H vs Q E hG hr h => by
    obtain ⟨t, κ, d, q⟩ := hbody f cdv A outer s H E hG hr
    exact ⟨t, d.1, bodyX h d.2 q⟩
/-- a promise by another one -/
theorem Pr.weak {CX : CXT} {K : PySem.W.Frag} {sp sp' : Sp} (h : Pr P w K mg base CX k x ps sp) (hs : ∀ vs H Q E, sp' vs H Q E → sp vs H Q E) : Pr P w K mg base CX k x ps sp' := by
  obtain ⟨f, fd, F, h1, h2, h3⟩ := h
  exact ⟨f, fd, ⟨fun vs H Q E q => F.long vs H Q E (hs _ _ _ _ q), fun A hg hr outer s H e0 args us vs Q E hb rv q => F.goes A hg hr outer s H e0 args us vs Q E hb rv (hs _ _ _ _ q)⟩, h1, h2, h3⟩
end
end Cc

set_option Elab.async false
set_option linter.all false
set_option maxRecDepth 100000
set_option maxHeartbeats 4000000
/-! The pure layer: a promise at a part of the heap; what a def of the heap layer gives. -/
namespace Cc
open PySem PySem.Spec PyProof.Rows L2
/-- F stands in H; a call made it F'; then the whole is H' -/
structure Frm (F H F' H' : Hp) : Prop where
  s1 : Same F' H'
  old : ∀ b o, H b = some o → F b = none → H' b = some o
  new : ∀ b o, F' b = some o → F b ≠ none ∨ H b = none
  liv : ∀ b, H' b = none → F' b = none ∧ (F b ≠ none ∨ H b = none)
  ins : ∀ a C dx fs, F' a = some (.ins C dx fs) → F' dx = some (.own a)
def spFr (sp : Sp) : Sp := fun vs H Q E => ∃ F, Same F H ∧ (∀ a o, F a = some o → okO F a o) ∧ sp vs F (fun v F' => ∀ H', Frm F H F' H' → Q v H') (fun c d F' => ∀ H', Frm F H F' H' → E c d H')
def uni (F H F' : Hp) : Hp := fun b => match F' b with
  | some o => some o
  | none => if F b = none then H b else none
section
variable {P : Program} {w : World} {F H F' : Hp} {h h' : Heap} {fs : List Addr}
theorem uni_of {b : Addr} {o : HO} (e : F' b = some o) : uni F H F' b = some o := by unfold uni; rw [e]
theorem uni_old {b : Addr} (e : F' b = none) (e' : F b = none) : uni F H F' b = H b := by unfold uni; rw [e]; exact if_pos e'
theorem hok_part (ok : HOk P w H h) (s : Same F H) (cl : ∀ a o, F a = some o → okO F a o) : HOk P w F h := by
  have go : ∀ a o, okO F a o → ObjOk P w H h a o → ObjOk P w F h a o := by
    intro a o c q
    cases o with
    | ins C dx fs => exact ⟨c, q.2⟩
    | dT kvs => exact c.elim
    | frz ob u =>
      rcases c with ⟨xs, rfl⟩ | ⟨xs, rfl⟩ <;> exact q
    | own x => exact q
    | lst xs => exact q
    | tup xs => exact q
    | dK kvs => exact q
    | set S n => exact q
    | xd fs => exact q
    | met f x => exact q
    | rng lo hi => exact q
    | tbl ps => exact q
    | ext φ => exact q
  exact fun a o e => go a o (cl a o e) (ok a o (s _ _ e))
theorem obj_there {a : Addr} {o : HO} (x : ObjOk P w H h a o) : ∃ ob, h.get? a = some ob := by
  cases o with
  | lst xs => obtain ⟨_, _, _, _, e⟩ := x; exact ⟨_, e⟩
  | tup xs => obtain ⟨_, _, _, ob, e, _⟩ := x; exact ⟨_, e⟩
  | dK kvs => obtain ⟨_, _, _, _, o, _, _, e, _⟩ := x; exact ⟨_, e⟩
  | dT kvs => obtain ⟨_, _, _, _, o, _, _, e, _⟩ := x; exact ⟨_, e⟩
  | set S n => obtain ⟨o, _, _, _, e, _⟩ := x; exact ⟨_, e⟩
  | ins C dx fs => obtain ⟨_, _, _, e, _⟩ := x; exact ⟨_, e⟩
  | own y => obtain ⟨_, e⟩ := x; exact ⟨_, e⟩
  | xd fs => obtain ⟨_, ⟨_, _, _, e, _⟩, _⟩ := x; exact ⟨_, e⟩
  | rng lo hi => obtain ⟨_, _, _, e⟩ := x; exact ⟨_, e⟩
  | frz ob u => obtain ⟨e, _⟩ := x; exact ⟨_, e⟩
  | tbl ps => exact ⟨_, (show h.get? a = some _ from x)⟩
  | met f y => exact ⟨_, (show h.get? a = some _ from x)⟩
  | ext φ => obtain ⟨_, ⟨_, e⟩, _⟩ := x; exact ⟨_, e⟩
theorem uni_frm (ok : HOk P w H h) (ok' : HOk P w F' h') (s : Same F H) (free : ∀ b o, h.get? b = some o → F b = none → F' b = none) : Frm F H F' (uni F H F') where
  s1 b o e := uni_of e
  old b o e n := by
    obtain ⟨ob, hob⟩ := obj_there (ok b o e)
    rw [uni_old (free b ob hob n) n]
    exact e
  new b o e := by
    cases hF : F b with
    | some u => exact .inl nofun
    | none =>
      refine .inr ?_
      cases hH : H b with
      | none => rfl
      | some u =>
        obtain ⟨ob, hob⟩ := obj_there (ok b u hH)
        rw [free b ob hob hF] at e
        cases e
  liv b e := by
    unfold uni at e
    cases hF' : F' b with
    | some o => rw [hF'] at e; cases e
    | none =>
      rw [hF'] at e
      refine ⟨rfl, ?_⟩
      by_cases hF : F b = none
      · right
        simpa [hF] using e
      · exact .inl hF
  ins a C dx fs e := (ok' a _ e).1
theorem uni_hok (ok : HOk P w H h) (ok' : HOk P w F' h') (s : Same F H) (cl : ∀ a o, F a = some o → okO F a o) (free : ∀ b o, h.get? b = some o → F b = none → F' b = none)
    (keep : ∀ b o u, h.get? b = some o → F b = none → H b = some u → h'.get? b = some o) (tups : ∀ b xs, F b = some (.tup xs) → F' b = some (.tup xs)) : HOk P w (uni F H F') h' := by
  have fr := uni_frm ok ok' s free
  have there : ∀ {b u}, H b = some u → ∃ ob, h.get? b = some ob := fun {b u} e => obj_there (ok b u e)
  intro a o e
  cases hF' : F' a with
  | some u =>
    rw [uni_of hF'] at e
    cases e
    exact (ok' a o hF').stay (fun b u _ q => q) (fun b q => uni_of q) fun b xs q => uni_of q
  | none =>
    unfold uni at e
    rw [hF'] at e
    by_cases hF : F a = none
    · have e : H a = some o := by simpa [hF] using e
      have ownF : ∀ b, H b = some (.own a) → F b = none := fun b q => by
        cases hb : F b with
        | none => rfl
        | some u =>
          have := cl b u hb
          have z := s _ _ hb
          rw [q] at z
          cases z
          exact absurd hF this
      refine (ok a o e).stay (fun b u hb q => ?_) (fun b q => fr.old b _ q (ownF b q)) fun b xs q => ?_
      · rcases hb with rfl | hb
        · exact keep b u o q hF e
        · exact keep b u _ q (ownF b hb) hb
      · cases hb : F b with
        | none => exact fr.old b _ q hb
        | some u =>
          have z := s _ _ hb
          rw [q] at z
          cases z
          exact uni_of (tups b xs hb)
    · simp [hF] at e
end
section
variable {P : Program} {w : World} {K : PySem.W.Frag} {mg : Str → Option Value} {base : Heap} {k : Nat} {f : Addr} {fd : FuncData} {ps : List Str} {sp : Sp}
theorem ce_frame {outer : List Env} {s s' : Shared} {H F : Hp} {Q : VK} {u : Value} (ok : HOk P w H s.heap) (frf : ∀ b ∈ frs outer, H b = none) (sF : Same F H) (cl : ∀ a o, F a = some o → okO F a o)
    (h : CE outer P w F s (fun v F' => ∀ H', Frm F H F' H' → Q v H') u s') : CE outer P w H s Q u s' := by
  obtain ⟨v, F', os, bare, un, hok', rv, q⟩ := h
  have nof : ∀ {b u}, H b = some u → b ∉ frs outer := fun {b u} e hb => by rw [frf b hb] at e; cases e
  have free : ∀ b o, s.heap.get? b = some o → F b = none → F' b = none := fun b o e n => un.free b o e n (by simp)
  have fr := uni_frm ok hok' sF free
  have there : ∀ {b u}, H b = some u → ∃ ob, s.heap.get? b = some ob := fun {b u} e => obj_there (ok b u e)
  have Fn : ∀ {b}, H b = none → F b = none := fun {b} e => by
    cases hb : F b with
    | none => rfl
    | some u => rw [sF _ _ hb] at e; cases e
  have imm : ∀ {b u}, H b = some u → (∀ x, F b = some x → x = u → F' b = some u) → uni F H F' b = some u := fun {b u} e hh => by
    cases hb : F b with
    | none => exact fr.old b u e hb
    | some x =>
      have z := sF _ _ hb
      rw [e] at z
      cases z
      exact uni_of (hh u hb rfl)
  refine ⟨v, uni F H F', os, bare, ⟨fun b o e n h1 h2 => un.keep b o e (Fn n) h1 h2, fun b o e n h1 h2 => un.slot b o e (Fn n) h1 h2, fun b o e n h1 => ?_, un.there, fun b xs e => ?_, fun b o u e => ?_, fun b ps e => ?_⟩, uni_hok ok hok' sF cl free (fun b o u e n hu => un.keep b o e n (nof hu) (by simp)) un.tups, rv, q _ fr⟩
  · rw [uni_old (free b o e (Fn n)) (Fn n)]; exact n
  · exact imm e fun x hx hxu => un.tups b xs (by rw [hx, hxu])
  · exact imm e fun x hx hxu => un.frzs b o u (by rw [hx, hxu])
  · cases hb : F b with
    | none => exact ⟨#[], by rw [fr.old b _ e hb]; simp⟩
    | some x =>
      have z := sF _ _ hb
      rw [e] at z
      cases z
      obtain ⟨more, hm⟩ := un.tbls b ps hb
      exact ⟨more, uni_of hm⟩
theorem cx_frame {outer : List Env} {s s' : Shared} {H F : Hp} {E : XK} {u : Value} (ok : HOk P w H s.heap) (frf : ∀ b ∈ frs outer, H b = none) (sF : Same F H) (cl : ∀ a o, F a = some o → okO F a o)
    (h : L2.CX P w outer F s (fun c d F' => ∀ H', Frm F H F' H' → E c d H') u s') : L2.CX P w outer H s E u s' := by
  obtain ⟨a, B, F', cls, d, e0, fly, hok', ub, na, os, bare, q⟩ := h
  have nof : ∀ {b u}, H b = some u → b ∉ frs outer := fun {b u} e hb => by rw [frf b hb] at e; cases e
  have free : ∀ b o, s.heap.get? b = some o → F b = none → F' b = none := fun b o e n => ub.free b o e n
  have fr := uni_frm ok hok' sF free
  have there : ∀ {b u}, H b = some u → ∃ ob, s.heap.get? b = some ob := fun {b u} e => obj_there (ok b u e)
  have Fn : ∀ {b}, H b = none → F b = none := fun {b} e => by
    cases hb : F b with
    | none => rfl
    | some u => rw [sF _ _ hb] at e; cases e
  have imm : ∀ {b u}, H b = some u → (∀ x, F b = some x → x = u → F' b = some u) → uni F H F' b = some u := fun {b u} e hh => by
    cases hb : F b with
    | none => exact fr.old b u e hb
    | some x =>
      have z := sF _ _ hb
      rw [e] at z
      cases z
      exact uni_of (hh u hb rfl)
  refine ⟨a, B, uni F H F', cls, d, e0, fly, uni_hok ok hok' sF cl free (fun b o u e n hu => ub.keep b o e n (nof hu)) ub.tups, ⟨fun b o e n h1 => ub.keep b o e (Fn n) h1, ub.slot, fun b o e n => ?_, ub.there, fun b xs e => ?_, fun b o u e => ?_, fun b ps e => ?_⟩, ?_, os, bare, q _ fr⟩
  · rw [uni_old (free b o e (Fn n)) (Fn n)]; exact n
  · exact imm e fun x hx hxu => ub.tups b xs (by rw [hx, hxu])
  · exact imm e fun x hx hxu => ub.frzs b o u (by rw [hx, hxu])
  · cases hb : F b with
    | none => exact ⟨#[], by rw [fr.old b _ e hb]; simp⟩
    | some x =>
      have z := sF _ _ hb
      rw [e] at z
      cases z
      obtain ⟨more, hm⟩ := ub.tbls b ps hb
      exact ⟨more, uni_of hm⟩
  · cases hFa : F a with
    | some x =>
      obtain ⟨o', ho'⟩ := ub.there a _ (there (sF _ _ hFa)).choose_spec (nof (sF _ _ hFa))
      have nB := fly.2.1
      rw [ho'] at nB
      cases nB
    | none =>
      rw [uni_old na hFa]
      cases hHa : H a with
      | none => rfl
      | some x =>
        obtain ⟨o', ho'⟩ := ub.there a _ (there hHa).choose_spec (nof hHa)
        have nB := fly.2.1
        rw [ho'] at nB
        cases nB
theorem FnG.frame0 (Fn : FnG P w K mg base CX0 k f fd ps sp) : FnG P w K mg base CX0 k f fd ps (spFr sp) :=
  ⟨fun vs H Q E ⟨F, _, _, q⟩ => Fn.long vs F _ _ q, fun A hg hr outer s H e0 args us vs Q E hb rv ⟨F, sF, cl, q⟩ => by
    have Fnn : ∀ {b}, H b = none → F b = none := fun {b} e => by
      cases hb : F b with
      | none => rfl
      | some u => rw [sF _ _ hb] at e; cases e
    refine codeAny_mono (Fn.goes A hg hr outer s F ⟨e0.frames, e0.mod, fun b o e => ⟨(e0.bs b o e).1, Fnn (e0.bs b o e).2⟩, e0.bsz, e0.funs, fun b hb => Fnn (e0.frf b hb), hok_part e0.hok sF cl, e0.bare⟩ args us vs _ _ hb rv q) fun r s' z => ?_
    match r, z with
    | .error e, z => exact z.elim
    | .ok (.ret u), z => exact ce_frame e0.hok e0.frf sF cl z
    | .ok .next, z => exact z.elim
    | .ok .brk, z => exact z.elim
    | .ok .cont, z => exact z.elim⟩
theorem FnG.frameX (Fn : FnG P w K mg base (L2.CX P w) k f fd ps sp) : FnG P w K mg base (L2.CX P w) k f fd ps (spFr sp) :=
  ⟨fun vs H Q E ⟨F, _, _, q⟩ => Fn.long vs F _ _ q, fun A hg hr outer s H e0 args us vs Q E hb rv ⟨F, sF, cl, q⟩ => by
    have Fnn : ∀ {b}, H b = none → F b = none := fun {b} e => by
      cases hb : F b with
      | none => rfl
      | some u => rw [sF _ _ hb] at e; cases e
    refine codeAny_mono (Fn.goes A hg hr outer s F ⟨e0.frames, e0.mod, fun b o e => ⟨(e0.bs b o e).1, Fnn (e0.bs b o e).2⟩, e0.bsz, e0.funs, fun b hb => Fnn (e0.frf b hb), hok_part e0.hok sF cl, e0.bare⟩ args us vs _ _ hb rv q) fun r s' z => ?_
    match r, z with
    | .error e, z => exact cx_frame e0.hok e0.frf sF cl z
    | .ok (.ret u), z => exact ce_frame e0.hok e0.frf sF cl z
    | .ok .next, z => exact z.elim
    | .ok .brk, z => exact z.elim
    | .ok .cont, z => exact z.elim⟩
theorem Pr.frame0 {x : Str} (h : Pr P w K mg base CX0 k x ps sp) : Pr P w K mg base CX0 k x ps (spFr sp) := by
  obtain ⟨f, fd, F, h1, h2, h3⟩ := h
  exact ⟨f, fd, F.frame0, h1, h2, h3⟩
theorem Pr.frameX {x : Str} (h : Pr P w K mg base (L2.CX P w) k x ps sp) : Pr P w K mg base (L2.CX P w) k x ps (spFr sp) := by
  obtain ⟨f, fd, F, h1, h2, h3⟩ := h
  exact ⟨f, fd, F.frameX, h1, h2, h3⟩
end
end Cc

set_option Elab.async false
set_option linter.all false
set_option maxRecDepth 100000
set_option maxHeartbeats 4000000
/-! The pure layer: built-ins, comprehensions, exceptions' questions. -/
namespace Cc
open PySem PySem.Spec PyProof.Rows L2
def pMin : PL
  | [.d (.int i), .d (.int j)], R => R (.int (if j < i then j else i))
  | _, _ => False
def pMax : PL
  | [.d (.int i), .d (.int j)], R => R (.int (if j > i then j else i))
  | _, _ => False
def pAbs : PL
  | [.d (.int i)], R => R (.int (if i < 0 then -i else i))
  | _, _ => False
def pTuple : PL
  | [.d (.list ds)], R => R (.tuple ds)
  | [.d (.tuple ds)], R => R (.tuple ds)
  | _, _ => False
def pRepr : PL
  | [.d d], R => d.showable = true ∧ d.depth ≤ 60 ∧ d.shown.length ≤ sizeLine ∧ R (.str d.shown)
  | _, _ => False
def pLenB : PL
  | [x], R => pLen x fun n => R (.int n)
  | _, _ => False
def pSum : PL
  | [.d (.list ds)], R => ∃ ns : List Int, ds = ns.map PyData.int ∧ R (.int ns.sum)
  | _, _ => False
def pAll : PL
  | [.d (.list ds)], R => ∃ bs : List Bool, ds = bs.map PyData.bool ∧ R (.bool (bs.all id))
  | _, _ => False
def pAny : PL
  | [.d (.list ds)], R => ∃ bs : List Bool, ds = bs.map PyData.bool ∧ R (.bool (bs.any id))
  | _, _ => False
section
variable {Γ : Gx} {X : Cx} {W : WX} {f : Fr} {F H F' H' : Hp} {σ σ' : L2.St} {ρ ρ' : List Sl} {x : A} {v : V} {d : PyData} {e e1 e2 e3 tg : Expr} {a b c : EE} {i j : Nat} {es : List Expr} {pos : Pos} {st : Stmt} {sts sts' : List Stmt} {k k' : SS} {gs : List Nat}
theorem rp1 {vs : List V} {y : A} (r : RpAll Γ F vs [y]) : ∃ u, vs = [u] ∧ Rp Γ F u y := by
  match vs, r with
  | [u], r => exact ⟨u, rfl, r.1⟩
  | [], r => exact r.elim
  | _ :: _ :: _, r => exact r.2.elim
theorem rp2 {vs : List V} {y z : A} (r : RpAll Γ F vs [y, z]) : ∃ u w, vs = [u, w] ∧ Rp Γ F u y ∧ Rp Γ F w z := by
  match vs, r with
  | [u, w], r => exact ⟨u, w, rfl, r.1, r.2.1⟩
  | [], r => exact r.elim
  | [_], r => exact r.2.elim
  | _ :: _ :: _ :: _, r => exact r.2.2.elim
theorem cd_min : CallD Γ (fun xs H Q => ∃ i j, xs = [V.int i, .int j] ∧ Q (.int (if j < i then j else i)) H) pMin := fun f F H σ ρ vs xs Q R E r p o => by
  unfold pMin at p
  split at p
  · obtain ⟨u, w, rfl, r1, r2⟩ := rp2 r
    cases r1; cases r2
    exact ⟨_, _, rfl, o _ _ _ _ p E (Same.refl _) (.int _)⟩
  · exact p.elim
theorem cd_max : CallD Γ (fun xs H Q => ∃ i j, xs = [V.int i, .int j] ∧ Q (.int (if j > i then j else i)) H) pMax := fun f F H σ ρ vs xs Q R E r p o => by
  unfold pMax at p
  split at p
  · obtain ⟨u, w, rfl, r1, r2⟩ := rp2 r
    cases r1; cases r2
    exact ⟨_, _, rfl, o _ _ _ _ p E (Same.refl _) (.int _)⟩
  · exact p.elim
theorem cd_abs : CallD Γ (fun xs H Q => ∃ i, xs = [V.int i] ∧ Q (.int (if i < 0 then -i else i)) H) pAbs := fun f F H σ ρ vs xs Q R E r p o => by
  unfold pAbs at p
  split at p
  · obtain ⟨u, rfl, r1⟩ := rp1 r
    cases r1
    exact ⟨_, rfl, o _ _ _ _ p E (Same.refl _) (.int _)⟩
  · exact p.elim
def rTupleOf (K : PySem.W.Frag) : List V → Hp → VK → Prop := fun xs H Q => ∃ p ys, xs = [V.ref p] ∧ ((SqL K H p ys ∧ ∀ l, H l = none → Q (.ref l) (upd H l (.tup ys))) ∨ (SqT K H p ys ∧ Q (.ref p) H))
theorem cd_tuple : CallD Γ (rTupleOf Γ.K) pTuple := fun f F H σ ρ vs xs Q R E r p o => by
  unfold pTuple at p
  split at p
  · obtain ⟨u, rfl, r1⟩ := rp1 r
    cases r1 with
    | lst hs ha =>
      refine ⟨_, _, rfl, .inl ⟨.of (E.s1 _ _ hs), fun l nl => ?_⟩⟩
      have nF := E.fnone nl
      exact o _ _ _ _ p (E.alloc nl) (same_updF nF) (.tup (.of upd_same) (DqAll.same (same_updF nF) _ ha))
  · obtain ⟨u, rfl, r1⟩ := rp1 r
    cases r1 with
    | tup hs ha => exact ⟨_, _, rfl, .inr ⟨Same.tup E.s1 hs, o _ _ _ _ p E (Same.refl _) (.tup hs ha)⟩⟩
  · exact p.elim
theorem cd_repr : CallD Γ (rRepD Γ.K) pRepr := fun f F H σ ρ vs xs Q R E r p o => by
  unfold pRepr at p
  split at p
  · obtain ⟨u, rfl, r1⟩ := rp1 r
    exact ⟨_, _, rfl, Dp.same E.s1 _ (Dq.dp _ r1), p.1, p.2.1, p.2.2.1, o _ _ _ _ p.2.2.2 E (Same.refl _) (.str _)⟩
  · exact p.elim
theorem cd_len : CallD Γ (fun xs H Q => ∃ p ys, xs = [V.ref p] ∧ (SqL Γ.K H p ys ∨ SqT Γ.K H p ys) ∧ Q (.int ys.length) H) pLenB := fun f F H σ ρ vs xs Q R E r p o => by
  unfold pLenB at p
  split at p
  · obtain ⟨u, rfl, r1⟩ := rp1 r
    unfold pLen at p
    split at p
    · cases r1 with
      | lst hs ha => exact ⟨_, _, rfl, .inl (.of (E.s1 _ _ hs)), by rw [ha.len]; exact o _ _ _ _ p E (Same.refl _) (.int _)⟩
    · cases r1 with
      | tup hs ha => exact ⟨_, _, rfl, .inr (Same.tup E.s1 hs), by rw [ha.len]; exact o _ _ _ _ p E (Same.refl _) (.int _)⟩
    · obtain ⟨q, rfl, hs⟩ := r1
      exact ⟨_, _, rfl, .inl (E.s1.seq hs), by rw [List.length_map]; exact o _ _ _ _ p E (Same.refl _) (.int _)⟩
    · exact p.elim
  · exact p.elim
theorem cd_sum : CallD Γ (rSum Γ.K) pSum := fun f F H σ ρ vs xs Q R E r p o => by
  unfold pSum at p
  split at p
  · obtain ⟨u, rfl, r1⟩ := rp1 r
    obtain ⟨ns, rfl, p⟩ := p
    cases r1 with
    | lst hs ha =>
      have e := ha.ints
      subst e
      exact ⟨_, ns, rfl, .of (E.s1 _ _ hs), o _ _ _ _ p E (Same.refl _) (.int _)⟩
  · exact p.elim
theorem cd_all : CallD Γ (rAll Γ.K) pAll := fun f F H σ ρ vs xs Q R E r p o => by
  unfold pAll at p
  split at p
  · obtain ⟨u, rfl, r1⟩ := rp1 r
    obtain ⟨ns, rfl, p⟩ := p
    cases r1 with
    | lst hs ha =>
      have e := ha.bools
      subst e
      exact ⟨_, ns, rfl, .of (E.s1 _ _ hs), o _ _ _ _ p E (Same.refl _) (.bl _)⟩
  · exact p.elim
theorem cd_any : CallD Γ (rAny Γ.K) pAny := fun f F H σ ρ vs xs Q R E r p o => by
  unfold pAny at p
  split at p
  · obtain ⟨u, rfl, r1⟩ := rp1 r
    obtain ⟨ns, rfl, p⟩ := p
    cases r1 with
    | lst hs ha =>
      have e := ha.bools
      subst e
      exact ⟨_, ns, rfl, .of (E.s1 _ _ hs), o _ _ _ _ p E (Same.refl _) (.bl _)⟩
  · exact p.elim
/-- sorted(xs) of ints -/
def lSortI (a : EE) : LL := fun ρ R Xx => a ρ (fun x ρ1 => dL x fun ds => ∃ ns : List Int, ds = ns.map PyData.int ∧ ns.length < 64 ∧ ∀ ns' : List Int, ns'.Perm ns → ns'.Pairwise (· ≤ ·) → R (ns'.map PyData.int) ρ1) Xx
theorem dl_sortI (hpe : ∀ {ta : TE}, PE X e1 ta → PE X e (tCB (rSorted Γ.K) (tCons ta tNil))) {ta : TE} (h1 : DE Γ X W e1 ta a) : DL Γ X W e (tCB (rSorted Γ.K) (tCons ta tNil)) (lSortI a) := by
  obtain ⟨p1, d1⟩ := h1
  refine ⟨hpe p1, fun f F H σ ρ Q R Xx E q o ox => ?_⟩
  refine d1 f F H σ ρ _ _ Xx E q (fun x ρ1 F1 H1 v1 q1 E1 s1 r1 => ?_) ox
  obtain ⟨us, rfl, q2⟩ := dL_of q1
  obtain ⟨ns, rfl, h64, q2⟩ := q2
  cases r1 with
  | lst hs ha =>
    have e := ha.ints
    subst e
    exact ⟨_, ns, rfl, .of (E1.s1 _ _ hs), h64, fun ns' p h1 h2 np => o _ _ _ _ _ _ (q2 ns' h1 h2) (E1.raw np) s1 (own_new E1 (dqInts ns') np)⟩
/-! ### comprehensions -/
def DTs (Γ : Gx) (X : Cx) (W : WX) (es : List Expr) (t : TT) (ε : BB) : Prop := PTs X es t ∧ DenB Γ W t ε
theorem dts_nil : DTs Γ X W [] tYes bYes := ⟨pts_nil, fun f F H σ ρ Q R Xx E q o ox => o _ _ _ _ q E (Same.refl _)⟩
theorem dts_one {t : TT} {τ : BB} (h : DT Γ X W e t τ) : DTs Γ X W [e] t τ := ⟨pts_one h.1, h.2⟩
abbrev WF : WX := fun _ _ _ _ => False
def aShared : Shared := {}
theorem dl_comp {elt iter : Expr} {ifs : List Expr} {scope : Scope} {own : List (Str × Nat)} {ι : II} {γ : GG} {τ : BB} {ε : EE} {wi : TI} {g : TG} {tt : TT} {te : TE} (hc : X.calm = true) (hN : X.N.Nodup) (hi : DI Γ X W tg iter wi ι) (ok : BlkOk X.N X.env.scope scope own)
    (hg : ∀ (s : Shared) (H : Hp) (C : Addr) (cl : List (Str × Addr)) (fp : List Addr), DG Γ (X.blk s H scope (compEnvC scope cl C X.env) fp) tg g γ gs)
    (ht : ∀ (s : Shared) (H : Hp) (C : Addr) (cl : List (Str × Addr)) (fp : List Addr), DTs Γ (X.blk s H scope (compEnvC scope cl C X.env) fp) WF ifs tt τ)
    (he : ∀ (s : Shared) (H : Hp) (C : Addr) (cl : List (Str × Addr)) (fp : List Addr), DE Γ (X.blk s H scope (compEnvC scope cl C X.env) fp) WF elt te ε)
    (hn : (own.map (·.2)).Nodup := by decide) (hgs : ∀ v ∈ gs, v ∈ own.map (·.2) := by decide) (hs : ∀ x, foldedSetIterable iter X.env x = pure x := by intro _; rfl) :
    DL Γ X W (.ListComp elt [⟨tg, iter, ifs, 0⟩] scope pos) (tLc wi g tt te (own.map (·.2))) (lLc ι γ τ ε (own.map (·.2))) :=
  dl_lc (X' := X) (t0 := te) hn hgs (pe_lc hc hN hi.1 ok (fun s H C cl fp => (hg s H C cl fp).1) (fun s H C cl fp => (ht s H C cl fp).1) (fun s H C cl fp => (he s H C cl fp).1) hs) hi.2 (hg aShared (fun _ => none) 0 [] []).2 (ht aShared (fun _ => none) 0 [] []).2 (he aShared (fun _ => none) 0 [] []).2
theorem den_setO {l : LL} {t : TE} (d : DenL Γ W t l) : DenS Γ W (tAsg t (gName i)) (sSetO i l) := fun f F H σ ρ P D E q o => by
  refine d f F H σ ρ _ _ P.ex E q (fun ds ρ1 F1 H1 a xs q1 E1 s1 w => ?_) (o.ex σ)
  exact o.nx _ _ _ _ q1 (E1.setO w.hH w.hD w.hF (.inl w.h0) w.hO w.hR) s1
theorem den_set {t : TE} (d : DenE Γ W t a) : DenS Γ W (tAsg t (gName i)) (sAsg a (gNm i)) := fun f F H σ ρ P D E q o => by
  refine d f F H σ ρ _ _ P.ex E q (fun x ρ1 F1 H1 v1 q1 E1 s1 r1 => ?_) (o.ex σ)
  exact den_gName f F1 H1 σ ρ1 v1 x _ _ E1 r1 q1 fun σ2 ρ2 F2 H2 q2 E2 s2 _ _ => o.nx _ _ _ _ q2 E2 (s1.trans s2)
/-- x = [.. for ..] -/
theorem ds_setLcO {y : Str} {py spos : Pos} {elt iter : Expr} {ifs : List Expr} {scope : Scope} {own : List (Str × Nat)} {ι : II} {γ : GG} {τ : BB} {ε : EE} {wi : TI} {g : TG} {tt : TT} {te : TE} (hc : X.calm = true) (hN : X.N.Nodup) (hy : X.N[i]? = some y) (hyl : X.env.scope.names.lookup y = some .local)
    (hsw : swapsWith (.ListComp elt [⟨tg, iter, ifs, 0⟩] scope pos) (some (.Name y py)) spos.line X.env = pure true) (hi : DI Γ X W tg iter wi ι) (ok : BlkOk X.N X.env.scope scope own)
    (hg : ∀ (s : Shared) (H : Hp) (C : Addr) (cl : List (Str × Addr)) (fp : List Addr), DG Γ (X.blk s H scope (compEnvC scope cl C X.env) fp) tg g γ gs)
    (ht : ∀ (s : Shared) (H : Hp) (C : Addr) (cl : List (Str × Addr)) (fp : List Addr), DTs Γ (X.blk s H scope (compEnvC scope cl C X.env) fp) WF ifs tt τ)
    (he : ∀ (s : Shared) (H : Hp) (C : Addr) (cl : List (Str × Addr)) (fp : List Addr), DE Γ (X.blk s H scope (compEnvC scope cl C X.env) fp) WF elt te ε)
    (hn : (own.map (·.2)).Nodup := by decide) (hgs : ∀ v ∈ gs, v ∈ own.map (·.2) := by decide) (hs : ∀ x, foldedSetIterable iter X.env x = pure x := by intro _; rfl) :
    DS Γ X W (.Assign [.Name y py] (.ListComp elt [⟨tg, iter, ifs, 0⟩] scope pos) spos) (tAsg (tLc wi g tt te (own.map (·.2))) (gName i)) (sSetO i (lLc ι γ τ ε (own.map (·.2)))) := by
  have h := dl_comp (pos := pos) hc hN hi ok hg ht he hn hgs hs
  exact ⟨ps_setLc hc hN hy hyl hsw hi.1 ok (fun s H C cl fp => (hg s H C cl fp).1) (fun s H C cl fp => (ht s H C cl fp).1) (fun s H C cl fp => (he s H C cl fp).1) hs, den_setO h.2⟩
theorem ds_setLc {y : Str} {py spos : Pos} {elt iter : Expr} {ifs : List Expr} {scope : Scope} {own : List (Str × Nat)} {ι : II} {γ : GG} {τ : BB} {ε : EE} {wi : TI} {g : TG} {tt : TT} {te : TE} (hc : X.calm = true) (hN : X.N.Nodup) (hy : X.N[i]? = some y) (hyl : X.env.scope.names.lookup y = some .local)
    (hsw : swapsWith (.ListComp elt [⟨tg, iter, ifs, 0⟩] scope pos) (some (.Name y py)) spos.line X.env = pure true) (hi : DI Γ X W tg iter wi ι) (ok : BlkOk X.N X.env.scope scope own)
    (hg : ∀ (s : Shared) (H : Hp) (C : Addr) (cl : List (Str × Addr)) (fp : List Addr), DG Γ (X.blk s H scope (compEnvC scope cl C X.env) fp) tg g γ gs)
    (ht : ∀ (s : Shared) (H : Hp) (C : Addr) (cl : List (Str × Addr)) (fp : List Addr), DTs Γ (X.blk s H scope (compEnvC scope cl C X.env) fp) WF ifs tt τ)
    (he : ∀ (s : Shared) (H : Hp) (C : Addr) (cl : List (Str × Addr)) (fp : List Addr), DE Γ (X.blk s H scope (compEnvC scope cl C X.env) fp) WF elt te ε)
    (hn : (own.map (·.2)).Nodup := by decide) (hgs : ∀ v ∈ gs, v ∈ own.map (·.2) := by decide) (hs : ∀ x, foldedSetIterable iter X.env x = pure x := by intro _; rfl) :
    DS Γ X W (.Assign [.Name y py] (.ListComp elt [⟨tg, iter, ifs, 0⟩] scope pos) spos) (tAsg (tLc wi g tt te (own.map (·.2))) (gName i)) (sAsg (eFz (lLc ι γ τ ε (own.map (·.2)))) (gNm i)) := by
  have h := de_fz (dl_comp (pos := pos) hc hN hi ok hg ht he hn hgs hs)
  exact ⟨ps_setLc hc hN hy hyl hsw hi.1 ok (fun s H C cl fp => (hg s H C cl fp).1) (fun s H C cl fp => (ht s H C cl fp).1) (fun s H C cl fp => (he s H C cl fp).1) hs, den_set h.2⟩
/-! ### exceptions -/
def eIsX (i : Nat) (b : Nat → Bool) : EE := fun ρ R _ => match ρ[i]? with
  | some (.a (.exc c _)) => R (.d (.bool (b c))) ρ
  | _ => False
theorem de_isX {cv : V} {cu : Value} {bb : Nat → Bool} (hE : ∀ c, ExcC Γ.K (Γ.C c)) (hcv : ClsV cv cu) (hk : ∀ c, PySem.W.kitOne Γ.K (.ref (Γ.C c)) cu = some (bb c)) (hpe : PE X e (tCB (rIsX Γ.K) (tCons (tVar i) (tCons (tC cv) tNil)))) : DE Γ X W e (tCB (rIsX Γ.K) (tCons (tVar i) (tCons (tC cv) tNil))) (eIsX i bb) := by
  refine ⟨hpe, fun f F H σ ρ Q R Xx E q o ox => ?_⟩
  unfold eIsX at q
  split at q
  · rename_i c x hx
    obtain ⟨u, hu, a, dd, uv, rfl, h1, h2, h3⟩ := E.sl i _ hx
    exact ⟨_, hu, a, Γ.C c, dd, _, cv, cu, bb c, rfl, E.s1 _ _ h1, E.s1 _ _ h2, hE c, hcv, hk c, o _ _ _ _ _ q E (Same.refl _) (.bl _)⟩
  · exact q.elim
def eVal (i : Nat) : EE := fun ρ R _ => match ρ[i]? with
  | some (.a (.exc _ d)) => R (.d d) ρ
  | _ => False
theorem de_val (hE : ∀ c, ExcC Γ.K (Γ.C c)) (hno : ∀ c, PySem.W.findIn Γ.K (.ref (Γ.C c)) "value" = some none) (hpe : PE X e (tValue Γ.K (tVar i))) : DE Γ X W e (tValue Γ.K (tVar i)) (eVal i) := by
  refine ⟨hpe, fun f F H σ ρ Q R Xx E q o ox => ?_⟩
  unfold eVal at q
  split at q
  · rename_i c x hx
    obtain ⟨u, hu, a, dd, uv, rfl, h1, h2, h3⟩ := E.sl i _ hx
    exact ⟨_, hu, a, Γ.C c, dd, uv, rfl, E.s1 _ _ h1, E.s1 _ _ h2, hE c, hno c, o _ _ _ _ _ q E (Same.refl _) h3⟩
  · exact q.elim
def eCnt (i : Nat) (b : EE) : EE := fun ρ R Xx => b ρ (fun y ρ1 => dD y fun d => match ρ1[i]? with
  | some (.a (.d (.list ds))) => flatD d = true ∧ ds.all flatD = true ∧ R (.d (.int (ds.countP fun z => eqV (vOf z) (vOf d) : Nat))) ρ1
  | _ => False) Xx
end
end Cc

set_option Elab.async false
set_option linter.all false
set_option maxRecDepth 100000
set_option maxHeartbeats 4000000
/-! The pure layer: readings, one step each. -/
namespace Cc
open PySem PySem.Spec PyProof.Rows L2
section
variable {ρ : List Sl} {R : A → List Sl → Prop} {RL : List PyData → List Sl → Prop} {RA : List A → List Sl → Prop} {RB : Bool → List Sl → Prop} {Xx : XX} {P : EndsP} {a b c : EE} {as : AA} {t : BB} {k k' : SS} {g : GG} {gs : GGs} {l : LL} {i j : Nat} {p p' : P2} {d u w : PyData} {ds es : List PyData} {x : A} {ι : II} {vs : List Nat} {φ : Phi} {pl : PL}
theorem y_var : eVar i ρ R Xx ↔ match ρ[i]? with
  | some (.a x) => R x ρ
  | some (.own ds) => R (.d (.list ds)) (ρ.set i (.a (.d (.list ds))))
  | _ => False := Iff.rfl
theorem y_c : eC d ρ R Xx ↔ R (.d d) ρ := Iff.rfl
theorem y_op : eOp p a b ρ R Xx ↔ a ρ (fun x ρ1 => b ρ1 (fun y ρ2 => dD x fun u => dD y fun w => p u w fun d => R (.d d) ρ2) Xx) Xx := Iff.rfl
theorem y_un {q : PyData → (PyData → Prop) → Prop} : eUn q a ρ R Xx ↔ a ρ (fun x ρ1 => dD x fun u => q u fun d => R (.d d) ρ1) Xx := Iff.rfl
theorem y_and : eAnd a b ρ R Xx ↔ a ρ (fun x ρ1 => dB x fun c => if c = true then b ρ1 R Xx else R (.d (.bool false)) ρ1) Xx := Iff.rfl
theorem y_or : eOr a b ρ R Xx ↔ a ρ (fun x ρ1 => dB x fun c => if c = true then R (.d (.bool true)) ρ1 else b ρ1 R Xx) Xx := Iff.rfl
theorem y_not : eNot a ρ R Xx ↔ a ρ (fun x ρ1 => dB x fun c => R (.d (.bool !c)) ρ1) Xx := Iff.rfl
theorem y_if : eIf t a b ρ R Xx ↔ t ρ (fun c ρ1 => if c = true then a ρ1 R Xx else b ρ1 R Xx) Xx := Iff.rfl
theorem y_isN : eIsN a ρ R Xx ↔ a ρ (fun x ρ1 => R (.d (.bool (isNon x))) ρ1) Xx := Iff.rfl
theorem y_notN : eNotN a ρ R Xx ↔ a ρ (fun x ρ1 => R (.d (.bool !(isNon x))) ρ1) Xx := Iff.rfl
theorem y_bOf : bOf a ρ RB Xx ↔ a ρ (fun x ρ1 => dB x fun c => RB c ρ1) Xx := Iff.rfl
theorem y_bTru : bTru a ρ RB Xx ↔ a ρ (fun x ρ1 => truP x fun b => RB b ρ1) Xx := Iff.rfl
theorem y_bNot : bNot t ρ RB Xx ↔ t ρ (fun b ρ1 => RB (!b) ρ1) Xx := Iff.rfl
theorem y_bYes : bYes ρ RB Xx ↔ RB true ρ := Iff.rfl
theorem y_aNil : aNil ρ RA Xx ↔ RA [] ρ := Iff.rfl
theorem y_aCons : aCons a as ρ RA Xx ↔ a ρ (fun x ρ1 => as ρ1 (fun xs ρ2 => RA (x :: xs) ρ2) Xx) Xx := Iff.rfl
theorem y_aStar : aStar a as ρ RA Xx ↔ a ρ (fun x ρ1 => dS x fun us => as ρ1 (fun xs ρ2 => RA (us.map A.d ++ xs) ρ2) Xx) Xx := Iff.rfl
theorem y_tup : eTup as ρ R Xx ↔ as ρ (fun xs ρ1 => dAll xs fun ds => szL ds.length ∧ R (.d (.tuple ds)) ρ1) Xx := Iff.rfl
theorem y_disp : lDisp as ρ RL Xx ↔ as ρ (fun xs ρ1 => dAll xs fun ds => szL ds.length ∧ RL ds ρ1) Xx := Iff.rfl
theorem y_fz : eFz l ρ R Xx ↔ l ρ (fun ds ρ1 => R (.d (.list ds)) ρ1) Xx := Iff.rfl
theorem y_cb : eCB pl as ρ R Xx ↔ as ρ (fun xs ρ1 => pl xs fun d => R (.d d) ρ1) Xx := Iff.rfl
theorem y_cat : lCat a b ρ RL Xx ↔ a ρ (fun x ρ1 => b ρ1 (fun y ρ2 => dL x fun u => dL y fun w => szL (u.length + w.length) ∧ RL (u ++ w) ρ2) Xx) Xx := Iff.rfl
theorem y_of : lOf a ρ RL Xx ↔ a ρ (fun x ρ1 => dS x fun u => RL u ρ1) Xx := Iff.rfl
theorem y_sl {lo hi : Option EE} : lSl a lo hi ρ RL Xx ↔ a ρ (fun x ρ1 => dL x fun u => dO lo ρ1 (fun l ρ2 => dO hi ρ2 (fun h ρ3 => RL (cutA u l h) ρ3) Xx) Xx) Xx := Iff.rfl
theorem y_dO0 {Q : Option Int → List Sl → Prop} : dO none ρ Q Xx ↔ Q none ρ := Iff.rfl
theorem y_dO1 {Q : Option Int → List Sl → Prop} : dO (some a) ρ Q Xx ↔ a ρ (fun x ρ1 => dI x fun i => Q (some i) ρ1) Xx := Iff.rfl
theorem y_ixN : eIxN i a ρ R Xx ↔ match ρ[i]? with
  | some (.own _) => a ρ (fun y ρ1 => dI y fun k => match ρ1[i]? with | some (.own ds) => ∃ d, atI ds k = some d ∧ R (.d d) ρ1 | _ => False) Xx
  | some (.a x) => a ρ (fun y ρ1 => dD x fun u => dD y fun w => pIx u w fun d => R (.d d) ρ1) Xx
  | _ => False := Iff.rfl
theorem y_lenN : eLenN i ρ R Xx ↔ match ρ[i]? with
  | some (.own ds) => R (.d (.int ds.length)) ρ
  | some (.a x) => pLen x fun n => R (.d (.int n)) ρ
  | _ => False := Iff.rfl
theorem y_chain : eChain p p' a b c ρ R Xx ↔ a ρ (fun x ρ1 => b ρ1 (fun y ρ2 => dD x fun u => dD y fun w => p u w fun d => dB (.d d) fun k => if k = true then c ρ2 (fun z ρ3 => dD z fun v => p' w v fun d => R (.d d) ρ3) Xx else R (.d (.bool false)) ρ2) Xx) Xx := Iff.rfl
theorem y_call0 : eCall0 φ as ρ R Xx ↔ as ρ (fun xs ρ1 => φ 0 xs (fun x _ => R x ρ1) (fun _ _ _ => False)) Xx := Iff.rfl
theorem y_call : eCall φ as ρ R Xx ↔ as ρ (fun xs ρ1 => φ 0 xs (fun x _ => R x ρ1) (fun c d _ => Xx c d ρ1)) Xx := Iff.rfl
theorem y_callR0 : eCallR0 i φ as ρ R Xx ↔ (∃ m, ρ[i]? = some (.rng m)) ∧ as ρ (fun xs ρ1 => match ρ1[i]? with
  | some (.rng n) => φ n xs (fun x n' => R x (ρ1.set i (.rng n'))) (fun _ _ _ => False)
  | _ => False) Xx := Iff.rfl
theorem y_seq : sSeq k k' ρ P ↔ k ρ { P with nx := fun ρ1 => k' ρ1 P } := Iff.rfl
theorem y_next : sNext ρ P ↔ P.nx ρ := Iff.rfl
theorem y_brk : sBrk ρ P ↔ P.bk ρ := Iff.rfl
theorem y_cnt : sCnt ρ P ↔ P.ct ρ := Iff.rfl
theorem y_asg : sAsg a g ρ P ↔ a ρ (fun x ρ1 => g x ρ1 P.nx) P.ex := Iff.rfl
theorem y_setO : sSetO i l ρ P ↔ l ρ (fun ds ρ1 => P.nx (ρ1.set i (.own ds))) P.ex := Iff.rfl
theorem y_gNm {Q : List Sl → Prop} : gNm i x ρ Q ↔ Q (ρ.set i (.a x)) := Iff.rfl
theorem y_gTp {n : Nat} {Q : List Sl → Prop} : gTp n gs (.d (.tuple ds)) ρ Q ↔ ds.length = n ∧ gs ds ρ Q := Iff.rfl
theorem y_gsNil {Q : List Sl → Prop} : gsNil [] ρ Q ↔ Q ρ := Iff.rfl
theorem y_gsCons {Q : List Sl → Prop} : gsCons g gs (d :: ds) ρ Q ↔ g (.d d) ρ fun ρ1 => gs ds ρ1 Q := Iff.rfl
theorem y_subO {Q : List Sl → Prop} : gSubO i a (.d d) ρ Q ↔ (∃ ds, ρ[i]? = some (.own ds)) ∧ a ρ (fun y ρ1 => dI y fun k => match ρ1[i]? with | some (.own ds) => ∃ j, ixN ds.length k = some j ∧ Q (ρ1.set i (.own (ds.set j d))) | _ => False) (fun _ _ _ => False) := Iff.rfl
theorem y_par : sPar i j as ρ P ↔ as ρ (fun xs ρ1 => match xs with | [x, y] => P.nx ((ρ1.set i (.a x)).set j (.a y)) | _ => False) P.ex := Iff.rfl
theorem y_aug {q : Int → Int → Int} : sAug i q a ρ P ↔ match ρ[i]? with
  | some (.a x) => dI x fun n => a ρ (fun y ρ1 => dI y fun m => P.nx (ρ1.set i (.a (.d (.int (q n m)))))) P.ex
  | _ => False := Iff.rfl
theorem y_expr : sExpr a ρ P ↔ a ρ (fun _ ρ1 => P.nx ρ1) P.ex := Iff.rfl
theorem y_app : sApp i a ρ P ↔ (∃ ds, ρ[i]? = some (.own ds)) ∧ a ρ (fun y ρ1 => dD y fun d => match ρ1[i]? with | some (.own ds) => szL (ds.length + 1) ∧ P.nx (ρ1.set i (.own (ds ++ [d]))) | _ => False) P.ex := Iff.rfl
theorem y_ext : sExt i a ρ P ↔ (∃ ds, ρ[i]? = some (.own ds)) ∧ a ρ (fun y ρ1 => dL y fun es => match ρ1[i]? with | some (.own ds) => szL (ds.length + es.length) ∧ P.nx (ρ1.set i (.own (ds ++ es))) | _ => False) P.ex := Iff.rfl
theorem y_ifS : sIf t k k' ρ P ↔ t ρ (fun c ρ1 => if c = true then k ρ1 P else k' ρ1 P) P.ex := Iff.rfl
theorem y_ret : sRet a ρ P ↔ a ρ P.rt P.ex := Iff.rfl
theorem y_retN : sRetN ρ P ↔ P.rt (.d .none) ρ := Iff.rfl
theorem y_for : sFor ι g k ρ P ↔ ι ρ (fun xs ρ1 => LoopP xs g k P ρ1) P.ex := Iff.rfl
theorem y_while : sWhile t k ρ P ↔ WhileP t k P ρ := Iff.rfl
theorem y_iSeq : iSeq a ρ RA Xx ↔ a ρ (fun x ρ1 => match x with
  | .d (.list ds) => RA (ds.map A.d) ρ1
  | .scr ns => RA (ns.map fun n => A.d (.int n)) ρ1
  | _ => False) Xx := Iff.rfl
theorem y_iTp : iTp a ρ RA Xx ↔ a ρ (fun x ρ1 => match x with
  | .d (.tuple ds) => RA (ds.map A.d) ρ1
  | _ => False) Xx := Iff.rfl
theorem y_iR1 : iR1 a ρ RA Xx ↔ a ρ (fun x ρ1 => dI x fun k => -(2 ^ 62) ≤ k ∧ k < 2 ^ 62 ∧ RA (rngA 0 k.toNat) ρ1) Xx := Iff.rfl
theorem y_iR2 : iR2 a b ρ RA Xx ↔ a ρ (fun x ρ1 => b ρ1 (fun y ρ2 => dI x fun i => dI y fun j => (-(2 ^ 62) ≤ i ∧ i < 2 ^ 62 ∧ -(2 ^ 62) ≤ j ∧ j < 2 ^ 62) ∧ RA (rngA i (j - i).toNat) ρ2) Xx) Xx := Iff.rfl
theorem y_iEn : iEn a ρ RA Xx ↔ a ρ (fun x ρ1 => dL x fun ds => RA (enA ds) ρ1) Xx := Iff.rfl
theorem y_iZp : iZp a b ρ RA Xx ↔ a ρ (fun x ρ1 => b ρ1 (fun y ρ2 => match x, y with
  | .d (.list ds), .d (.list es) => RA (zipA ds es) ρ2
  | .d (.tuple ds), .d (.tuple es) => RA (zipA ds es) ρ2
  | _, _ => False) Xx) Xx := Iff.rfl
theorem y_lc : lLc ι g t a vs ρ RL Xx ↔ ι ρ (fun xs ρ1 => LcP xs g t a vs RL ρ1) Xx := Iff.rfl
theorem y_raise {n : Nat} : sRaise n a ρ P ↔ a ρ (fun x ρ1 => dD x fun d => P.ex n d ρ1) P.ex := Iff.rfl
theorem y_dD {Q : PyData → Prop} : dD (.d d) Q ↔ Q d := Iff.rfl
theorem y_dB {b : Bool} {Q : Bool → Prop} : dB (.d (.bool b)) Q ↔ Q b := Iff.rfl
theorem y_dI {b : Int} {Q : Int → Prop} : dI (.d (.int b)) Q ↔ Q b := Iff.rfl
theorem y_dL {Q : List PyData → Prop} : dL (.d (.list ds)) Q ↔ Q ds := Iff.rfl
theorem y_dSl {Q : List PyData → Prop} : dS (.d (.list ds)) Q ↔ Q ds := Iff.rfl
theorem y_dSt {Q : List PyData → Prop} : dS (.d (.tuple ds)) Q ↔ Q ds := Iff.rfl
theorem y_dAll0 {Q : List PyData → Prop} : dAll [] Q ↔ Q [] := Iff.rfl
theorem y_dAllS {xs : List A} {Q : List PyData → Prop} : dAll (x :: xs) Q ↔ dD x fun d => dAll xs fun ds => Q (d :: ds) := Iff.rfl
theorem dAll_map : ∀ {ds : List PyData} {Q : List PyData → Prop}, dAll (ds.map A.d) Q ↔ Q ds
  | [], _ => Iff.rfl
  | d :: ds, Q => dAll_map (ds := ds) (Q := fun es => Q (d :: es))
theorem y_I0 {q : Int → Int → PyData} {a b : Int} {Q : PyData → Prop} : pI0 q (.int a) (.int b) Q ↔ Q (q a b) := Iff.rfl
theorem y_I {C : Int → Int → Prop} {q : Int → Int → PyData} {a b : Int} {Q : PyData → Prop} : pI C q (.int a) (.int b) Q ↔ C a b ∧ Q (q a b) := Iff.rfl
theorem y_eqI {a b : Int} {Q : PyData → Prop} : pEq (.int a) (.int b) Q ↔ Q (.bool (decide (a = b))) := Iff.rfl
theorem y_eqS {a b : Str} {Q : PyData → Prop} : pEq (.str a) (.str b) Q ↔ Q (.bool (decide (a = b))) := Iff.rfl
theorem y_eqB {a b : Bool} {Q : PyData → Prop} : pEq (.bool a) (.bool b) Q ↔ Q (.bool (decide (a = b))) := Iff.rfl
theorem y_neI {a b : Int} {Q : PyData → Prop} : pNe (.int a) (.int b) Q ↔ Q (.bool (!decide (a = b))) := Iff.rfl
theorem y_neS {a b : Str} {Q : PyData → Prop} : pNe (.str a) (.str b) Q ↔ Q (.bool (!decide (a = b))) := Iff.rfl
theorem y_neB {a b : Bool} {Q : PyData → Prop} : pNe (.bool a) (.bool b) Q ↔ Q (.bool (!decide (a = b))) := Iff.rfl
theorem y_neg {a : Int} {Q : PyData → Prop} : pNeg (.int a) Q ↔ Q (.int (-a)) := Iff.rfl
theorem y_ixL {z : Int} {Q : PyData → Prop} : pIx (.list ds) (.int z) Q ↔ ∃ d, atI ds z = some d ∧ Q d := Iff.rfl
theorem y_ixT {z : Int} {Q : PyData → Prop} : pIx (.tuple ds) (.int z) Q ↔ ∃ d, atI ds z = some d ∧ Q d := Iff.rfl
theorem y_min {a b : Int} {Q : PyData → Prop} : pMin [.d (.int a), .d (.int b)] Q ↔ Q (.int (if b < a then b else a)) := Iff.rfl
theorem y_max {a b : Int} {Q : PyData → Prop} : pMax [.d (.int a), .d (.int b)] Q ↔ Q (.int (if b > a then b else a)) := Iff.rfl
theorem y_abs {a : Int} {Q : PyData → Prop} : pAbs [.d (.int a)] Q ↔ Q (.int (if a < 0 then -a else a)) := Iff.rfl
theorem y_lenL {Q : Int → Prop} : pLen (.d (.list ds)) Q ↔ Q ds.length := Iff.rfl
theorem y_lenT {Q : Int → Prop} : pLen (.d (.tuple ds)) Q ↔ Q ds.length := Iff.rfl
theorem y_lenS {ns : List Int} {Q : Int → Prop} : pLen (.scr ns) Q ↔ Q ns.length := Iff.rfl
theorem y_lenB {Q : PyData → Prop} : pLenB [x] Q ↔ pLen x fun n => Q (.int n) := Iff.rfl
theorem y_truL {Q : Bool → Prop} : truP (.d (.list ds)) Q ↔ Q (!ds.isEmpty) := Iff.rfl
theorem y_truT {Q : Bool → Prop} : truP (.d (.tuple ds)) Q ↔ Q (!ds.isEmpty) := Iff.rfl
theorem y_inL {neg : Bool} {Q : PyData → Prop} : pIn neg d (.list ds) Q ↔ flatD d = true ∧ ds.all flatD = true ∧ Q (.bool (if neg then !inV (vOf d) (ds.map vOf) else inV (vOf d) (ds.map vOf))) := by
  cases d <;> rfl
theorem y_inT {neg : Bool} {Q : PyData → Prop} : pIn neg d (.tuple ds) Q ↔ flatD d = true ∧ ds.all flatD = true ∧ Q (.bool (if neg then !inV (vOf d) (ds.map vOf) else inV (vOf d) (ds.map vOf))) := by
  cases d <;> rfl
theorem y_ex1 {α : Type} {a : α} {Q : α → Prop} : (∃ d, some a = some d ∧ Q d) ↔ Q a := ⟨fun ⟨_, e, q⟩ => by cases e; exact q, fun q => ⟨_, rfl, q⟩⟩
theorem y_exO : (∃ es, some (Sl.own ds) = some (.own es)) ↔ True := ⟨fun _ => trivial, fun _ => ⟨_, rfl⟩⟩
theorem y_exR {n : Nat} : (∃ m, some (Sl.rng n) = some (.rng m)) ↔ True := ⟨fun _ => trivial, fun _ => ⟨_, rfl⟩⟩
theorem sz0 : szL 0 ↔ True := by unfold szL; simp
theorem sz_small {n : Nat} (h : n ≤ 1000) : szL n := by unfold szL; rw [sizeLine_eq]; omega
theorem at0 {α : Type} {a : α} {l : List α} : atI (a :: l) 0 = some a := atI_nat (j := 0) rfl
theorem at1 {α : Type} {a b : α} {l : List α} : atI (a :: b :: l) 1 = some b := atI_nat (j := 1) rfl
theorem at2 {α : Type} {a b c : α} {l : List α} : atI (a :: b :: c :: l) 2 = some c := atI_nat (j := 2) rfl
theorem at3 {α : Type} {a b c d : α} {l : List α} : atI (a :: b :: c :: d :: l) 3 = some d := atI_nat (j := 3) rfl
end
/-- a loop by an invariant -/
theorem loop {xs : List A} {g : GG} {b : SS} {P : EndsP} {ρ : List Sl} (Inv : Nat → List Sl → Prop) (h0 : Inv 0 ρ) (hs : ∀ i x ρ1, xs[i]? = some x → Inv i ρ1 → g x ρ1 fun ρ2 => b ρ2 { P with nx := Inv (i + 1), ct := Inv (i + 1), bk := P.nx }) (hd : ∀ ρ1, Inv xs.length ρ1 → P.nx ρ1) : LoopP xs g b P ρ := ⟨Inv, h0, hs, hd⟩
theorem loopR {lo : Int} {n : Nat} {g : GG} {b : SS} {P : EndsP} {ρ : List Sl} (Inv : Nat → List Sl → Prop) (h0 : Inv 0 ρ) (hs : ∀ (i : Nat) ρ1, i < n → Inv i ρ1 → g (.d (.int (lo + i))) ρ1 fun ρ2 => b ρ2 { P with nx := Inv (i + 1), ct := Inv (i + 1), bk := P.nx }) (hd : ∀ ρ1, Inv n ρ1 → P.nx ρ1) : LoopP (rngA lo n) g b P ρ :=
  ⟨Inv, h0, fun i x ρ1 hx h => by
    have hi := (List.getElem?_eq_some_iff.mp hx).1
    rw [rngA_len] at hi
    rw [rngA_get hi] at hx
    cases hx
    exact hs i ρ1 hi h, fun ρ1 h => hd ρ1 (by rwa [rngA_len] at h)⟩
theorem comp {xs : List A} {g : GG} {t : BB} {e : EE} {vs : List Nat} {R : List PyData → List Sl → Prop} {ρ : List Sl} (hp : ∀ v ∈ vs, plainS ρ[v]?) (Inv : Nat → List PyData → List Sl → Prop) (h0 : Inv 0 [] (wipeP ρ vs))
    (hs : ∀ i x acc ρ1, xs[i]? = some x → Inv i acc ρ1 → g x ρ1 fun ρ2 => t ρ2 (fun b ρ3 => if b = true then e ρ3 (fun y ρ4 => dD y fun d => szL (acc.length + 1) ∧ Inv (i + 1) (acc ++ [d]) (wipeP ρ4 vs)) noX else Inv (i + 1) acc (wipeP ρ3 vs)) noX)
    (hd : ∀ acc ρ1, Inv xs.length acc ρ1 → R acc (restP ρ vs ρ1)) : LcP xs g t e vs R ρ := ⟨hp, Inv, h0, hs, hd⟩
end Cc

set_option Elab.async false
set_option linter.all false
set_option maxRecDepth 100000
set_option maxHeartbeats 4000000
/-! The pure layer: promises of the heap layer taken over. -/
namespace Cc
open PySem PySem.Spec PyProof.Rows L2
open Classical in
/-- of what a call left, the part that can be known -/
noncomputable def filt (F F' : Hp) : Hp := fun b => match F' b with
  | none => none
  | some o => if F b ≠ none ∨ smpl o ∨ (∃ C dx fs, o = .ins C dx fs ∧ F' dx = some (.own b)) ∨ (∃ x C fs, o = .own x ∧ F' x = some (.ins C b fs)) then some o else none
section
variable {Γ : Gx} {F F' H H' : Hp} {v : V}
theorem filt_sub : Same (filt F F') F' := fun b o e => by
  unfold filt at e
  cases h : F' b with
  | none => rw [h] at e; cases e
  | some u =>
    rw [h] at e
    dsimp only at e
    split at e
    · exact e
    · cases e
theorem filt_in {b : Addr} {o : HO} (h : F' b = some o) (c : F b ≠ none ∨ smpl o ∨ (∃ C dx fs, o = .ins C dx fs ∧ F' dx = some (.own b)) ∨ (∃ x C fs, o = .own x ∧ F' x = some (.ins C b fs))) : filt F F' b = some o := by
  unfold filt
  rw [h]
  exact if_pos c
theorem filt_same (s : Same F F') : Same F (filt F F') := fun b o e => filt_in (s b o e) (.inl (by rw [e]; exact nofun))
theorem filt_cl (cl : ∀ a o, F a = some o → okO F a o) (s : Same F F') : ∀ a o, filt F F' a = some o → okO (filt F F') a o := fun a o e => by
  have h := filt_sub a o e
  have c : F a ≠ none ∨ smpl o ∨ (∃ C dx fs, o = .ins C dx fs ∧ F' dx = some (.own a)) ∨ (∃ x C fs, o = .own x ∧ F' x = some (.ins C a fs)) := by
    unfold filt at e
    rw [h] at e
    dsimp only at e
    split at e
    · assumption
    · cases e
  rcases c with c | c | ⟨C, dx, fs, rfl, c⟩ | ⟨x, C, fs, rfl, c⟩
  · cases hF : F a with
    | none => exact absurd hF c
    | some u =>
      have z := s _ _ hF
      rw [h] at z
      cases z
      exact (cl a o hF).same (filt_same s)
  · exact .of c
  · exact filt_in c (.inr (.inr (.inr ⟨a, C, fs, rfl, h⟩)))
  · show filt F F' x ≠ none
    rw [filt_in c (.inr (.inr (.inl ⟨C, a, fs, rfl, h⟩)))]
    exact nofun
mutual
theorem Dq.filt : ∀ (d : PyData) {v : V}, Dq Γ.K F' v d → Dq Γ.K (filt F F') v d
  | .none, _, h => by cases h; exact .non
  | .bool b, _, h => by cases h; exact .bl b
  | .int i, _, h => by cases h; exact .int i
  | .str x, _, h => by cases h; exact .str x
  | .list ds, _, h => by
    cases h with
    | lst hs ha => exact .lst (filt_in hs (.inr (.inl trivial))) (DqAll.filt ds ha)
  | .tuple ds, _, h => by
    cases h with
    | @tup a xs _ hs ha =>
      refine .tup ?_ (DqAll.filt ds ha)
      rcases hs with (hs | ⟨o, hs⟩) | hs
      · exact .inl (.inl (filt_in hs (.inr (.inl trivial))))
      · exact .inl (.inr ⟨o, filt_in hs (.inr (.inl (.inr ⟨xs, rfl⟩)))⟩)
      · exact .inr hs
  | .dict _, _, h => by cases h
theorem DqAll.filt : ∀ (ds : List PyData) {vs : List V}, DqAll Γ.K F' vs ds → DqAll Γ.K (filt F F') vs ds
  | [], _, h => by cases h; exact .nil
  | d :: ds, _, h => by
    cases h with
    | cons h1 h2 => exact .cons (Dq.filt d h1) (DqAll.filt ds h2)
end
theorem Rgs.filt : ∀ {xs : List V} {r : Rg}, Rgs Γ.K F' xs r → Rgs Γ.K (filt F F') xs r
  | _, _, .nil => .nil
  | _, _, .cons h t => .cons (filt_in h (.inr (.inl trivial))) (Rgs.filt t)
theorem SqT.filt {a : Addr} {xs : List V} (hs : SqT Γ.K F' a xs) : SqT Γ.K (filt F F') a xs := by
  rcases hs with (hs | ⟨o, hs⟩) | hs
  · exact .inl (.inl (filt_in hs (.inr (.inl trivial))))
  · exact .inl (.inr ⟨o, filt_in hs (.inr (.inl (.inr ⟨xs, rfl⟩)))⟩)
  · exact .inr hs
theorem Lvs.filt {l : Addr} : ∀ {xs : List V} {lv : List Lv}, Lvs Γ.K F' l xs lv → Lvs Γ.K (filt F F') l xs lv
  | _, _, .nil => .nil
  | _, _, .cons h1 h2 ⟨ys, h3, h4⟩ t => .cons (SqT.filt h1) h2 ⟨ys, filt_in h3 (.inr (.inl trivial)), Rgs.filt h4⟩ (Lvs.filt t)
def noScr : A → Prop
  | .scr _ => False
  | _ => True
/-- the answer is known; of an instance its own dict is known, too -/
theorem Rp.filt {x : A} (hx : noScr x) (hd : ∀ a C dx fs, F' a = some (.ins C dx fs) → F' dx = some (.own a)) (h : Rp Γ F' v x) : Rp Γ (filt F F') v x := by
  cases x with
  | d y => exact Dq.filt y h
  | exc c y =>
    obtain ⟨a, d, u, e, h1, h2, h3⟩ := h
    exact ⟨a, d, u, e, filt_in h1 (.inr (.inl trivial)), filt_in h2 (.inr (.inl trivial)), Dq.filt y h3⟩
  | spr S =>
    obtain ⟨p, l, e, dx, xs, h1, h2, h3⟩ := h
    exact ⟨p, l, e, dx, xs, filt_in h1 (.inr (.inr (.inl ⟨_, _, _, rfl, hd _ _ _ _ h1⟩))), filt_in h2 (.inr (.inl trivial)), Lvs.filt h3⟩
  | scr ns => exact hx.elim
/-- what a call at a known part leaves, said of the whole -/
theorem stp_frm {R : Addr → Prop} {r : Addr} {n' : Nat} (sH : Same F H) (cl : ∀ a o, F a = some o → okO F a o) (s : Same F F') (fr : Frm F H F' H') : Stp Γ false R r F H (filt F F') H' n' where
  s0 := filt_same s
  s1 := filt_sub.trans fr.s1
  new b o e := by
    have e' := filt_sub b o e
    rcases fr.new b o e' with h | h
    · cases hF : F b with
      | none => exact absurd hF h
      | some u =>
        have z := s _ _ hF
        rw [e'] at z
        cases z
        exact .inl rfl
    · exact .inr h
  chg b o hb _ := by
    cases hF : F b with
    | none => exact fr.old b o hb hF
    | some u =>
      have z := sH _ _ hF
      rw [hb] at z
      cases z
      exact fr.s1 _ _ (s _ _ hF)
  liv b e := by
    obtain ⟨h1, h2⟩ := fr.liv b e
    rcases h2 with h2 | h2
    · cases hF : F b with
      | none => exact absurd hF h2
      | some u => rw [s _ _ hF] at h1; cases h1
    · exact h2
  at_ h := nomatch h
  cl := filt_cl cl s
end
section
variable {P : Program} {w : World} {Γ : Gx} {mg : Str → Option Value} {base : Heap} {k : Nat} {x : Str} {ps : List Str} {sp : Sp} {φ : Phi}
/-- a promise of the heap layer, of a def that raises nothing and takes no draws -/
theorem Pr.pure0 (h : Pr P w Γ.K mg base CX0 k x ps sp)
    (c : ∀ n us xs F RR Xx (Q : VK) (E : XK), RpAll Γ F us xs → φ n xs RR Xx → (∀ v F' y, Same F F' → RR y 0 → Rp Γ F' v y → noScr y → Q v F') → sp us F Q E) (hn : ∀ n xs RR Xx, φ n xs RR Xx → φ n xs (fun y _ => RR y 0) Xx ∨ φ n xs RR Xx := by exact fun _ _ _ _ h => .inr h) :
    Pr P w Γ.K mg base CX0 k x ps (spP Γ false φ) :=
  (h.frame0).weak fun vs H Q E ⟨R, r, F, n, xs, us, RR, Xx, e, hr, s, hR, hcl, hat, hno, q, o, ox⟩ => by
    have e : vs = us := e
    rw [e]
    refine ⟨F, s, hcl, c n us xs F RR Xx _ _ hr q fun v F' y s' rr hy ns H' fr => ?_⟩
    exact o y 0 v _ H' rr (stp_frm s hcl s' fr) (hy.filt ns fr.ins)
theorem Pr.pureX (h : Pr P w Γ.K mg base (L2.CX P w) k x ps sp)
    (c : ∀ n us xs F RR Xx (Q : VK) (E : XK), RpAll Γ F us xs → φ n xs RR Xx → (∀ v F' y, Same F F' → RR y 0 → Rp Γ F' v y → noScr y → Q v F') →
      (∀ c dx v y F', Same F F' → Xx c y 0 → F' dx = some (.xd [("value", v)]) → Dq Γ.K F' v y → E (.ref (Γ.C c)) (some dx) F') → sp us F Q E) :
    Pr P w Γ.K mg base (L2.CX P w) k x ps (spP Γ false φ) :=
  (h.frameX).weak fun vs H Q E ⟨R, r, F, n, xs, us, RR, Xx, e, hr, s, hR, hcl, hat, hno, q, o, ox⟩ => by
    have e : vs = us := e
    rw [e]
    refine ⟨F, s, hcl, c n us xs F RR Xx _ _ hr q (fun v F' y s' rr hy ns H' fr => ?_) fun cc dx v y F' s' xx h1 h2 H' fr => ?_⟩
    · exact o y 0 v _ H' rr (stp_frm s hcl s' fr) (hy.filt ns fr.ins)
    · exact ox cc y 0 v dx _ H' xx (stp_frm s hcl s' fr) (filt_in h1 (.inr (.inl trivial))) (Dq.filt y h2)
end
end Cc

set_option Elab.async false
set_option linter.all false
set_option maxRecDepth 100000
set_option maxHeartbeats 4000000
/-! The pure layer: further rules. -/
namespace Cc
open PySem PySem.Spec PyProof.Rows L2
def gUn (n : Nat) (g : GGs) : GG := fun x ρ R => dL x fun ds => ds.length = n ∧ g ds ρ R
def lRev (a : EE) : LL := fun ρ R Xx => a ρ (fun x ρ1 => dL x fun ds => R ds.reverse ρ1) Xx
def downA (lo : Int) (n : Nat) : List A := (List.range n).map fun i => A.d (.int (lo - (i : Nat)))
/-- range(a, b, -1) -/
def iDn (e e' : EE) : II := fun ρ R Xx => e ρ (fun x ρ1 => e' ρ1 (fun y ρ2 => dI x fun i => dI y fun j => (-(2 ^ 62) ≤ i ∧ i < 2 ^ 62 ∧ -(2 ^ 62) ≤ j ∧ j < 2 ^ 62) ∧ R (downA i (i - j).toNat) ρ2) Xx) Xx
def eOrT (a b : EE) : EE := fun ρ R Xx => a ρ (fun x ρ1 => truP x fun k => if k = true then R x ρ1 else b ρ1 R Xx) Xx
def eNotT (a : EE) : EE := fun ρ R Xx => a ρ (fun x ρ1 => truP x fun k => R (.d (.bool !k)) ρ1) Xx
def sIns (i : Nat) (e e' : EE) : SS := fun ρ P => (∃ ds, ρ[i]? = some (.own ds)) ∧ e ρ (fun y ρ1 => e' ρ1 (fun z ρ2 => dI y fun n => dD z fun d => match ρ2[i]? with
  | some (.own ds) => szL (ds.length + 1) ∧ 0 ≤ n ∧ n < 2 ^ 63 ∧ P.nx (ρ2.set i (.own (ds.take n.toNat ++ [d] ++ ds.drop n.toNat)))
  | _ => False) P.ex) P.ex
def eBits (a : EE) : EE := fun ρ R Xx => a ρ (fun x ρ1 => dI x fun i => R (.d (.int (Builtin.Int.intBits i : Nat))) ρ1) Xx
def eIdx (i : Nat) (b : EE) : EE := fun ρ R Xx => (∃ ds, ρ[i]? = some (.a (.d (.list ds)))) ∧ b ρ (fun y ρ1 => dD y fun d => match ρ1[i]? with
  | some (.a (.d (.list ds))) => flatD d = true ∧ ds.all flatD = true ∧ ∃ j z, ds[j]? = some z ∧ eqV (vOf z) (vOf d) = true ∧ (∀ (m : Nat) z', m < j → ds[m]? = some z' → eqV (vOf z') (vOf d) = false) ∧ R (.d (.int (j : Nat))) ρ1
  | _ => False) Xx
def bAnd (a b : BB) : BB := fun ρ R Xx => a ρ (fun c ρ1 => if c = true then b ρ1 R Xx else R false ρ1) Xx
def bOr (a b : BB) : BB := fun ρ R Xx => a ρ (fun c ρ1 => if c = true then R true ρ1 else b ρ1 R Xx) Xx
section
variable {Γ : Gx} {X : Cx} {W : WX} {f : Fr} {F H F' H' : Hp} {σ σ' : L2.St} {ρ ρ' : List Sl} {x : A} {v : V} {d : PyData} {e e1 e2 e3 tg : Expr} {a b c : EE} {i j : Nat} {es : List Expr} {pos : Pos} {st : Stmt} {sts sts' : List Stmt} {k k' : SS} {gs : List Nat} {t : BB}
theorem dg_unl {γs : GGs} {n : Nat} (hpe : ∀ {g : TGs}, PGs X es g → PG X e (gUnl Γ.K n g)) {g : TGs} (h : DGs Γ X es g γs gs) : DG Γ X e (gUnl Γ.K n g) (gUn n γs) gs := by
  obtain ⟨p, d⟩ := h
  refine ⟨hpe p, fun f F H σ ρ v x Q R E r q o => ?_⟩
  obtain ⟨ds, rfl, q'⟩ := dL_of q
  cases r with
  | lst hs ha => exact ⟨_, _, rfl, .of (E.s1 _ _ hs), by rw [ha.len]; exact q'.1, d f F H σ ρ _ _ Q R E ha q'.2 o⟩
theorem dl_rev (hpe : ∀ {ta : TE}, PE X e1 ta → PE X e (tRevL Γ.K ta)) {ta : TE} (h1 : DE Γ X W e1 ta a) : DL Γ X W e (tRevL Γ.K ta) (lRev a) := by
  obtain ⟨p1, d1⟩ := h1
  refine ⟨hpe p1, fun f F H σ ρ Q R Xx E q o ox => ?_⟩
  refine d1 f F H σ ρ _ _ Xx E q (fun x ρ1 F1 H1 v1 q1 E1 s1 r1 => ?_) ox
  obtain ⟨us, rfl, q2⟩ := dL_of q1
  cases r1 with
  | lst hs ha => exact ⟨_, _, rfl, .of (E1.s1 _ _ hs), fun p np => o _ _ _ _ _ _ q2 (E1.raw np) s1 (own_new E1 ha.rev np)⟩
theorem downA_len {lo : Int} {n : Nat} : (downA lo n).length = n := by unfold downA; rw [List.length_map, List.length_range]
theorem downA_get {lo : Int} {n i : Nat} (h : i < n) : (downA lo n)[i]? = some (.d (.int (lo - (i : Nat)))) := by
  unfold downA
  rw [List.getElem?_map, List.getElem?_range h]
  rfl
theorem jok_dn {lo : Int} {n : Nat} : JOk Γ F (Itc lo (-1) n) (downA lo n) where
  go i H s hi := by
    rw [downA_len] at hi
    exact hi
  stop i H s hi := by
    rw [downA_len] at hi
    exact hi
  yld i H v H' s hil y := by
    obtain ⟨rfl, rfl⟩ := y
    rw [downA_len] at hil
    refine ⟨_, downA_get hil, .inl ⟨rfl, ?_⟩⟩
    show Dq Γ.K F (.int (lo + (i : Nat) * -1)) (.int (lo - (i : Nat)))
    rw [show lo + ((i : Nat) : Int) * -1 = lo - (i : Nat) by omega]
    exact .int _
theorem di_dn (hpe : ∀ {t u : TE}, PE X e1 t → PE X e2 u → PI X tg e (iRng3 (tCons t (tCons u (tCons (tC (.int (-1))) tNil))))) {t u : TE} (h : DE Γ X W e1 t a) (h' : DE Γ X W e2 u b) : DI Γ X W tg e (iRng3 (tCons t (tCons u (tCons (tC (.int (-1))) tNil)))) (iDn a b) := by
  obtain ⟨p, d⟩ := h
  obtain ⟨p', d'⟩ := h'
  refine ⟨hpe p p', fun f F H σ ρ G R Xx E q o ox => ?_⟩
  refine d f F H σ ρ _ _ Xx E q (fun x ρ1 F1 H1 v1 q1 E1 s1 r1 => ?_) ox
  refine d' f F1 H1 σ ρ1 _ _ Xx E1 q1 (fun y ρ2 F2 H2 v2 q2 E2 s2 r2 => ?_) ox
  obtain ⟨k, rfl, q3⟩ := dI_of q2
  obtain ⟨k', rfl, q4⟩ := dI_of q3
  cases r1
  cases r2
  exact ⟨_, _, _, _, rfl, RgC.neg q4.1.1 q4.1.2.1 q4.1.2.2.1 q4.1.2.2.2, o _ _ _ _ _ q4.2 E2 (s1.trans s2) jok_dn⟩
theorem de_orT (hpe : ∀ {ta tb : TE}, PE X e1 ta → PE X e2 tb → PE X e (tOrT Γ.K ta tb)) {ta : TE} (h1 : DE Γ X W e1 ta a) {tb : TE} (h2 : DE Γ X W e2 tb b) : DE Γ X W e (tOrT Γ.K ta tb) (eOrT a b) := by
  obtain ⟨p1, d1⟩ := h1
  obtain ⟨p2, d2⟩ := h2
  refine ⟨hpe p1 p2, fun f F H σ ρ Q R Xx E q o ox => ?_⟩
  refine d1 f F H σ ρ _ _ Xx E q (fun x ρ1 F1 H1 v1 q1 E1 s1 r1 => ?_) ox
  obtain ⟨k, hk, r⟩ := tru_v E1.s1 r1 (R := fun k => if k = true then R x ρ1 else b ρ1 R Xx) q1
  refine ⟨k, hk, ?_⟩
  cases k with
  | true => exact o _ _ _ _ _ r E1 s1 r1
  | false => exact d2 f F1 H1 σ ρ1 _ _ Xx E1 r (o.sub s1) ox
theorem de_notT (hpe : ∀ {ta : TE}, PE X e1 ta → PE X e (tNotT Γ.K ta)) {ta : TE} (h1 : DE Γ X W e1 ta a) : DE Γ X W e (tNotT Γ.K ta) (eNotT a) := by
  obtain ⟨p1, d1⟩ := h1
  refine ⟨hpe p1, fun f F H σ ρ Q R Xx E q o ox => ?_⟩
  refine d1 f F H σ ρ _ _ Xx E q (fun x ρ1 F1 H1 v1 q1 E1 s1 r1 => ?_) ox
  obtain ⟨k, hk, r⟩ := tru_v E1.s1 r1 (R := fun k => R (.d (.bool !k)) ρ1) q1
  exact ⟨k, hk, o _ _ _ _ _ r E1 s1 (.bl _)⟩
def rIns : V → List V → Hp → VK → Prop := fun x vs H Q => ∃ (l : Addr) (xs : List V) (i : Int) (y : V), x = .ref l ∧ vs = [.int i, y] ∧ H l = some (.lst xs) ∧ xs.length < sizeLine ∧ 0 ≤ i ∧ i < 2 ^ 63 ∧
    Q .non (upd H l (.lst (xs.take i.toNat ++ [y] ++ xs.drop i.toNat)))
theorem mt_ins : MtR X "list.insert" rIns := mt_insert
theorem ds_ins (hpe : ∀ {t u : TE}, PE X e1 t → PE X e2 u → PS X st (tDrop (tBM Γ.K "list" rIns (tVar i) (tCons t (tCons u tNil))))) {t u : TE} (h : DE Γ X W e1 t a) (h' : DE Γ X W e2 u b) : DS Γ X W st (tDrop (tBM Γ.K "list" rIns (tVar i) (tCons t (tCons u tNil)))) (sIns i a b) := by
  obtain ⟨p, d⟩ := h
  obtain ⟨p', d'⟩ := h'
  refine ⟨hpe p p', fun f F H σ ρ P D E q o => ?_⟩
  obtain ⟨⟨ds, hi⟩, q⟩ := q
  obtain ⟨p0, xs, e1, e2, e3, e4, e5⟩ := E.sl i _ hi
  refine ⟨.ref p0, e1, x_tyL (.of e2), ?_⟩
  refine d f F H σ ρ _ _ P.ex E q (fun y ρ1 F1 H1 v1 q1 E1 s1 r1 => ?_) (o.ex σ)
  refine d' f F1 H1 σ ρ1 _ _ P.ex E1 q1 (fun z ρ2 F2 H2 v2 q2 E2 s2 r2 => ?_) (o.ex σ)
  obtain ⟨n, rfl, q3⟩ := dI_of q2
  obtain ⟨u', rfl, q4⟩ := dD_of q3
  clear q2 q3
  cases r1
  split at q4
  · rename_i ds' hx'
    obtain ⟨hz, h0, h1, q5⟩ := q4
    obtain ⟨a', xs', f1, f2, f3, f4, f5⟩ := E2.sl i _ hx'
    rw [e1] at f1
    cases f1
    refine ⟨_, _, _, _, rfl, rfl, f2, by rw [f3.len]; exact hz, h0, h1, ?_⟩
    exact o.nx _ _ _ _ q5 (E2.mutO hx' e1 (((f3.take _).app (.one r2)).app (f3.drop _))) (s1.trans s2)
  · exact q4.elim
theorem de_bits (hpe : ∀ {ta : TE}, PE X e1 ta → PE X e (tBits ta)) {ta : TE} (h1 : DE Γ X W e1 ta a) : DE Γ X W e (tBits ta) (eBits a) := by
  obtain ⟨p1, d1⟩ := h1
  refine ⟨hpe p1, fun f F H σ ρ Q R Xx E q o ox => ?_⟩
  refine d1 f F H σ ρ _ _ Xx E q (fun x ρ1 F1 H1 v1 q1 E1 s1 r1 => ?_) ox
  obtain ⟨k, rfl, q2⟩ := dI_of q1
  cases r1
  exact ⟨_, rfl, o _ _ _ _ _ q2 E1 s1 (.int _)⟩
def DW (Γ : Gx) (X : Cx) (W : WX) (e : Expr) (t : TT) (ε : BB) : Prop := PW X e t ∧ DenB Γ W t ε
theorem dt_pw {tt : TT} (hpe : PW X e tt → PT X e tt) (h : DW Γ X W e tt t) : DT Γ X W e tt t := ⟨hpe h.1, h.2⟩
theorem dw_and1 {tt : TT} (hpe : PT X e1 tt → PW X e tt) (h : DT Γ X W e1 tt t) : DW Γ X W e tt t := ⟨hpe h.1, h.2⟩
theorem dw_or1 {tt : TT} (hpe : PT X e1 tt → PW X e tt) (h : DT Γ X W e1 tt t) : DW Γ X W e tt t := ⟨hpe h.1, h.2⟩
theorem dw_and {t1 t2 : TT} {b1 b2 : BB} (hpe : PT X e1 t1 → PW X e2 t2 → PW X e (tAnd t1 t2)) (h1 : DT Γ X W e1 t1 b1) (h2 : DW Γ X W e2 t2 b2) : DW Γ X W e (tAnd t1 t2) (bAnd b1 b2) := by
  obtain ⟨p1, d1⟩ := h1
  obtain ⟨p2, d2⟩ := h2
  refine ⟨hpe p1 p2, fun f F H σ ρ Q R Xx E q o ox => ?_⟩
  refine d1 f F H σ ρ _ _ Xx E q (fun c ρ1 F1 H1 q1 E1 s1 => ?_) ox
  cases c with
  | true => exact d2 f F1 H1 σ ρ1 _ _ Xx E1 q1 (o.sub s1) ox
  | false => exact o _ _ _ _ q1 E1 s1
theorem dw_or {t1 t2 : TT} {b1 b2 : BB} (hpe : PT X e1 t1 → PW X e2 t2 → PW X e (tOr t1 t2)) (h1 : DT Γ X W e1 t1 b1) (h2 : DW Γ X W e2 t2 b2) : DW Γ X W e (tOr t1 t2) (bOr b1 b2) := by
  obtain ⟨p1, d1⟩ := h1
  obtain ⟨p2, d2⟩ := h2
  refine ⟨hpe p1 p2, fun f F H σ ρ Q R Xx E q o ox => ?_⟩
  refine d1 f F H σ ρ _ _ Xx E q (fun c ρ1 F1 H1 q1 E1 s1 => ?_) ox
  cases c with
  | true => exact o _ _ _ _ q1 E1 s1
  | false => exact d2 f F1 H1 σ ρ1 _ _ Xx E1 q1 (o.sub s1) ox
theorem den_test {te : TE} (d1 : DenE Γ W te a) : DenB Γ W (tTest te) (bOf a) := fun f F H σ ρ Q R Xx E q o ox => by
  refine d1 f F H σ ρ _ _ Xx E q (fun x ρ1 F1 H1 v1 q1 E1 s1 r1 => ?_) ox
  obtain ⟨c, rfl, q2⟩ := dB_of q1
  cases r1
  exact ⟨c, rfl, o _ _ _ _ q2 E1 s1⟩
theorem dt_cmp {r : R2} {p : P2} (hp : OpD Γ r p) (hpe : ∀ {ta tb : TE}, PE X e1 ta → PE X e2 tb → PT X e (tTest (tOp r ta tb))) {ta : TE} (h1 : DE Γ X W e1 ta a) {tb : TE} (h2 : DE Γ X W e2 tb b) : DT Γ X W e (tTest (tOp r ta tb)) (bOf (eOp p a b)) :=
  ⟨hpe h1.1 h2.1, den_test (den_op hp h1.2 h2.2)⟩
theorem den_isN {ta : TE} (d1 : DenE Γ W ta a) : DenE Γ W (tOp (fun x y H Q => y = V.non ∧ Q (V.bl (decide (x = V.non))) H) ta (tC .non)) (eIsN a) := fun f F H σ ρ Q R Xx E q o ox => by
  refine d1 f F H σ ρ _ _ Xx E q (fun x ρ1 F1 H1 v1 q1 E1 s1 r1 => ?_) ox
  show V.non = V.non ∧ Q (V.bl (decide (v1 = V.non))) H1
  refine ⟨rfl, ?_⟩
  rw [isNon_v r1]
  exact o _ _ _ _ _ q1 E1 s1 (.bl _)
theorem den_notN {ta : TE} (d1 : DenE Γ W ta a) : DenE Γ W (tOp (fun x y H Q => y = V.non ∧ Q (V.bl (!decide (x = V.non))) H) ta (tC .non)) (eNotN a) := fun f F H σ ρ Q R Xx E q o ox => by
  refine d1 f F H σ ρ _ _ Xx E q (fun x ρ1 F1 H1 v1 q1 E1 s1 r1 => ?_) ox
  show V.non = V.non ∧ Q (V.bl (!decide (v1 = V.non))) H1
  refine ⟨rfl, ?_⟩
  rw [isNon_v r1]
  exact o _ _ _ _ _ q1 E1 s1 (.bl _)
theorem dt_isN {ta : TE} (hpe : PE X e1 ta → PT X e (tTest (tOp (fun x y H Q => y = V.non ∧ Q (V.bl (decide (x = V.non))) H) ta (tC .non)))) (h1 : DE Γ X W e1 ta a) : DT Γ X W e (tTest (tOp (fun x y H Q => y = V.non ∧ Q (V.bl (decide (x = V.non))) H) ta (tC .non))) (bOf (eIsN a)) := ⟨hpe h1.1, den_test (den_isN h1.2)⟩
theorem dt_notN {ta : TE} (hpe : PE X e1 ta → PT X e (tTest (tOp (fun x y H Q => y = V.non ∧ Q (V.bl (!decide (x = V.non))) H) ta (tC .non)))) (h1 : DE Γ X W e1 ta a) : DT Γ X W e (tTest (tOp (fun x y H Q => y = V.non ∧ Q (V.bl (!decide (x = V.non))) H) ta (tC .non))) (bOf (eNotN a)) := ⟨hpe h1.1, den_test (den_notN h1.2)⟩
/-- keyword arguments -/
def DK (Γ : Gx) (X : Cx) (W : WX) (ks : List Keyword) (t : TA) (ε : AA) : Prop := PK X ks t ∧ DenA Γ W t ε
theorem dk_nil (h : PK X [] tNil) : DK Γ X W [] tNil aNil := ⟨h, fun f F H σ ρ Q R Xx E q o ox => o [] ρ F H [] q E (Same.refl _) trivial⟩
theorem dk_cons {kw : Keyword} {ks : List Keyword} {as : AA} (hpe : ∀ {ta : TE} {tr : TA}, PE X e ta → PK X ks tr → PK X (kw :: ks) (tCons ta tr)) {ta : TE} (h1 : DE Γ X W e ta a) {tr : TA} (h2 : DK Γ X W ks tr as) : DK Γ X W (kw :: ks) (tCons ta tr) (aCons a as) := by
  obtain ⟨p1, d1⟩ := h1
  obtain ⟨p2, d2⟩ := h2
  refine ⟨hpe p1 p2, fun f F H σ ρ Q R Xx E q o ox => ?_⟩
  refine d1 f F H σ ρ _ _ Xx E q (fun x ρ1 F1 H1 v1 q1 E1 s1 r1 => ?_) ox
  exact d2 f F1 H1 σ ρ1 _ _ Xx E1 q1 (fun xs ρ2 F2 H2 vs q2 E2 s2 r2 => o _ _ _ _ _ q2 E2 (s1.trans s2) ⟨r1.same s2, r2⟩) ox
/-- n, m = a fresh list, a value -/
def sParO (i j : Nat) (l : LL) (a : EE) : SS := fun ρ P => l ρ (fun ds ρ1 => False) P.ex
end
/-! ### readings -/
section
variable {ρ : List Sl} {R : A → List Sl → Prop} {RL : List PyData → List Sl → Prop} {RA : List A → List Sl → Prop} {RB : Bool → List Sl → Prop} {Xx : XX} {P : EndsP} {a b c : EE} {as : AA} {t t' : BB} {k k' : SS} {g : GG} {gs : GGs} {l : LL} {i j : Nat} {d u w : PyData} {ds es : List PyData} {x : A}
theorem y_un1 {n : Nat} {Q : List Sl → Prop} : gUn n gs (.d (.list ds)) ρ Q ↔ ds.length = n ∧ gs ds ρ Q := Iff.rfl
theorem y_rev : lRev a ρ RL Xx ↔ a ρ (fun x ρ1 => dL x fun ds => RL ds.reverse ρ1) Xx := Iff.rfl
theorem y_dn : iDn a b ρ RA Xx ↔ a ρ (fun x ρ1 => b ρ1 (fun y ρ2 => dI x fun i => dI y fun j => (-(2 ^ 62) ≤ i ∧ i < 2 ^ 62 ∧ -(2 ^ 62) ≤ j ∧ j < 2 ^ 62) ∧ RA (downA i (i - j).toNat) ρ2) Xx) Xx := Iff.rfl
theorem y_orT : eOrT a b ρ R Xx ↔ a ρ (fun x ρ1 => truP x fun k => if k = true then R x ρ1 else b ρ1 R Xx) Xx := Iff.rfl
theorem y_notT : eNotT a ρ R Xx ↔ a ρ (fun x ρ1 => truP x fun k => R (.d (.bool !k)) ρ1) Xx := Iff.rfl
theorem y_ins : sIns i a b ρ P ↔ (∃ ds, ρ[i]? = some (.own ds)) ∧ a ρ (fun y ρ1 => b ρ1 (fun z ρ2 => dI y fun n => dD z fun d => match ρ2[i]? with
  | some (.own ds) => szL (ds.length + 1) ∧ 0 ≤ n ∧ n < 2 ^ 63 ∧ P.nx (ρ2.set i (.own (ds.take n.toNat ++ [d] ++ ds.drop n.toNat)))
  | _ => False) P.ex) P.ex := Iff.rfl
theorem y_bits : eBits a ρ R Xx ↔ a ρ (fun x ρ1 => dI x fun i => R (.d (.int (Builtin.Int.intBits i : Nat))) ρ1) Xx := Iff.rfl
theorem y_bAnd : bAnd t t' ρ RB Xx ↔ t ρ (fun c ρ1 => if c = true then t' ρ1 RB Xx else RB false ρ1) Xx := Iff.rfl
theorem y_bOr : bOr t t' ρ RB Xx ↔ t ρ (fun c ρ1 => if c = true then RB true ρ1 else t' ρ1 RB Xx) Xx := Iff.rfl
theorem y_rt0 {RR : A → Nat → Prop} : (ends0 false RR).rt x ρ ↔ RR x 0 := Iff.rfl
theorem y_rtR {RR : A → Nat → Prop} {n : Nat} : (ends0 true RR).rt x (.rng n :: ρ) ↔ RR x n := Iff.rfl
theorem y_nx0 {RR : A → Nat → Prop} : (ends0 false RR).nx ρ ↔ RR (.d .none) 0 := Iff.rfl
theorem y_rtX {RR : A → Nat → Prop} {XX' : Nat → PyData → Nat → Prop} : (endsX false RR XX').rt x ρ ↔ RR x 0 := Iff.rfl
theorem y_nxX {RR : A → Nat → Prop} {XX' : Nat → PyData → Nat → Prop} : (endsX false RR XX').nx ρ ↔ RR (.d .none) 0 := Iff.rfl
theorem y_exX {RR : A → Nat → Prop} {XX' : Nat → PyData → Nat → Prop} {n : Nat} : (endsX false RR XX').ex n d ρ ↔ XX' n d 0 := Iff.rfl
theorem y_repr {Q : PyData → Prop} : pRepr [.d d] Q ↔ d.showable = true ∧ d.depth ≤ 60 ∧ d.shown.length ≤ sizeLine ∧ Q (.str d.shown) := Iff.rfl
theorem y_tupleL {Q : PyData → Prop} : pTuple [.d (.list ds)] Q ↔ Q (.tuple ds) := Iff.rfl
theorem y_tupleT {Q : PyData → Prop} : pTuple [.d (.tuple ds)] Q ↔ Q (.tuple ds) := Iff.rfl
theorem y_sum {Q : PyData → Prop} : pSum [.d (.list ds)] Q ↔ ∃ ns : List Int, ds = ns.map PyData.int ∧ Q (.int ns.sum) := Iff.rfl
theorem y_all {Q : PyData → Prop} : pAll [.d (.list ds)] Q ↔ ∃ bs : List Bool, ds = bs.map PyData.bool ∧ Q (.bool (bs.all id)) := Iff.rfl
theorem y_any {Q : PyData → Prop} : pAny [.d (.list ds)] Q ↔ ∃ bs : List Bool, ds = bs.map PyData.bool ∧ Q (.bool (bs.any id)) := Iff.rfl
theorem y_eqD {Q : PyData → Prop} : pEqD d u Q ↔ SeqAt.shaped d = true ∧ SeqAt.shaped u = true ∧ Q (.bool (PyData.eqv d u)) := Iff.rfl
theorem y_neD {Q : PyData → Prop} : pNeD d u Q ↔ SeqAt.shaped d = true ∧ SeqAt.shaped u = true ∧ Q (.bool (!PyData.eqv d u)) := Iff.rfl
theorem y_ite {c : Prop} [Decidable c] {A B : Prop} : (if c then A else B) ↔ ((c → A) ∧ (¬ c → B)) := by
  by_cases h : c <;> simp [h]
theorem sz_iff {n : Nat} (h : n ≤ 1000) : szL n ↔ True := ⟨fun _ => trivial, fun _ => sz_small h⟩
theorem inV3 (w : Str) : inV (.str w) [.str "u", .str "s", .str "add"] = decide (w = "u" ∨ w = "s" ∨ w = "add") := by
  show (((("u" : Str) == w) || (("s" : Str) == w || (("add" : Str) == w || false)))) = _
  rw [Bool.or_false, Bool.eq_iff_iff]
  simp only [Bool.or_eq_true, beq_iff_eq, decide_eq_true_eq]
  exact ⟨fun h => h.elim (fun h => .inl h.symm) (fun h => .inr (h.elim (fun h => .inl h.symm) fun h => .inr h.symm)), fun h => h.elim (fun h => .inl h.symm) (fun h => .inr (h.elim (fun h => .inl h.symm) fun h => .inr h.symm))⟩
theorem y_join {c : Prop} [Decidable c] {A : Prop} {K : SS} (I : List Sl → Prop) (h0 : ¬ c → I ρ) (hk : ∀ ρ, I ρ → K ρ P) (ha : c → (∀ ρ, I ρ → K ρ P) → A) : if c then A else K ρ P := by
  by_cases h : c
  · rw [if_pos h]; exact ha h hk
  · rw [if_neg h]; exact hk ρ (h0 h)
theorem ix2_0 : ixN 2 0 = some 0 := by decide
theorem ix2_1 : ixN 2 1 = some 1 := by decide
theorem ix3_0 : ixN 3 0 = some 0 := by decide
theorem ix3_1 : ixN 3 1 = some 1 := by decide
theorem ix3_2 : ixN 3 2 = some 2 := by decide
theorem eqv_same (h : SeqAt.shaped d = true) : PyData.eqv d d = true := SeqAt.eqv_refl d (Bool.and_eq_true_iff.mp h).1
end
/-! ### loops and comprehensions over few items -/
def LcRun (g : GG) (t : BB) (e : EE) (vs : List Nat) (R : List PyData → List Sl → Prop) (ρ0 : List Sl) : List A → List PyData → List Sl → Prop
  | [], acc, ρ1 => R acc (restP ρ0 vs ρ1)
  | x :: xs, acc, ρ1 => g x ρ1 fun ρ2 => t ρ2 (fun b ρ3 => if b = true then e ρ3 (fun y ρ4 => dD y fun d => szL (acc.length + 1) ∧ LcRun g t e vs R ρ0 xs (acc ++ [d]) (wipeP ρ4 vs)) noX else LcRun g t e vs R ρ0 xs acc (wipeP ρ3 vs)) noX
theorem lc_run {xs : List A} {g : GG} {t : BB} {e : EE} {vs : List Nat} {R : List PyData → List Sl → Prop} {ρ : List Sl} (hp : ∀ v ∈ vs, plainS ρ[v]?) (h : LcRun g t e vs R ρ xs [] (wipeP ρ vs)) : LcP xs g t e vs R ρ :=
  comp hp (fun i acc ρ1 => LcRun g t e vs R ρ (xs.drop i) acc ρ1) h (fun i x acc ρ1 hx q => by
    have hi := (List.getElem?_eq_some_iff.mp hx).1
    have e1 : xs.drop i = x :: xs.drop (i + 1) := by
      rw [List.drop_eq_getElem_cons hi, (List.getElem?_eq_some_iff.mp hx).2]
    rw [e1] at q
    exact q) fun acc ρ1 q => by
    rw [List.drop_length] at q
    exact q
def LpRun (g : GG) (b : SS) (P : EndsP) : List A → List Sl → Prop
  | [], ρ => P.nx ρ
  | x :: xs, ρ => g x ρ fun ρ2 => b ρ2 { P with nx := LpRun g b P xs, ct := LpRun g b P xs, bk := P.nx }
theorem lp_run {xs : List A} {g : GG} {b : SS} {P : EndsP} {ρ : List Sl} (h : LpRun g b P xs ρ) : LoopP xs g b P ρ :=
  loop (fun i ρ1 => LpRun g b P (xs.drop i) ρ1) h (fun i x ρ1 hx q => by
    have hi := (List.getElem?_eq_some_iff.mp hx).1
    have e1 : xs.drop i = x :: xs.drop (i + 1) := by
      rw [List.drop_eq_getElem_cons hi, (List.getElem?_eq_some_iff.mp hx).2]
    rw [e1] at q
    exact q) fun ρ1 q => by
    rw [List.drop_length] at q
    exact q
/-- a comprehension whose turns tell an item or none, and change nothing -/
theorem compF {α : Type} {xs : List α} {enc : α → A} (F : α → Option PyData) {g : GG} {t : BB} {e : EE} {vs : List Nat} {R : List PyData → List Sl → Prop} {ρ : List Sl} (hp : ∀ v ∈ vs, plainS ρ[v]?) (hl : xs.length ≤ sizeLine)
    (hs : ∀ x ∈ xs, ∀ (acc : List PyData) (K : List PyData → List Sl → Prop), szL (acc.length + 1) → (match F x with | some d => K (acc ++ [d]) (wipeP ρ vs) | none => K acc (wipeP ρ vs)) →
      g (enc x) (wipeP ρ vs) fun ρ2 => t ρ2 (fun b ρ3 => if b = true then e ρ3 (fun y ρ4 => dD y fun d => szL (acc.length + 1) ∧ K (acc ++ [d]) (wipeP ρ4 vs)) noX else K acc (wipeP ρ3 vs)) noX)
    (hd : R (xs.filterMap F) (restP ρ vs (wipeP ρ vs))) : LcP (xs.map enc) g t e vs R ρ :=
  comp hp (fun i acc ρ1 => acc = (xs.take i).filterMap F ∧ ρ1 = wipeP ρ vs) ⟨rfl, rfl⟩ (fun i x acc ρ1 hx q => by
    obtain ⟨rfl, rfl⟩ := q
    rw [List.getElem?_map] at hx
    obtain ⟨a, ha, rfl⟩ := Option.map_eq_some_iff.mp hx
    have hi := (List.getElem?_eq_some_iff.mp ha).1
    have fl : ((xs.take i).filterMap F).length ≤ i := Nat.le_trans (List.length_filterMap_le _ _) (by rw [List.length_take]; omega)
    refine hs a (List.mem_of_getElem? ha) _ (fun acc ρ1 => acc = (xs.take (i + 1)).filterMap F ∧ ρ1 = wipeP ρ vs) (show _ ≤ _ by omega) ?_
    rw [List.take_add_one, ha, List.filterMap_append]
    cases h : F a with
    | none => simp [h]
    | some d => simp [h]) fun acc ρ1 q => by
    obtain ⟨rfl, rfl⟩ := q
    rw [List.length_map, List.take_length]
    exact hd
end Cc

set_option Elab.async false
set_option linter.all false
set_option maxRecDepth 100000
set_option maxHeartbeats 400000
/-! zip of a tuple and a list. -/
namespace Cc
open PySem PySem.Spec PyProof.Rows L2 RZ
/-- the tuple at a and the list at b, item by item in new pairs -/
def ItzM (K : PySem.W.Frag) (a b : Addr) (n : Nat) : It where
  go i H := i < n ∧ ∃ (us vs : List V) (x y : V), SqT K H a us ∧ SqL K H b vs ∧ us[i]? = some x ∧ vs[i]? = some y
  yld i H v H' := ∃ p x y, v = .ref p ∧ H p = none ∧ H' = upd H p (.tup [x, y]) ∧ (∀ us, SqT K H a us → us[i]? = some x) ∧ ∀ vs, SqL K H b vs → vs[i]? = some y
  stop i H := n ≤ i ∧ ∃ us vs : List V, SqT K H a us ∧ SqL K H b vs ∧ n = min us.length vs.length
def stM (N a b : Addr) (n : Nat) (i : Nat) (h : Heap) : Prop := i ≤ n ∧ IsZip h (N + 4) (N + 2) (N + 3) .none ∧ IsTupOf2 h (N + 2) (.ref N) (.ref (N + 1)) ∧ (∃ x y, IsTupOf2 h (N + 3) x y) ∧ h.IsTupleIter N a i ∧ h.IsListIter (N + 1) b i
def fpM (N : Addr) : List Addr := [N + 4, N + 2, N + 3, N, N + 1]
theorem fpM_mem {N c : Addr} (h : c ∈ fpM N) : c = N + 4 ∨ c = N + 2 ∨ c = N + 3 ∨ c = N ∨ c = N + 1 := by simpa [fpM] using h
theorem fpM_not {N c : Addr} (h : c ∉ fpM N) : c ≠ N + 4 ∧ c ≠ N + 2 ∧ c ≠ N + 3 ∧ c ≠ N ∧ c ≠ N + 1 := by simpa [fpM, not_or] using h
theorem turn_zipM {P : Program} {w : World} {K : PySem.W.Frag} {elts : List Expr} {kk : Nat} {tpos : Pos} {N a b : Addr} {n : Nat} (ha : a < N) (hb : b < N) : Turn P w K (.Tuple elts kk tpos) (ItzM K a b n) (fpM N) (N + 4) (stM N a b n) := by
  have sep : ZipSep2 (N + 4) (N + 2) (N + 3) N (N + 1) (N :: [a]) ((N + 1) :: [b]) := zip_sep2 (fun c hc => by rw [List.mem_singleton.mp hc]; exact ha) (fun c hc => by rw [List.mem_singleton.mp hc]; exact hb)
  have neA : a ≠ N := Nat.ne_of_lt ha
  have neB : b ≠ N + 1 := Nat.ne_of_lt (Nat.lt_succ_of_lt hb)
  refine ⟨by simp [fpM], fun i h st c hc => ?_, fun i h h' st k => ?_, ?_, ?_, fun A i s Q E st h => wpAny_pyIter_zip st.2.1 h⟩
  · obtain ⟨_, s1, s2, ⟨x, y, s3⟩, ⟨o1, e1, _, d1⟩, ⟨o2, e2, _, d2⟩⟩ := st
    rcases fpM_mem hc with q | q | q | q | q
    · rw [q]; exact ⟨_, s1, fun v q => nomatch q⟩
    · rw [q]; exact ⟨_, s2, fun v q => nomatch q⟩
    · rw [q]; exact ⟨_, s3, fun v q => nomatch q⟩
    · rw [q]; exact ⟨o1, e1, fun v q => by rw [d1] at q; cases q⟩
    · rw [q]; exact ⟨o2, e2, fun v q => by rw [d2] at q; cases q⟩
  · obtain ⟨s0, s1, s2, ⟨x, y, s3⟩, s4, s5⟩ := st
    exact ⟨s0, k _ (by simp [fpM]) _ s1, k _ (by simp [fpM]) _ s2, ⟨x, y, k _ (by simp [fpM]) _ s3⟩, s4.at fun o q => k N (by simp [fpM]) o q, s5.at fun o q => k (N + 1) (by simp [fpM]) o q⟩
  · intro X hP hw hK hc i pins s σ H E I hf st hg
    subst hP hw hK
    obtain ⟨s0, s1, s2, ⟨x0, y0, s3⟩, s4, s5⟩ := st
    obtain ⟨ilt, us, vs, x, y, qa, qb, hx, hy⟩ := hg
    obtain ⟨its, rv, p, _⟩ := I.tuple qa
    obtain ⟨its2, rv2, p2, _⟩ := I.list qb
    obtain ⟨u, hu, ru⟩ := rv.get hx
    obtain ⟨u2, hu2, ru2⟩ := rv2.get hy
    have lt1 : i < its.toArray.size := by rw [List.size_toArray]; exact (List.getElem?_eq_some_iff.mp hu).1
    have lt2 : i < its2.toArray.size := by rw [List.size_toArray]; exact (List.getElem?_eq_some_iff.mp hu2).1
    have D1 := Draws.tuple (prog := X.prog) (w := X.w) (A := X.A.in1) (I.ok.hd hc) N a neA its.toArray
    have D2 := Draws.list (prog := X.prog) (w := X.w) (A := X.A.in1) (I.ok.hd hc) (N + 1) b neB its2.toArray
    have zlt : N + 4 < s.heap.objs.size := Heap.lt_size s1
    refine wpAny_pyNext_zipD2_item sep D1 D2 s1 s2 s3 ⟨s4, p⟩ ⟨s5, p2.isList⟩ lt1 lt2 fun x1 x2 h' tk e1 e2 z' TO' n1 n2 hT hsz hk => ?_
    have e1 : x1 = u := by
      have := e1.symm.trans (show its.toArray[i]? = some u by simpa using hu)
      cases this
      rfl
    have e2 : x2 = u2 := by
      have := e2.symm.trans (show its2.toArray[i]? = some u2 by simpa using hu2)
      cases this
      rfl
    subst e1 e2
    refine ⟨_, rfl, wpAny_letOwnedTupleGo_zip (s := { s with heap := h', toks := tk }) z' fun g zg sb => ?_⟩
    have hT2 : g.get? s.heap.objs.size = some { cls := .type "tuple", data := .seq #[x1, x2] } := (sb.2 _ (Nat.ne_of_gt zlt)).trans hT
    have new : ObjOk X.prog X.w (upd H s.heap.objs.size (.tup [x, y])) g s.heap.objs.size (.tup [x, y]) := ⟨by show 2 ≤ sizeLine; decide, [x1, x2], .cons ru (.cons ru2 .nil), ⟨_, hT2, rfl, _, rfl⟩⟩
    have J : Inv X pins σ (upd H s.heap.objs.size (.tup [x, y])) { s with heap := g, toks := tk } := by
      refine I.turnedNew (t' := tk) (ch := fpM N) (fun c o hcn q => ?_) hf (Nat.le_refl _) new
      obtain ⟨c1, c2, c3, c4, c5⟩ := fpM_not hcn
      exact (sb.2 c c1).trans (hk c o c1 c3 c4 c5 q)
    refine ⟨.ref s.heap.objs.size, _, J, rfl, ⟨_, x, y, rfl, I.hok.fresh (Nat.le_refl _), rfl, fun l hl => by rw [I.tuple_inj hl qa]; exact hx, fun l hl => by rw [I.list_inj hl qb]; exact hy⟩, ⟨ilt, zg, ?_, ⟨x1, x2, ?_⟩, ?_, ?_⟩, fun c hcm => ?_⟩
    · exact (sb.2 _ sep.TIz).trans (hk _ _ sep.TIz sep.TITO sep.TIi1 sep.TIi2 s2)
    · exact (sb.2 _ sep.TOz).trans TO'
    · exact n1.1.at fun o q => (sb.2 _ sep.zi1.symm).trans q
    · exact n2.1.at fun o q => (sb.2 _ sep.zi2.symm).trans q
    · have bd : ∀ k : Nat, k ≤ 4 → (N + k : Nat) < s.heap.objs.size := fun k hk => Nat.lt_of_le_of_lt (Nat.add_le_add_left hk N) zlt
      have hlt : c < s.heap.objs.size := by
        rcases fpM_mem hcm with q | q | q | q | q
        · rw [q]; exact bd 4 (by decide)
        · rw [q]; exact bd 2 (by decide)
        · rw [q]; exact bd 3 (by decide)
        · rw [q]; exact bd 0 (by decide)
        · rw [q]; exact bd 1 (by decide)
      rw [upd_ne (Nat.ne_of_lt hlt)]
      exact (hf c hcm).1
  · intro X hP hw hK hc i pins s σ H E I hf st hg
    subst hP hw hK
    obtain ⟨s0, s1, s2, ⟨x0, y0, s3⟩, s4, s5⟩ := st
    obtain ⟨hn, us, vs, qa, qb, en⟩ := hg
    obtain ⟨its, rv, p, _⟩ := I.tuple qa
    obtain ⟨its2, rv2, p2, _⟩ := I.list qb
    have l1 : its.toArray.size = us.length := by rw [List.size_toArray, rv.length]
    have l2 : its2.toArray.size = vs.length := by rw [List.size_toArray, rv2.length]
    have D1 := Draws.tuple (prog := X.prog) (w := X.w) (A := X.A.in1) (I.ok.hd hc) N a neA its.toArray
    have D2 := Draws.list (prog := X.prog) (w := X.w) (A := X.A.in1) (I.ok.hd hc) (N + 1) b neB its2.toArray
    refine wpAny_pyNext_zipD2_end sep D1 D2 s1 s2 s3 ⟨s4, p⟩ ⟨s5, p2.isList⟩ (by omega) (by omega) (by omega) fun h' tk hk => ⟨rfl, I.turnedL (t' := tk) (ch := fpM N) (fun c o hcn q => ?_) hf⟩
    obtain ⟨c1, c2, c3, c4, c5⟩ := fpM_not hcn
    exact hk c o c1 c3 c4 c5 q
def iZipM (K : PySem.W.Frag) (ta : TA) : TI := fun σ H R => ta σ H fun ws H1 => ∃ a b us vs, ws = [.ref a, .ref b] ∧ SqT K H1 a us ∧ SqL K H1 b vs ∧ R (ItzM K a b (min us.length vs.length)) H1
theorem pi_zipM {X : Cx} {e e2 : Expr} {ta : TA} {p pos tpos : Pos} {elts : List Expr} {kk : Nat} (hg : Gl X "zip") (hm : X.mg "zip" = none) (ha : PA X [e, e2] ta)
    (he : starEach [e, e2] X.env = (false, eval e X.env) :: starEach [e2] X.env := by rfl) (hq : (backTo pos (starEach [e2] X.env)).any (·.1) = false := by rfl) :
    PI X (.Tuple elts kk tpos) (.Call (.Name "zip" p) [e, e2] [] pos) (iZipM X.K ta) := by
  refine ⟨fun pins s σ H R I h => Call_ (ld_blt I hg hm PyProof.Rows.boot_zip (PyProof.Rows.callWith_type1 (thn (ha.run pos pins s σ H _ I h) fun ws s1 ⟨xs, H1, I1, r1, q1⟩ => ?_) he hq))⟩
  obtain ⟨a, b, us, vs, rfl, qa, qb, q⟩ := q1
  cases r1 with | cons ra rr => ?_
  cases rr with | cons rb rr => ?_
  cases rr
  cases ra
  cases rb
  obtain ⟨its, rv, p1, _⟩ := I1.tuple qa
  obtain ⟨its2, rv2, p2, _⟩ := I1.list qb
  obtain ⟨o1, ho1, _⟩ := id p1
  have fr : ∀ c ∈ fpM s1.heap.objs.size, FpOk X pins H1 c := fun c hcm => by
    have hle : s1.heap.objs.size ≤ c := by
      rcases fpM_mem hcm with z | z | z | z | z
      · rw [z]; exact Nat.le_add_right _ 4
      · rw [z]; exact Nat.le_add_right _ 2
      · rw [z]; exact Nat.le_add_right _ 3
      · rw [z]; exact Nat.le_refl _
      · rw [z]; exact Nat.le_add_right _ 1
    exact I1.fpOk hle (I1.hok.fresh hle)
  refine zip_begins2 (begins_tuple a its.toArray) (begins_list b its2.toArray) p1 p2.isList fun g hz hTI hTO g1 g2 hsz hk => wpAny_pyIter_zip hz ?_
  have J : Inv X pins σ H1 { s1 with heap := g } := I1.kept (t' := s1.toks) hk
  have st0 : stM s1.heap.objs.size a b (min us.length vs.length) 0 g := ⟨Nat.zero_le _, hz, hTI, ⟨_, _, hTO⟩, ⟨_, g1, rfl, rfl⟩, ⟨_, g2, rfl, rfl⟩⟩
  have tz := turn_zipM (P := X.prog) (w := X.w) (K := X.K) (elts := elts) (kk := kk) (tpos := tpos) (n := min us.length vs.length) (Heap.lt_size ho1) p2.lt
  exact ⟨s1.heap.objs.size + 4, fpM s1.heap.objs.size, _, _, H1, rfl, J, tz, st0, fr, q⟩
end Cc

set_option Elab.async false
set_option linter.all false
set_option maxRecDepth 100000
set_option maxHeartbeats 4000000
/-! The pure layer: zip of a tuple and a list, slices of tuples, divmod, a def that serves two kinds of arguments. -/
namespace Cc
open PySem PySem.Spec PyProof.Rows L2
def iZpM (a b : EE) : II := fun ρ RA Xx => a ρ (fun x ρ1 => b ρ1 (fun y ρ2 => match x, y with
  | .d (.tuple ds), .d (.list es) => RA (zipA ds es) ρ2
  | _, _ => False) Xx) Xx
def dT : A → (List PyData → Prop) → Prop
  | .d (.tuple b), P => P b
  | _, _ => False
/-- all of it -/
def fullSl (n : Nat) (lo hi : Option Int) : Prop := HT.sIx n 0 lo = 0 ∧ HT.sIx n n hi = n
def eSlT (a : EE) (lo hi : Option EE) : EE := fun ρ R Xx => a ρ (fun x ρ1 => dT x fun u => dO lo ρ1 (fun l ρ2 => dO hi ρ2 (fun h ρ3 => ¬ fullSl u.length l h ∧ R (.d (.tuple (cutA u l h))) ρ3) Xx) Xx) Xx
def pDivmod : PL
  | [.d (.int i), .d (.int j)], R => CDivP i j ∧ R (.tuple [.int (i / j), .int (i % j)])
  | _, _ => False
section
variable {Γ : Gx} {X : Cx} {W : WX} {f : Fr} {F H F' H' : Hp} {σ σ' : L2.St} {ρ ρ' : List Sl} {x : A} {v : V} {d : PyData} {e e1 e2 e3 tg : Expr} {a b c : EE} {i j : Nat} {es : List Expr} {pos : Pos} {st : Stmt} {sts sts' : List Stmt} {k k' : SS} {gs : List Nat}
theorem dT_of {P : List PyData → Prop} (h : dT x P) : ∃ b, x = .d (.tuple b) ∧ P b := by
  cases x with
  | d y => cases y <;> first | exact ⟨_, rfl, h⟩ | exact h.elim
  | exc => exact h.elim
  | spr => exact h.elim
  | scr => exact h.elim
theorem jok_zpM {a b : Addr} {xs ys : List V} {ds es : List PyData} (h : SqT Γ.K F a xs) (hd : DqAll Γ.K F xs ds) (h' : F b = some (.lst ys)) (hd' : DqAll Γ.K F ys es) : JOk Γ F (ItzM Γ.K a b (min xs.length ys.length)) (zipA ds es) where
  go i H s hi := by
    rw [zipA_len, ← hd.len, ← hd'.len] at hi
    exact ⟨hi, xs, ys, xs[i], ys[i], Same.tup s h, .of (s _ _ h'), List.getElem?_eq_getElem _, List.getElem?_eq_getElem _⟩
  stop i H s hi := by
    rw [zipA_len, ← hd.len, ← hd'.len] at hi
    exact ⟨hi, xs, ys, Same.tup s h, .of (s _ _ h'), rfl⟩
  yld i H v H' s hil y := by
    obtain ⟨T, x, x', rfl, nT, rfl, y, y'⟩ := y
    obtain ⟨d, hx, hv⟩ := hd.getV (y xs (Same.tup s h))
    obtain ⟨u, hx', hv'⟩ := hd'.getV (y' ys (.of (s _ _ h')))
    refine ⟨_, zipA_get hx hx', .inr ⟨T, _, nT, rfl, trivial, fun F' sF nF => ?_⟩⟩
    exact .tup (.of upd_same) (.cons (Dq.same (sF.trans (same_updF nF)) d hv) (.cons (Dq.same (sF.trans (same_updF nF)) u hv') .nil))
theorem di_zpM (hpe : ∀ {t u : TE}, PE X e1 t → PE X e2 u → PI X tg e (iZipM Γ.K (tCons t (tCons u tNil)))) {t u : TE} (h : DE Γ X W e1 t a) (h' : DE Γ X W e2 u b) : DI Γ X W tg e (iZipM Γ.K (tCons t (tCons u tNil))) (iZpM a b) := by
  obtain ⟨p, d⟩ := h
  obtain ⟨p', d'⟩ := h'
  refine ⟨hpe p p', fun f F H σ ρ G R Xx E q o ox => ?_⟩
  refine d f F H σ ρ _ _ Xx E q (fun x ρ1 F1 H1 v1 q1 E1 s1 r1 => ?_) ox
  refine d' f F1 H1 σ ρ1 _ _ Xx E1 q1 (fun y ρ2 F2 H2 v2 q2 E2 s2 r2 => ?_) ox
  split at q2
  · cases r1 with
    | tup hs ha =>
      cases r2 with
      | lst hs' ha' => exact ⟨_, _, _, _, rfl, Same.tup (s2.trans E2.s1) hs, .of (E2.s1 _ _ hs'), o _ _ _ _ _ q2 E2 (s1.trans s2) (jok_zpM (Same.tup s2 hs) (DqAll.same s2 _ ha) hs' ha')⟩
  · exact q2.elim
theorem slTK {K : PySem.W.Frag} (h : X.K = K) : L2.SlR X (rSlT K) := h ▸ sl_tup
theorem de_slT {l h : Option Expr} {lo hi : Option EE} (hpe : ∀ {ta : TE} {tl th : TO}, PE X e1 ta → PO X l tl → PO X h th → PE X e (tSl (rSlT Γ.K) ta tl th)) {ta : TE} (h1 : DE Γ X W e1 ta a) {tl : TO} (h2 : DO Γ X W l tl lo) {th : TO} (h3 : DO Γ X W h th hi) : DE Γ X W e (tSl (rSlT Γ.K) ta tl th) (eSlT a lo hi) := by
  obtain ⟨p1, d1⟩ := h1
  obtain ⟨p2, d2⟩ := h2
  obtain ⟨p3, d3⟩ := h3
  refine ⟨hpe p1 p2 p3, fun f F H σ ρ Q R Xx E q o ox => ?_⟩
  refine d1 f F H σ ρ _ _ Xx E q (fun x ρ1 F1 H1 v1 q1 E1 s1 r1 => ?_) ox
  obtain ⟨us, rfl, q1'⟩ := dT_of q1
  refine d2 f F1 H1 σ ρ1 _ _ Xx E1 q1' (fun lo' ρ2 F2 H2 q2 E2 s2 => ?_) ox
  refine d3 f F2 H2 σ ρ2 _ _ Xx E2 q2 (fun hi' ρ3 F3 H3 q3 E3 s3 => ?_) ox
  cases r1 with
  | tup hs ha =>
    have s23 := s2.trans s3
    have ln := ha.len
    refine ⟨_, _, rfl, Same.tup (s23.trans E3.s1) hs, by rw [ln]; exact q3.1, fun p np => ?_⟩
    have nF := E3.fnone np
    exact o _ _ _ _ _ q3.2 (E3.alloc np) ((s1.trans s23).trans (same_updF nF)) (.tup (.of upd_same) (DqAll.same (same_updF nF) _ ((DqAll.same s23 us ha).cut _ _)))
theorem cd_divmod : CallD Γ (fun xs H Q => ∃ i j, xs = [V.int i, .int j] ∧ CDivP i j ∧ ∀ p, H p = none → Q (.ref p) (upd H p (.tup [.int (i / j), .int (i % j)]))) pDivmod := fun f F H σ ρ vs xs Q R E r p o => by
  unfold pDivmod at p
  split at p
  · obtain ⟨u, w, rfl, r1, r2⟩ := rp2 r
    cases r1; cases r2
    refine ⟨_, _, rfl, p.1, fun l nl => ?_⟩
    have nF := E.fnone nl
    exact o _ _ _ _ p.2 (E.alloc nl) (same_updF nF) (.tup (.of upd_same) (.cons (.int _) (.cons (.int _) .nil)))
  · exact p.elim
theorem y_iZpM {RA : List A → List Sl → Prop} {Xx : XX} : iZpM a b ρ RA Xx ↔ a ρ (fun x ρ1 => b ρ1 (fun y ρ2 => match x, y with
  | .d (.tuple ds), .d (.list es) => RA (zipA ds es) ρ2
  | _, _ => False) Xx) Xx := Iff.rfl
theorem y_dT {ds : List PyData} {Q : List PyData → Prop} : dT (.d (.tuple ds)) Q ↔ Q ds := Iff.rfl
theorem y_slT {lo hi : Option EE} {R : A → List Sl → Prop} {Xx : XX} : eSlT a lo hi ρ R Xx ↔ a ρ (fun x ρ1 => dT x fun u => dO lo ρ1 (fun l ρ2 => dO hi ρ2 (fun h ρ3 => ¬ fullSl u.length l h ∧ R (.d (.tuple (cutA u l h))) ρ3) Xx) Xx) Xx := Iff.rfl
theorem y_divmod {i j : Int} {Q : PyData → Prop} : pDivmod [.d (.int i), .d (.int j)] Q ↔ CDivP i j ∧ Q (.tuple [.int (i / j), .int (i % j)]) := Iff.rfl
end
/-! a def that raises nothing, for two kinds of arguments -/
section
variable {Γ : Gx} {P : Program} {w : World} {mg : Str → Option Value} {base : Heap} {k : Nat} {x : Str} {st : Stmt} {N ps : List Str} {φ ψ : Phi} {rg : Bool}
theorem sp_or {vs : List V} {H : Hp} {Q : VK} {E : XK} (h : spP Γ rg (fun n xs R Xx => φ n xs R Xx ∨ ψ n xs R Xx) vs H Q E) : spP Γ rg φ vs H Q E ∨ spP Γ rg ψ vs H Q E := by
  obtain ⟨R, r, F, n, xs, us, RR, Xx, e, hr, s, hR, hcl, hat, hno, q, o, ox⟩ := h
  rcases q with q | q
  · exact .inl ⟨R, r, F, n, xs, us, RR, Xx, e, hr, s, hR, hcl, hat, hno, q, o, ox⟩
  · exact .inr ⟨R, r, F, n, xs, us, RR, Xx, e, hr, s, hR, hcl, hat, hno, q, o, ox⟩
theorem mkPP2 (T : Tx Γ.K mg x st) (S : FnScope N ps (defScope st))
    (bi : ∀ (kV doc pm : Value) (an : Option Addr) (cdv ct : Value) (us : List Value), us.length = ps.length → bindArgs (PySem.W.fnOf x x (defArgs st) (defBody st) (defScope st) .none kV doc pm an cdv ct) ⟨us, []⟩ = pure (ps.zip us))
    (len : ∀ n xs R Xx, φ n xs R Xx ∨ ψ n xs R Xx → (if rg = true then 1 else 0) + xs.length = ps.length) (hX : ∀ n xs R Xx, φ n xs R Xx → φ n xs R fun _ _ _ => False) (hX2 : ∀ n xs R Xx, ψ n xs R Xx → ψ n xs R fun _ _ _ => False)
    (hb : ∀ (f : Addr) (cdv : Value) (A : Around) (outer : List Env) (s : Shared) (H : Hp) (E : XK), A.guards = some [] → Room k (A.deeper (envOfC x (defScope st) s.heap.objs.size f cdv)) →
      ∃ t κ, DSs Γ (cxOf CX0 P w Γ.K mg base N x (defScope st) f cdv A outer s H E).nox (fun _ _ _ _ => False) (defBody st) t κ ∧ ∀ n xs R, φ n xs R (fun _ _ _ => False) → κ (initS rg n N xs) (ends0 rg R))
    (hb2 : ∀ (f : Addr) (cdv : Value) (A : Around) (outer : List Env) (s : Shared) (H : Hp) (E : XK), A.guards = some [] → Room k (A.deeper (envOfC x (defScope st) s.heap.objs.size f cdv)) →
      ∃ t κ, DSs Γ (cxOf CX0 P w Γ.K mg base N x (defScope st) f cdv A outer s H E).nox (fun _ _ _ _ => False) (defBody st) t κ ∧ ∀ n xs R, ψ n xs R (fun _ _ _ => False) → κ (initS rg n N xs) (ends0 rg R)) :
    Pr P w Γ.K mg base CX0 (k + 1) x ps (spP Γ rg fun n xs R Xx => φ n xs R Xx ∨ ψ n xs R Xx) :=
  mkP T S bi (sp_len len) fun f cdv A outer s H vs Q E hG hr h => by
    rcases sp_or h with h | h
    · obtain ⟨t, κ, d, q⟩ := hb f cdv A outer s H E hG hr
      exact ⟨t, d.1, body0 (X := cxOf CX0 P w Γ.K mg base N x (defScope st) f cdv A outer s H E) h d.2 q hX⟩
    · obtain ⟨t, κ, d, q⟩ := hb2 f cdv A outer s H E hG hr
      exact ⟨t, d.1, body0 (X := cxOf CX0 P w Γ.K mg base N x (defScope st) f cdv A outer s H E) h d.2 q hX2⟩
/-- the same of a def that may raise -/
theorem mkPPX2 (T : Tx Γ.K mg x st) (S : FnScope N ps (defScope st))
    (bi : ∀ (kV doc pm : Value) (an : Option Addr) (cdv ct : Value) (us : List Value), us.length = ps.length → bindArgs (PySem.W.fnOf x x (defArgs st) (defBody st) (defScope st) .none kV doc pm an cdv ct) ⟨us, []⟩ = pure (ps.zip us))
    (len : ∀ n xs R Xx, φ n xs R Xx ∨ ψ n xs R Xx → (if rg = true then 1 else 0) + xs.length = ps.length)
    (hb : ∀ (f : Addr) (cdv : Value) (A : Around) (outer : List Env) (s : Shared) (H : Hp) (E : XK), A.guards = some [] → Room k (A.deeper (envOfC x (defScope st) s.heap.objs.size f cdv)) →
      ∃ t κ, DSs Γ (cxOf (L2.CX P w) P w Γ.K mg base N x (defScope st) f cdv A outer s H E) (fun cls dx _ H => E cls dx H) (defBody st) t κ ∧ ∀ n xs R Xx, φ n xs R Xx → κ (initS rg n N xs) (endsX rg R Xx))
    (hb2 : ∀ (f : Addr) (cdv : Value) (A : Around) (outer : List Env) (s : Shared) (H : Hp) (E : XK), A.guards = some [] → Room k (A.deeper (envOfC x (defScope st) s.heap.objs.size f cdv)) →
      ∃ t κ, DSs Γ (cxOf (L2.CX P w) P w Γ.K mg base N x (defScope st) f cdv A outer s H E) (fun cls dx _ H => E cls dx H) (defBody st) t κ ∧ ∀ n xs R Xx, ψ n xs R Xx → κ (initS rg n N xs) (endsX rg R Xx)) :
    Pr P w Γ.K mg base (L2.CX P w) (k + 1) x ps (spP Γ rg fun n xs R Xx => φ n xs R Xx ∨ ψ n xs R Xx) :=
  mkPX T S bi (sp_len len) fun f cdv A outer s H vs Q E hG hr h => by
    rcases sp_or h with h | h
    · obtain ⟨t, κ, d, q⟩ := hb f cdv A outer s H E hG hr
      exact ⟨t, d.1, bodyX h d.2 q⟩
    · obtain ⟨t, κ, d, q⟩ := hb2 f cdv A outer s H E hG hr
      exact ⟨t, d.1, bodyX h d.2 q⟩
end
/-! try, its parts read together -/
section
variable {Γ : Gx} {X : Cx} {W : WX} {st : Stmt} {body suite : List Stmt} {k k' : SS} {i : Nat}
/-- some end of exceptions takes all -/
def TryX (X : Cx) : Prop := ∃ pn xe, (∀ W', Takes (X.tr pn xe) W') ∧ PassesOwn (model X.prog X.w) X.A X.env xe
theorem tryX {P : Program} {w : World} {K : PySem.W.Frag} {mg : Str → Option Value} {base : Heap} {N : List Str} {qual : Str} {scope : Scope} {f : Addr} {cd : Value} {A : Around} {outer : List Env} {s : Shared} {H : Hp} {E : XK} :
    TryX (cxOf CX0 P w K mg base N qual scope f cd A outer s H E).nox :=
  ⟨[], (cxOf (L2.CX P w) P w K mg base N qual scope f cd A outer s H fun _ _ _ => True).xe, fun W' =>
    (show Takes (cxOf (L2.CX P w) P w K mg base N qual scope f cd A outer s H fun _ _ _ => True) (fun cls dx _ H => (fun _ _ _ => True : XK) cls dx H) from takes_of rfl rfl rfl rfl).imp fun _ _ _ _ _ => trivial,
    passes_of (X := cxOf (L2.CX P w) P w K mg base N qual scope f cd A outer s H fun _ _ _ => True) rfl⟩
theorem ds_tryT {yes : Nat → Bool} {cl : Value} {tb : WX → TS} {ts : TS} (hy : ∀ c, PySem.W.exmOne Γ.K (.ref (Γ.C c)) cl = some (yes c)) (hT : TryX X)
    (hpe : (∀ (W : WX) (pn : List (Addr × Obj)) (xe : Value → Shared → Prop), Takes (X.tr pn xe) W → PassesOwn (model X.prog X.w) X.A X.env xe → PSs (X.tr pn xe) body (tb W)) → (∀ (a : Addr) (pn : List (Addr × Obj)), PSs (X.suite a pn) suite ts) →
      PS X st (fun D σ H => tb (wTrk Γ.K cl i ts W D) D σ H))
    (hb : ∀ (W : WX) (pn : List (Addr × Obj)) (xe : Value → Shared → Prop), Takes (X.tr pn xe) W → PassesOwn (model X.prog X.w) X.A X.env xe → DSs Γ (X.tr pn xe) W body (tb W) k) (hs : ∀ (a : Addr) (pn : List (Addr × Obj)), DSs Γ (X.suite a pn) (fun _ _ _ _ => False) suite ts k') :
    DS Γ X W st (fun D σ H => tb (wTrk Γ.K cl i ts W D) D σ H) (sTry yes i k k') := by
  obtain ⟨pn, xe, h1, h2⟩ := hT
  exact ds_try hy (hpe (fun W pn xe tk po => (hb W pn xe tk po).1) fun a pn => (hs a pn).1) (fun W' => (hb W' pn xe (h1 W') h2).2) (hs 0 []).2
theorem y_try {yes : Nat → Bool} {ρ : List Sl} {P : EndsP} : sTry yes i k k' ρ P ↔ k ρ { P with ex := fun c d ρ1 => if yes c = true then k' (ρ1.set i (.a (.exc c d))) { P with nx := fun ρ2 => P.nx (ρ2.set i .un), bk := fun ρ2 => P.bk (ρ2.set i .un), ct := fun ρ2 => P.ct (ρ2.set i .un), ex := fun _ _ _ => False } else P.ex c d ρ1 } := Iff.rfl
theorem y_val {R : A → List Sl → Prop} {Xx : XX} {ρ : List Sl} : eVal i ρ R Xx ↔ match ρ[i]? with
  | some (.a (.exc _ d)) => R (.d d) ρ
  | _ => False := Iff.rfl
end
/-! two names at once, one of them an own list -/
section
variable {Γ : Gx} {X : Cx} {W : WX} {st : Stmt} {e1 e2 : Expr} {a : EE} {l : LL} {i j : Nat} {v : V} {d : PyData}
def sParO10 (i j : Nat) (l : LL) (d : PyData) : SS := fun ρ P => l ρ (fun ds ρ1 => P.nx ((ρ1.set i (.own ds)).set j (.a (.d d)))) P.ex
def sParO01 (i j : Nat) (a : EE) (l : LL) : SS := fun ρ P => a ρ (fun x ρ1 => l ρ1 (fun ds ρ2 => P.nx ((ρ2.set i (.a x)).set j (.own ds))) P.ex) P.ex
theorem ds_parO10 (hv : ∀ F, Dq Γ.K F v d) (hpe : ∀ {t : TE}, PE X e1 t → PS X st (tPar i j (tCons t (tCons (tC v) tNil)))) {t : TE} (h : DL Γ X W e1 t l) : DS Γ X W st (tPar i j (tCons t (tCons (tC v) tNil))) (sParO10 i j l d) := by
  obtain ⟨p, dn⟩ := h
  refine ⟨hpe p, fun f F H σ ρ P D E q o => ?_⟩
  refine dn f F H σ ρ _ _ P.ex E q (fun ds ρ1 F1 H1 b xs q1 E1 s1 w => ?_) (o.ex σ)
  exact ⟨_, _, rfl, o.nx _ _ _ _ q1 ((E1.setO w.hH w.hD w.hF (.inl w.h0) w.hO w.hR).setA (hv F1)) s1⟩
theorem ds_parO01 (hij : i ≠ j) (hpe : ∀ {t u : TE}, PE X e1 t → PE X e2 u → PS X st (tPar i j (tCons t (tCons u tNil)))) {t : TE} (h : DE Γ X W e1 t a) {u : TE} (h' : DL Γ X W e2 u l) : DS Γ X W st (tPar i j (tCons t (tCons u tNil))) (sParO01 i j a l) := by
  obtain ⟨p, dn⟩ := h
  obtain ⟨p', dn'⟩ := h'
  refine ⟨hpe p p', fun f F H σ ρ P D E q o => ?_⟩
  refine dn f F H σ ρ _ _ P.ex E q (fun x ρ1 F1 H1 v1 q1 E1 s1 r1 => ?_) (o.ex σ)
  refine dn' f F1 H1 σ ρ1 _ _ P.ex E1 q1 (fun ds ρ2 F2 H2 b xs q2 E2 s2 w => ?_) (o.ex σ)
  have E3 := E2.setO (i := j) w.hH w.hD w.hF (.inl w.h0) w.hO w.hR
  have E4 := E3.setA (i := i) (r1.same s2)
  refine ⟨_, _, rfl, ?_⟩
  rw [List.set_comm _ _ hij]
  rw [List.set_comm _ _ hij] at q2
  exact o.nx _ _ _ _ q2 E4 (s1.trans s2)
theorem y_par10 {ρ : List Sl} {P : EndsP} : sParO10 i j l d ρ P ↔ l ρ (fun ds ρ1 => P.nx ((ρ1.set i (.own ds)).set j (.a (.d d)))) P.ex := Iff.rfl
theorem y_par01 {ρ : List Sl} {P : EndsP} : sParO01 i j a l ρ P ↔ a ρ (fun x ρ1 => l ρ1 (fun ds ρ2 => P.nx ((ρ2.set i (.a x)).set j (.own ds))) P.ex) P.ex := Iff.rfl
end
/-! an own list compared with data, and still one's own -/
section
variable {Γ : Gx} {X : Cx} {W : WX} {e e1 e2 : Expr} {b : EE} {i : Nat}
def cmpO (p : P2) (i : Nat) (b : EE) : EE := fun ρ R Xx => (∃ ds, ρ[i]? = some (.own ds)) ∧ b ρ (fun y ρ1 => dD y fun u => match ρ1[i]? with
  | some (.own ds) => p (.list ds) u fun d => R (.d d) ρ1
  | _ => False) Xx
theorem own_dp {f : Fr} {F H : Hp} {σ : L2.St} {ρ : List Sl} {ds : List PyData} {a : Addr} (E : Ent Γ f F H σ ρ) (h : ρ[i]? = some (.own ds)) (hv : σ[i]? = some (some (.ref a))) : Dp Γ.K H (.ref a) (.list ds) := by
  obtain ⟨a', xs, hv', hH, hD, _, _⟩ := E.sl i _ h
  rw [hv] at hv'
  cases hv'
  exact .lst (SqL.of hH) (DqAll.dp ds (DqAll.same E.s1 ds hD))
theorem den_eqO {tb : TE} (d : DenE Γ W tb b) : DenE Γ W (tOp (rEqD Γ.K) (tVar i) tb) (cmpO pEqD i b) := fun f F H σ ρ Q R Xx E q o ox => by
  obtain ⟨⟨ds, hi⟩, q⟩ := q
  obtain ⟨a, xs, hv, _⟩ := E.sl i _ hi
  refine ⟨_, hv, ?_⟩
  refine d f F H σ ρ _ _ Xx E q (fun y ρ1 F1 H1 v1 q1 E1 s1 r1 => ?_) ox
  obtain ⟨u, rfl, q2⟩ := dD_of q1
  split at q2
  · rename_i ds' h'
    exact ⟨_, u, own_dp E1 h' hv, Dp.same E1.s1 u (Dq.dp u r1), q2.1, q2.2.1, o _ _ _ _ _ q2.2.2 E1 s1 (.bl _)⟩
  · exact q2.elim
theorem den_neO {tb : TE} (d : DenE Γ W tb b) : DenE Γ W (tOp (rNeD Γ.K) (tVar i) tb) (cmpO pNeD i b) := fun f F H σ ρ Q R Xx E q o ox => by
  obtain ⟨⟨ds, hi⟩, q⟩ := q
  obtain ⟨a, xs, hv, _⟩ := E.sl i _ hi
  refine ⟨_, hv, ?_⟩
  refine d f F H σ ρ _ _ Xx E q (fun y ρ1 F1 H1 v1 q1 E1 s1 r1 => ?_) ox
  obtain ⟨u, rfl, q2⟩ := dD_of q1
  split at q2
  · rename_i ds' h'
    exact ⟨_, u, own_dp E1 h' hv, Dp.same E1.s1 u (Dq.dp u r1), q2.1, q2.2.1, o _ _ _ _ _ q2.2.2 E1 s1 (.bl _)⟩
  · exact q2.elim
theorem dt_eqO (hpe : ∀ {tb : TE}, PE X e2 tb → PT X e (tTest (tOp (rEqD Γ.K) (tVar i) tb))) {tb : TE} (h : DE Γ X W e2 tb b) : DT Γ X W e (tTest (tOp (rEqD Γ.K) (tVar i) tb)) (bOf (cmpO pEqD i b)) := ⟨hpe h.1, den_test (den_eqO h.2)⟩
theorem dt_neO (hpe : ∀ {tb : TE}, PE X e2 tb → PT X e (tTest (tOp (rNeD Γ.K) (tVar i) tb))) {tb : TE} (h : DE Γ X W e2 tb b) : DT Γ X W e (tTest (tOp (rNeD Γ.K) (tVar i) tb)) (bOf (cmpO pNeD i b)) := ⟨hpe h.1, den_test (den_neO h.2)⟩
theorem de_eqO (hpe : ∀ {tb : TE}, PE X e2 tb → PE X e (tOp (rEqD Γ.K) (tVar i) tb)) {tb : TE} (h : DE Γ X W e2 tb b) : DE Γ X W e (tOp (rEqD Γ.K) (tVar i) tb) (cmpO pEqD i b) := ⟨hpe h.1, den_eqO h.2⟩
theorem de_neO (hpe : ∀ {tb : TE}, PE X e2 tb → PE X e (tOp (rNeD Γ.K) (tVar i) tb)) {tb : TE} (h : DE Γ X W e2 tb b) : DE Γ X W e (tOp (rNeD Γ.K) (tVar i) tb) (cmpO pNeD i b) := ⟨hpe h.1, den_neO h.2⟩
theorem y_cmpO {p : P2} {ρ : List Sl} {R : A → List Sl → Prop} {Xx : XX} : cmpO p i b ρ R Xx ↔ (∃ ds, ρ[i]? = some (.own ds)) ∧ b ρ (fun y ρ1 => dD y fun u => match ρ1[i]? with
  | some (.own ds) => p (.list ds) u fun d => R (.d d) ρ1
  | _ => False) Xx := Iff.rfl
end
section
variable {Γ : Gx} {X : Cx} {W : WX} {e e1 e2 e3 : Expr} {a b c : EE}
/-- a chained comparison as a test -/
theorem dt_chain {r r' : R2} {p p' : P2} (hp : OpD Γ r p) (hp' : OpD Γ r' p') (hpt : ∀ {ta tb tc : TE}, PE X e1 ta → PE X e2 tb → PE X e3 tc → PT X e (tTest (tChain r r' ta tb tc))) (hpe : ∀ {ta tb tc : TE}, PE X e1 ta → PE X e2 tb → PE X e3 tc → PE X e (tChain r r' ta tb tc))
    {ta : TE} (h1 : DE Γ X W e1 ta a) {tb : TE} (h2 : DE Γ X W e2 tb b) {tc : TE} (h3 : DE Γ X W e3 tc c) : DT Γ X W e (tTest (tChain r r' ta tb tc)) (bOf (eChain p p' a b c)) := ⟨hpt h1.1 h2.1 h3.1, den_test (de_chain hp hp' hpe h1 h2 h3).2⟩
end
/-! helps -/
section
theorem y_cut {k k' : SS} {ρ : List Sl} {P : EndsP} (h : ∀ NX : List Sl → Prop, (∀ ρ', k' ρ' P → NX ρ') → k ρ ⟨NX, P.rt, P.bk, P.ct, P.ex⟩) : sSeq k k' ρ P := y_seq.mpr (h (fun ρ' => k' ρ' P) fun _ h => h)
theorem loopQ {lo : Int} {n : Nat} {g : GG} {b : SS} {P : EndsP} {ρ : List Sl} (Inv : Nat → List Sl → Prop) (h0 : Inv 0 ρ) (hs : ∀ BK (i : Nat) ρ1, i < n → Inv i ρ1 → g (.d (.int (lo + i))) ρ1 fun ρ2 => b ρ2 ⟨Inv (i + 1), P.rt, BK, Inv (i + 1), P.ex⟩) (hd : ∀ ρ1, Inv n ρ1 → P.nx ρ1) : LoopP (rngA lo n) g b P ρ :=
  loopR Inv h0 (fun i ρ1 hi h => hs P.nx i ρ1 hi h) hd
theorem fm_some {α β : Type} (f : α → β) : ∀ r : List α, (r.filterMap fun p => some (f p)) = r.map f
  | [] => rfl
  | p :: r => by rw [List.filterMap_cons, List.map_cons, fm_some f r]
theorem fm_if {α β : Type} (t : α → Bool) (f : α → β) : ∀ r : List α, (r.filterMap fun p => if t p = true then some (f p) else none) = (r.filter t).map f
  | [] => rfl
  | p :: r => by
    rw [List.filterMap_cons, List.filter_cons]
    cases h : t p
    · rw [if_neg (by decide), if_neg (by decide)]
      exact fm_if t f r
    · rw [if_pos rfl, if_pos rfl, List.map_cons, fm_if t f r]
theorem two_mono' {a b : Nat} (h : a ≤ b) : (2 : Int) ^ a ≤ 2 ^ b := by
  have : (2 : Nat) ^ a ≤ 2 ^ b := Nat.pow_le_pow_right (by decide) h
  exact_mod_cast this
theorem ixN_here {n j : Nat} (h : j < n) : ixN n (0 + (j : Nat)) = some j := by
  rw [Int.zero_add]
  unfold ixN
  simp [h]
theorem atI_any {α : Type} {xs : List α} {i : Int} (h0 : -(xs.length : Int) ≤ i) (h1 : i < xs.length) : ∃ x, x ∈ xs ∧ atI xs i = some x := by
  unfold atI ixN
  by_cases h : 0 ≤ i
  · have hi : i.toNat < xs.length := by omega
    refine ⟨xs[i.toNat], List.getElem_mem hi, ?_⟩
    simp [h, hi, h1]
  · have hi : (i + xs.length).toNat < xs.length := by omega
    refine ⟨xs[(i + xs.length).toNat], List.getElem_mem hi, ?_⟩
    simp [h, hi, h0]
theorem atI_map {α β : Type} {f : α → β} {xs : List α} {i : Int} {x : α} (h : atI xs i = some x) : atI (xs.map f) i = some (f x) := by
  unfold atI at h ⊢
  rw [List.length_map]
  cases e : ixN xs.length i with
  | none => rw [e] at h; cases h
  | some j =>
    rw [e] at h
    show (xs.map f)[j]? = _
    rw [List.getElem?_map, show xs[j]? = some x from h]
    rfl
theorem at4 {α : Type} {a b c d e : α} {l : List α} : atI (a :: b :: c :: d :: e :: l) 4 = some e := atI_nat (j := 4) rfl
theorem cut_1 {xs : List PyData} : cutA xs (some 1) none = xs.drop 1 := by
  cases xs with
  | nil => rfl
  | cons x xs =>
    unfold cutA
    simp [HT.sIx]
theorem szS {n m : Nat} (h : n ≤ m) (hm : m ≤ 100000) : szL n := by
  unfold szL
  rw [sizeLine_eq]
  omega
theorem ints_lay0 : ∀ fs : List Int, PyData.canLayAll0 (fs.map PyData.int) = true
  | [] => rfl
  | _ :: fs => by
    show (true && PyData.canLayAll0 (fs.map PyData.int)) = true
    rw [ints_lay0 fs]
    rfl
theorem ints_deep0 : ∀ fs : List Int, PyData.depthAll (fs.map PyData.int) = 0
  | [] => rfl
  | _ :: fs => by
    show max 0 (PyData.depthAll (fs.map PyData.int)) = 0
    rw [ints_deep0 fs]
    rfl
theorem shT0 (fs : List Int) : SeqAt.shaped (.tuple (fs.map PyData.int)) = true := by
  unfold SeqAt.shaped
  simp only [PyData.canLay0, PyData.depth, ints_lay0, ints_deep0]
  simp
theorem shL0 (fs : List Int) : SeqAt.shaped (.list (fs.map PyData.int)) = true := by
  unfold SeqAt.shaped
  simp only [PyData.canLay0, PyData.depth, ints_lay0, ints_deep0]
  simp
theorem eqvT0 (fs : List Int) : PyData.eqv (.tuple (fs.map PyData.int)) (.tuple []) = fs.isEmpty := by cases fs <;> rfl
theorem eqvL0 (fs : List Int) : PyData.eqv (.list (fs.map PyData.int)) (.list []) = fs.isEmpty := by cases fs <;> rfl
theorem shE : SeqAt.shaped (.list []) = true := by decide +kernel
theorem shE' : SeqAt.shaped (.tuple []) = true := by decide +kernel
end
end Cc

set_option Elab.async false
set_option linter.all false
set_option maxRecDepth 100000
set_option maxHeartbeats 4000000
/-! The pure layer: texts. -/
namespace Cc
open PySem PySem.Spec PyProof.Rows L2
abbrev PM := A → List A → (PyData → Prop) → Prop
def rAddS : R2 := fun x y H Q => ∃ i j, x = .str i ∧ y = .str j ∧ i.length + j.length ≤ sizeLine ∧ Q (.str (i ++ j)) H
def pAddS : P2
  | .str a, .str b, R => a.length + b.length ≤ sizeLine ∧ R (.str (a ++ b))
  | _, _, _ => False
def strI (i : Int) : Str := toString i
def pStr : PL
  | [.d (.int i)], R => i.natAbs.log2 < 1920 ∧ R (.str (strI i))
  | _, _ => False
def pIntB : PL
  | [.d (.int i)], R => R (.int i)
  | [.d (.bool k)], R => R (.int (if k then 1 else 0))
  | _, _ => False
def pIntS : PL
  | [.d (.str z)], R => ∃ n, PySem.intText? z = some n ∧ z.length ≤ 640 ∧ R (.int n)
  | _, _ => False
def pMinL : PL
  | [.d (.list ds)], R => ∃ ns : List Int, ds = ns.map PyData.int ∧ 0 < ns.length ∧ ∀ m, m ∈ ns → (∀ y, y ∈ ns → m ≤ y) → R (.int m)
  | _, _ => False
def pLenS : PL
  | [.d (.str z)], R => z.length ≤ sizeLine ∧ R (.int z.length)
  | _, _ => False
def pM0 (C : Str → Prop) (g : Str → PyData) : PM
  | .d (.str z), [], R => C z ∧ R (g z)
  | _, _, _ => False
def pM1 (g : Str → Str → PyData) : PM
  | .d (.str z), [.d (.str y)], R => R (g z y)
  | _, _, _ => False
def pMI (C : Str → Int → Prop) (g : Str → Int → PyData) : PM
  | .d (.str z), [.d (.int i)], R => C z i ∧ R (g z i)
  | _, _, _ => False
def pJoin : PM
  | .d (.str a), [.d (.list ds)], R => ∃ ys : List Str, ds = ys.map PyData.str ∧ (ys.map (·.length)).sum + ys.length * a.length ≤ 16777216 ∧ R (.str (Txt.join a ys))
  | _, _, _ => False
def isS : A → Prop
  | .d (.str _) => True
  | _ => False
def eM (p : PM) (a : EE) (as : AA) : EE := fun ρ R Xx => a ρ (fun x ρ1 => isS x ∧ as ρ1 (fun xs ρ2 => p x xs fun d => R (.d d) ρ2) Xx) Xx
def eM0 (p : PM) (a : EE) : EE := fun ρ R Xx => a ρ (fun x ρ1 => isS x ∧ p x [] fun d => R (.d d) ρ1) Xx
def dZ : A → (Str → Prop) → Prop
  | .d (.str b), P => P b
  | _, _ => False
def lSplit (a b : EE) : LL := fun ρ R Xx => a ρ (fun x ρ1 => isS x ∧ b ρ1 (fun y ρ2 => dZ x fun u => dZ y fun w => (w.length == 0) = false ∧ u.length + 2 ≤ sizeLine ∧ R ((Txt.split u w).map PyData.str) ρ2) Xx) Xx
def eSlS (a : EE) (lo hi : Option EE) : EE := fun ρ R Xx => a ρ (fun x ρ1 => dZ x fun u => dO lo ρ1 (fun l ρ2 => dO hi ρ2 (fun h ρ3 => u.length ≤ sizeLine ∧ R (.d (.str (cutS u l h))) ρ3) Xx) Xx) Xx
def pInD : P2 := fun d e R => match e with
  | .list ds => SeqAt.shaped d = true ∧ SeqAt.shaped (.list ds) = true ∧ R (.bool (ds.any fun z => PyData.eqv z d))
  | _ => False
section
variable {Γ : Gx} {X : Cx} {W : WX} {f : Fr} {F H F' H' : Hp} {σ σ' : L2.St} {ρ ρ' : List Sl} {x : A} {v : V} {d : PyData} {e e1 e2 e3 tg : Expr} {a b c : EE} {i j : Nat} {es : List Expr} {pos : Pos} {st : Stmt} {sts sts' : List Stmt} {k k' : SS} {gs : List Nat}
theorem dZ_of {P : Str → Prop} (h : dZ x P) : ∃ b, x = .d (.str b) ∧ P b := by
  cases x with
  | d y => cases y <;> first | exact ⟨_, rfl, h⟩ | exact h.elim
  | exc => exact h.elim
  | spr => exact h.elim
  | scr => exact h.elim
theorem isS_of (h : isS x) : ∃ b, x = .d (.str b) := by
  cases x with
  | d y => cases y <;> first | exact ⟨_, rfl⟩ | exact h.elim
  | exc => exact h.elim
  | spr => exact h.elim
  | scr => exact h.elim
theorem opd_addS : OpD Γ rAddS pAddS := fun f F H σ ρ x y u w Q R E h1 h2 q o => by
  unfold pAddS at q
  split at q
  · cases h1; cases h2
    exact ⟨_, _, rfl, rfl, q.1, o _ _ F H q.2 E (Same.refl _) (.str _)⟩
  · exact q.elim
theorem opd_inD : OpD Γ (rInD Γ.K) pInD := fun f F H σ ρ x y u w Q R E h1 h2 q o => by
  unfold pInD at q
  split at q
  · exact ⟨u, _, Dp.same E.s1 u (Dq.dp u h1), Dp.same E.s1 _ (Dq.dp _ h2), q.1, q.2.1, o _ _ F H q.2.2 E (Same.refl _) (.bl _)⟩
  · exact q.elim
theorem cd_str : CallD Γ (fun xs H Q => ∃ i, xs = [V.int i] ∧ i.natAbs.log2 < 1920 ∧ Q (.str (toString i)) H) pStr := fun f F H σ ρ vs xs Q R E r p o => by
  unfold pStr at p
  split at p
  · obtain ⟨u, rfl, r1⟩ := rp1 r
    cases r1
    exact ⟨_, rfl, p.1, o _ _ _ _ p.2 E (Same.refl _) (.str _)⟩
  · exact p.elim
theorem cd_intB : CallD Γ (fun xs H Q => (∃ i, xs = [V.int i] ∧ Q (.int i) H) ∨ ∃ k, xs = [V.bl k] ∧ Q (.int (if k then 1 else 0)) H) pIntB := fun f F H σ ρ vs xs Q R E r p o => by
  unfold pIntB at p
  split at p
  · obtain ⟨u, rfl, r1⟩ := rp1 r
    cases r1
    exact .inl ⟨_, rfl, o _ _ _ _ p E (Same.refl _) (.int _)⟩
  · obtain ⟨u, rfl, r1⟩ := rp1 r
    cases r1
    exact .inr ⟨_, rfl, o _ _ _ _ p E (Same.refl _) (.int _)⟩
  · exact p.elim
theorem cd_intS : CallD Γ (fun xs H Q => ∃ a n, xs = [V.str a] ∧ PySem.intText? a = some n ∧ a.length ≤ 640 ∧ Q (.int n) H) pIntS := fun f F H σ ρ vs xs Q R E r p o => by
  unfold pIntS at p
  split at p
  · obtain ⟨u, rfl, r1⟩ := rp1 r
    obtain ⟨n, p1, p2, p3⟩ := p
    cases r1
    exact ⟨_, n, rfl, p1, p2, o _ _ _ _ p3 E (Same.refl _) (.int _)⟩
  · exact p.elim
theorem cd_minL : CallD Γ (rMin Γ.K) pMinL := fun f F H σ ρ vs xs Q R E r p o => by
  unfold pMinL at p
  split at p
  · obtain ⟨u, rfl, r1⟩ := rp1 r
    obtain ⟨ns, rfl, hp, p⟩ := p
    cases r1 with
    | lst hs ha =>
      have e := ha.ints
      subst e
      exact ⟨_, ns, rfl, .of (E.s1 _ _ hs), hp, fun m hm hle => o _ _ _ _ (p m hm hle) E (Same.refl _) (.int _)⟩
  · exact p.elim
theorem cd_lenS : CallD Γ (fun xs H Q => ∃ z, xs = [V.str z] ∧ z.length ≤ sizeLine ∧ Q (.int z.length) H) pLenS := fun f F H σ ρ vs xs Q R E r p o => by
  unfold pLenS at p
  split at p
  · obtain ⟨u, rfl, r1⟩ := rp1 r
    cases r1
    exact ⟨_, rfl, p.1, o _ _ _ _ p.2 E (Same.refl _) (.int _)⟩
  · exact p.elim
/-- a method by values -/
def MtD (Γ : Gx) (r : V → List V → Hp → VK → Prop) (p : PM) : Prop := ∀ f F H σ ρ v vs x xs Q R, Ent Γ f F H σ ρ → Rp Γ F v x → RpAll Γ F vs xs → p x xs R → (∀ d v F' H', R d → Ent Γ f F' H' σ ρ → Same F F' → Dq Γ.K F' v d → Q v H') → r v vs H Q
theorem isS_ty (h : isS x) (r : Rp Γ F v x) : tyV Γ.K "str" v H := by
  obtain ⟨z, rfl⟩ := isS_of h
  cases r
  rfl
theorem de_m {r : V → List V → Hp → VK → Prop} {p : PM} {as : AA} (hp : MtD Γ r p) (hpe : ∀ {to : TE} {ta : TA}, PE X e1 to → PA X es ta → PE X e (tBM Γ.K "str" r to ta)) {to : TE} (h1 : DE Γ X W e1 to a) {ta : TA} (h2 : DA Γ X W es ta as) : DE Γ X W e (tBM Γ.K "str" r to ta) (eM p a as) := by
  obtain ⟨p1, d1⟩ := h1
  obtain ⟨p2, d2⟩ := h2
  refine ⟨hpe p1 p2, fun f F H σ ρ Q R Xx E q o ox => ?_⟩
  refine d1 f F H σ ρ _ _ Xx E q (fun x ρ1 F1 H1 v1 q1 E1 s1 r1 => ?_) ox
  refine ⟨isS_ty q1.1 r1, ?_⟩
  refine d2 f F1 H1 σ ρ1 _ _ Xx E1 q1.2 (fun xs ρ2 F2 H2 vs q2 E2 s2 r2 => ?_) ox
  exact hp f F2 H2 σ ρ2 v1 vs x xs Q _ E2 (r1.same s2) r2 q2 fun d v F' H' rd E' s' hd => o _ _ _ _ _ rd E' ((s1.trans s2).trans s') hd
theorem de_m0 {r : V → List V → Hp → VK → Prop} {p : PM} (hp : MtD Γ r p) (hpe : ∀ {to : TE}, PE X e1 to → PE X e (tBM0 Γ.K "str" r to)) {to : TE} (h1 : DE Γ X W e1 to a) : DE Γ X W e (tBM0 Γ.K "str" r to) (eM0 p a) := by
  obtain ⟨p1, d1⟩ := h1
  refine ⟨hpe p1, fun f F H σ ρ Q R Xx E q o ox => ?_⟩
  refine d1 f F H σ ρ _ _ Xx E q (fun x ρ1 F1 H1 v1 q1 E1 s1 r1 => ?_) ox
  refine ⟨isS_ty q1.1 r1, ?_⟩
  exact hp f F1 H1 σ ρ1 v1 [] x [] Q _ E1 r1 trivial q1.2 fun d v F' H' rd E' s' hd => o _ _ _ _ _ rd E' (s1.trans s') hd
theorem md_0 {C : Str → Prop} {g : Str → Bool} : MtD Γ (fun x xs H Q => ∃ a, x = .str a ∧ xs = [] ∧ C a ∧ Q (.bl (g a)) H) (pM0 C fun z => .bool (g z)) := fun f F H σ ρ v vs x xs Q R E rv r p o => by
  unfold pM0 at p
  split at p
  · cases rv
    cases vs with
    | nil => exact ⟨_, rfl, rfl, p.1, o _ _ _ _ p.2 E (Same.refl _) (.bl _)⟩
    | cons => exact r.elim
  · exact p.elim
theorem md_1 {g : Str → Str → Bool} : MtD Γ (fun x xs H Q => ∃ a b, x = .str a ∧ xs = [.str b] ∧ Q (.bl (g a b)) H) (pM1 fun z y => .bool (g z y)) := fun f F H σ ρ v vs x xs Q R E rv r p o => by
  unfold pM1 at p
  split at p
  · obtain ⟨u, rfl, r1⟩ := rp1 r
    cases rv; cases r1
    exact ⟨_, _, rfl, rfl, o _ _ _ _ p E (Same.refl _) (.bl _)⟩
  · exact p.elim
theorem md_zfill : MtD Γ (fun x xs H Q => ∃ (a : Str) (i : Int), x = .str a ∧ xs = [.int i] ∧ PadOk i = true ∧ Q (.str (Txt.zfill a i)) H) (pMI (fun _ i => PadOk i = true) fun z i => .str (Txt.zfill z i)) := fun f F H σ ρ v vs x xs Q R E rv r p o => by
  unfold pMI at p
  split at p
  · obtain ⟨u, rfl, r1⟩ := rp1 r
    cases rv; cases r1
    exact ⟨_, _, rfl, rfl, p.1, o _ _ _ _ p.2 E (Same.refl _) (.str _)⟩
  · exact p.elim
theorem dq_strs {F : Hp} : ∀ {ys : List Str} {vs : List V}, DqAll Γ.K F vs (ys.map PyData.str) → vs = ys.map V.str
  | [], _, h => by cases h; rfl
  | y :: ys, _, h => by
    cases h with
    | cons h1 h2 =>
      cases h1
      rw [dq_strs h2]
      rfl
theorem strs_dq {F : Hp} : ∀ ys : List Str, DqAll Γ.K F (ys.map V.str) (ys.map PyData.str)
  | [] => .nil
  | _ :: ys => .cons (.str _) (strs_dq ys)
theorem md_join : MtD Γ (fun x xs H Q => ∃ a p, ∃ ys : List Str, x = .str a ∧ xs = [.ref p] ∧ (SqL Γ.K H p (ys.map V.str) ∨ SqT Γ.K H p (ys.map V.str)) ∧ (ys.map (·.length)).sum + ys.length * a.length ≤ 16777216 ∧ Q (.str (Txt.join a ys)) H) pJoin := fun f F H σ ρ v vs x xs Q R E rv r p o => by
  unfold pJoin at p
  split at p
  · obtain ⟨u, rfl, r1⟩ := rp1 r
    obtain ⟨ys, rfl, p1, p2⟩ := p
    cases rv
    cases r1 with
    | lst hs ha =>
      have e := dq_strs ha
      subst e
      exact ⟨_, _, ys, rfl, rfl, .inl (.of (E.s1 _ _ hs)), p1, o _ _ _ _ p2 E (Same.refl _) (.str _)⟩
  · exact p.elim
theorem dl_split (hpe : ∀ {to te : TE}, PE X e1 to → PE X e2 te → PE X e (tBM Γ.K "str" (fun x xs H Q => ∃ a b, x = .str a ∧ xs = [.str b] ∧ (b.length == 0) = false ∧ a.length + 2 ≤ sizeLine ∧ rNewStrs (Txt.split a b) H Q) to (tCons te tNil))) {to : TE} (h1 : DE Γ X W e1 to a) {te : TE} (h2 : DE Γ X W e2 te b) :
    DL Γ X W e (tBM Γ.K "str" (fun x xs H Q => ∃ a b, x = .str a ∧ xs = [.str b] ∧ (b.length == 0) = false ∧ a.length + 2 ≤ sizeLine ∧ rNewStrs (Txt.split a b) H Q) to (tCons te tNil)) (lSplit a b) := by
  obtain ⟨p1, d1⟩ := h1
  obtain ⟨p2, d2⟩ := h2
  refine ⟨hpe p1 p2, fun f F H σ ρ Q R Xx E q o ox => ?_⟩
  refine d1 f F H σ ρ _ _ Xx E q (fun x ρ1 F1 H1 v1 q1 E1 s1 r1 => ?_) ox
  refine ⟨isS_ty q1.1 r1, ?_⟩
  refine d2 f F1 H1 σ ρ1 _ _ Xx E1 q1.2 (fun y ρ2 F2 H2 v2 q2 E2 s2 r2 => ?_) ox
  obtain ⟨u, rfl, q3⟩ := dZ_of q2
  obtain ⟨w, rfl, q4⟩ := dZ_of q3
  cases r1; cases r2
  refine ⟨_, _, rfl, rfl, q4.1, q4.2.1, fun p np => ?_⟩
  exact o _ _ _ _ _ _ q4.2.2 (E2.raw np) (s1.trans s2) (own_new E2 (strs_dq _) np)
theorem de_slS {l h : Option Expr} {lo hi : Option EE} (hpe : ∀ {ta : TE} {tl th : TO}, PE X e1 ta → PO X l tl → PO X h th → PE X e (tSl rSlS ta tl th)) {ta : TE} (h1 : DE Γ X W e1 ta a) {tl : TO} (h2 : DO Γ X W l tl lo) {th : TO} (h3 : DO Γ X W h th hi) : DE Γ X W e (tSl rSlS ta tl th) (eSlS a lo hi) := by
  obtain ⟨p1, d1⟩ := h1
  obtain ⟨p2, d2⟩ := h2
  obtain ⟨p3, d3⟩ := h3
  refine ⟨hpe p1 p2 p3, fun f F H σ ρ Q R Xx E q o ox => ?_⟩
  refine d1 f F H σ ρ _ _ Xx E q (fun x ρ1 F1 H1 v1 q1 E1 s1 r1 => ?_) ox
  obtain ⟨us, rfl, q1'⟩ := dZ_of q1
  refine d2 f F1 H1 σ ρ1 _ _ Xx E1 q1' (fun lo' ρ2 F2 H2 q2 E2 s2 => ?_) ox
  refine d3 f F2 H2 σ ρ2 _ _ Xx E2 q2 (fun hi' ρ3 F3 H3 q3 E3 s3 => ?_) ox
  cases r1
  exact ⟨_, rfl, q3.1, o _ _ _ _ _ q3.2 E3 ((s1.trans s2).trans s3) (.str _)⟩
/-- by keyword, raising nothing -/
theorem de_callK0 {φ : Phi} {as : AA} {kws : List Keyword} {gV : List V → List V} {gA : List A → List A} (hg : ∀ {vs : List V} {xs : List A} {F : Hp}, RpAll Γ F vs xs → RpAll Γ F (gV vs) (gA xs)) (hpe : ∀ {ta : TA}, PK X kws ta → PE X e (tCallKS (spP Γ false φ) gV (fun _ => E0) ta)) {ta : TA} (h : PK X kws ta ∧ DenA Γ W ta as) :
    DE Γ X W e (tCallKS (spP Γ false φ) gV (fun _ => E0) ta) (eCall0 (fun n xs => φ n (gA xs)) as) := by
  obtain ⟨p, dn⟩ := h
  refine ⟨hpe p, fun f F H σ ρ Q R Xx E q o ox => ?_⟩
  refine dn f F H σ ρ _ _ Xx E q (fun xs ρ1 F1 H1 us q1 E1 s1 r1 => ?_) ox
  exact sp_at E1 (hg r1) q1 (fun x v F' H' rr E' s' h => o x ρ1 F' H' v (rr.elim id fun ⟨_, z⟩ => z) E' (s1.trans s') h) fun c d n' v dx F' H' z => z.elim
end
theorem room65 {k : Nat} {A : Around} (r : Room k A) : A.units + 65 < cLine := by have := r.un; omega
/-! a def that raises nothing, called by keyword too -/
section
variable {Γ : Gx} {P : Program} {w : World} {mg : Str → Option Value} {base : Heap} {k : Nat} {x : Str} {st : Stmt} {N ps : List Str} {φ : Phi} {rg : Bool}
theorem mkPPK (T : Tx Γ.K mg x st) (S : FnScope N ps (defScope st))
    (len : ∀ n xs R Xx, φ n xs R Xx → (if rg = true then 1 else 0) + xs.length = ps.length) (hX : ∀ n xs R Xx, φ n xs R Xx → φ n xs R fun _ _ _ => False)
    (hbody : ∀ (f : Addr) (cdv : Value) (A : Around) (outer : List Env) (s : Shared) (H : Hp) (E : XK), A.guards = some [] → Room k (A.deeper (envOfC x (defScope st) s.heap.objs.size f cdv)) →
      ∃ t κ, DSs Γ (cxOf CX0 P w Γ.K mg base N x (defScope st) f cdv A outer s H E).nox (fun _ _ _ _ => False) (defBody st) t κ ∧ ∀ n xs R, φ n xs R (fun _ _ _ => False) → κ (initS rg n N xs) (ends0 rg R)) :
    PrK P w Γ.K mg base CX0 (k + 1) x st ps (spP Γ rg φ) :=
  mkK T S (sp_len len) fun f cdv A outer s H vs Q E hG hr h => by
    obtain ⟨t, κ, d, q⟩ := hbody f cdv A outer s H E hG hr
    exact ⟨t, d.1, body0 (X := cxOf CX0 P w Γ.K mg base N x (defScope st) f cdv A outer s H E) h d.2 q hX⟩
theorem mkPPXK (T : Tx Γ.K mg x st) (S : FnScope N ps (defScope st))
    (len : ∀ n xs R Xx, φ n xs R Xx → (if rg = true then 1 else 0) + xs.length = ps.length)
    (hbody : ∀ (f : Addr) (cdv : Value) (A : Around) (outer : List Env) (s : Shared) (H : Hp) (E : XK), A.guards = some [] → Room k (A.deeper (envOfC x (defScope st) s.heap.objs.size f cdv)) →
      ∃ t κ, DSs Γ (cxOf (L2.CX P w) P w Γ.K mg base N x (defScope st) f cdv A outer s H E) (fun cls dx _ H => E cls dx H) (defBody st) t κ ∧ ∀ n xs R Xx, φ n xs R Xx → κ (initS rg n N xs) (endsX rg R Xx)) :
    PrK P w Γ.K mg base (L2.CX P w) (k + 1) x st ps (spP Γ rg φ) :=
  mkKX T S (sp_len len) fun f cdv A outer s H vs Q E hG hr h => by
    obtain ⟨t, κ, d, q⟩ := hbody f cdv A outer s H E hG hr
    exact ⟨t, d.1, bodyX h d.2 q⟩
end
/-! readings -/
section
variable {ρ : List Sl} {R : A → List Sl → Prop} {RL : List PyData → List Sl → Prop} {Xx : XX} {a b : EE} {as : AA} {x : A} {z y : Str} {i : Int}
theorem y_addS {Q : PyData → Prop} : pAddS (.str z) (.str y) Q ↔ z.length + y.length ≤ sizeLine ∧ Q (.str (z ++ y)) := Iff.rfl
theorem y_str {Q : PyData → Prop} : pStr [.d (.int i)] Q ↔ i.natAbs.log2 < 1920 ∧ Q (.str (strI i)) := Iff.rfl
theorem y_intB {k : Bool} {Q : PyData → Prop} : pIntB [.d (.bool k)] Q ↔ Q (.int (if k then 1 else 0)) := Iff.rfl
theorem y_intI {Q : PyData → Prop} : pIntB [.d (.int i)] Q ↔ Q (.int i) := Iff.rfl
theorem y_intS {Q : PyData → Prop} : pIntS [.d (.str z)] Q ↔ ∃ n, PySem.intText? z = some n ∧ z.length ≤ 640 ∧ Q (.int n) := Iff.rfl
theorem y_minL {ds : List PyData} {Q : PyData → Prop} : pMinL [.d (.list ds)] Q ↔ ∃ ns : List Int, ds = ns.map PyData.int ∧ 0 < ns.length ∧ ∀ m, m ∈ ns → (∀ y, y ∈ ns → m ≤ y) → Q (.int m) := Iff.rfl
theorem y_lenZ {Q : PyData → Prop} : pLenS [.d (.str z)] Q ↔ z.length ≤ sizeLine ∧ Q (.int z.length) := Iff.rfl
theorem y_m {p : PM} : eM p a as ρ R Xx ↔ a ρ (fun x ρ1 => isS x ∧ as ρ1 (fun xs ρ2 => p x xs fun d => R (.d d) ρ2) Xx) Xx := Iff.rfl
theorem y_m0 {p : PM} : eM0 p a ρ R Xx ↔ a ρ (fun x ρ1 => isS x ∧ p x [] fun d => R (.d d) ρ1) Xx := Iff.rfl
theorem y_isS : isS (.d (.str z)) ↔ True := Iff.rfl
theorem y_pM0 {C : Str → Prop} {g : Str → PyData} {Q : PyData → Prop} : pM0 C g (.d (.str z)) [] Q ↔ C z ∧ Q (g z) := Iff.rfl
theorem y_pM1 {g : Str → Str → PyData} {Q : PyData → Prop} : pM1 g (.d (.str z)) [.d (.str y)] Q ↔ Q (g z y) := Iff.rfl
theorem y_pMI {C : Str → Int → Prop} {g : Str → Int → PyData} {Q : PyData → Prop} : pMI C g (.d (.str z)) [.d (.int i)] Q ↔ C z i ∧ Q (g z i) := Iff.rfl
theorem y_joinS {ds : List PyData} {Q : PyData → Prop} : pJoin (.d (.str z)) [.d (.list ds)] Q ↔ ∃ ys : List Str, ds = ys.map PyData.str ∧ (ys.map (·.length)).sum + ys.length * z.length ≤ 16777216 ∧ Q (.str (Txt.join z ys)) := Iff.rfl
theorem y_dZ {Q : Str → Prop} : dZ (.d (.str z)) Q ↔ Q z := Iff.rfl
theorem y_split : lSplit a b ρ RL Xx ↔ a ρ (fun x ρ1 => isS x ∧ b ρ1 (fun y ρ2 => dZ x fun u => dZ y fun w => (w.length == 0) = false ∧ u.length + 2 ≤ sizeLine ∧ RL ((Txt.split u w).map PyData.str) ρ2) Xx) Xx := Iff.rfl
theorem y_slS {lo hi : Option EE} : eSlS a lo hi ρ R Xx ↔ a ρ (fun x ρ1 => dZ x fun u => dO lo ρ1 (fun l ρ2 => dO hi ρ2 (fun h ρ3 => u.length ≤ sizeLine ∧ R (.d (.str (cutS u l h))) ρ3) Xx) Xx) Xx := Iff.rfl
theorem y_inD {ds : List PyData} {d : PyData} {Q : PyData → Prop} : pInD d (.list ds) Q ↔ SeqAt.shaped d = true ∧ SeqAt.shaped (.list ds) = true ∧ Q (.bool (ds.any fun z => PyData.eqv z d)) := Iff.rfl
end
end Cc

set_option Elab.async false
set_option linter.all false
set_option maxRecDepth 100000
set_option maxHeartbeats 4000000
/-! The pure layer: a list within a list that a call has just made is appended to; texts walked; a sign in a text; a text some times; isinstance of a tuple of classes. -/
namespace Cc
open PySem PySem.Spec PyProof.Rows L2
def flatA : Cc.A → Prop
  | .d x => flatD x = true
  | _ => False
/-- x = f(..); if t1: b1; if t2: x[0].append(e): f's answer is its own -/
def sFresh (i : Nat) (φ : Phi) (as : AA) (t1 t2 : BB) (b1 : SS) (e : EE) : SS := fun ρ P =>
  (i < ρ.length ∧ ∀ (j : Nat) (s : Sl), ρ[j]? = some s → s = .un ∨ ∃ x, s = .a x) ∧
  as ρ (fun xs ρ1 => ρ1 = ρ ∧ (∀ x ∈ xs, flatA x) ∧ φ 0 xs (fun x _ => t1 (ρ.set i (.a x)) (fun c ρ2 => if c = true then b1 ρ2 { P with nx := fun _ => False } else
    t2 ρ2 (fun c2 ρ3 => if c2 = true then ∃ ds us, x = .d (.list (.list ds :: us)) ∧ e ρ3 (fun y ρ4 => dD y fun _ => szL (ds.length + 1) ∧ P.nx (ρ.set i .un)) P.ex else P.nx ρ3) P.ex) P.ex) (fun _ _ _ => False)) P.ex
section
variable {Γ : Gx} {X : Cx} {W : WX} {f : Fr} {F H F' H' : Hp} {σ σ' : L2.St} {ρ ρ' : List Sl} {x : Cc.A} {v : V} {d : PyData} {e e1 e2 e3 tg : Expr} {a b c : EE} {i j : Nat} {es : List Expr} {pos : Pos} {st : Stmt} {sts sts' : List Stmt} {k k' : SS} {gs : List Nat}
theorem rp_flat : ∀ {vs : List V} {xs : List Cc.A}, RpAll Γ F vs xs → (∀ x ∈ xs, flatA x) → RpAll Γ F' vs xs
  | [], [], _, _ => trivial
  | v :: vs, x :: xs, ⟨h1, h2⟩, hf => by
    refine ⟨?_, rp_flat h2 fun y hy => hf y (List.mem_cons_of_mem _ hy)⟩
    have h := hf x (List.mem_cons_self ..)
    cases x with
    | d u =>
      have h : flatD u = true := h
      cases u with
      | none => cases h1; exact .non
      | bool b => cases h1; exact .bl _
      | int i => cases h1; exact .int _
      | str z => cases h1; exact .str _
      | list _ => cases h
      | tuple _ => cases h
      | dict _ => cases h
    | exc => exact h.elim
    | spr => exact h.elim
    | scr => exact h.elim
  | [], _ :: _, h, _ => h.elim
  | _ :: _, [], h, _ => h.elim
theorem dss_fresh {φ : Phi} {as : AA} {c1 c2 ea : Expr} {b1s : List Stmt} {t1 t2 : BB} {b1 : SS} {ε : EE}
    (hpe : ∀ {ta : TA} {tt1 : TT} {tb1 : TS} {tt2 : TT} {te : TE}, PA X es ta → PT X c1 tt1 → PSs X b1s tb1 → PT X c2 tt2 → PE X ea te →
      PSs X sts (tSeq (tAsg (tCall (spP Γ false φ) [] E0 ta) (gName i)) (tSeq (tIfS tt1 tb1 tNext) (tIfS tt2 (tDrop (tBM Γ.K "list" rAppend (tOp (rIx Γ.K) (tVar i) (tC (.int 0))) (tCons te tNil))) tNext))))
    {ta : TA} (ha : DA Γ X W es ta as) {tt1 : TT} (h1 : DT Γ X W c1 tt1 t1) {tb1 : TS} (hb : DSs Γ X W b1s tb1 b1) {tt2 : TT} (h2 : DT Γ X W c2 tt2 t2) {te : TE} (he : DE Γ X W ea te ε) :
    DSs Γ X W sts (tSeq (tAsg (tCall (spP Γ false φ) [] E0 ta) (gName i)) (tSeq (tIfS tt1 tb1 tNext) (tIfS tt2 (tDrop (tBM Γ.K "list" rAppend (tOp (rIx Γ.K) (tVar i) (tC (.int 0))) (tCons te tNil))) tNext))) (sFresh i φ as t1 t2 b1 ε) := by
  refine ⟨hpe ha.1 h1.1 hb.1 h2.1 he.1, fun f F H σ ρ P D E q o => ?_⟩
  obtain ⟨⟨hi, plain⟩, q⟩ := q
  refine ha.2 f F H σ ρ _ _ P.ex E q (fun xs ρ1 F1 H1 us q1 E1 s1 r1 => ?_) (o.ex σ)
  obtain ⟨rfl, hflat, q1⟩ := q1
  show spP Γ false φ (us ++ []) H1 _ E0
  rw [List.append_nil]
  refine ⟨fun _ => False, 0, fun _ => none, 0, xs, us, _, _, rfl, rp_flat r1 hflat, (fun _ _ z => nomatch z), (fun _ z => z.elim), (fun _ _ z => nomatch z), (fun z => Bool.noConfusion z), (fun _ _ z => z), q1, fun x n' v Ft H2 qx st hv => ?_, fun _ _ _ _ _ _ _ z => z.elim⟩
  have qx : t1 (ρ1.set i (.a x)) (fun c ρ2 => if c = true then b1 ρ2 { P with nx := fun _ => False } else
    t2 ρ2 (fun c2 ρ3 => if c2 = true then ∃ ds us, x = .d (.list (.list ds :: us)) ∧ ε ρ3 (fun y ρ4 => dD y fun _ => szL (ds.length + 1) ∧ P.nx (ρ1.set i .un)) P.ex else P.nx ρ3) P.ex) P.ex := qx
  let U : Hp := fun b => match F1 b with | some o => some o | none => Ft b
  have newT : ∀ b o, Ft b = some o → H1 b = none := fun b o e => (st.new b o e).elim (fun z => nomatch z) id
  have sU : Same F1 U := fun b o e => by show (match F1 b with | some o => some o | none => Ft b) = some o; rw [e]
  have tU : Same Ft U := fun b o e => by
    show (match F1 b with | some o => some o | none => Ft b) = some o
    cases h : F1 b with
    | none => exact e
    | some u => have := E1.s1 _ _ h; rw [newT b o e] at this; cases this
  have ofU : ∀ b o, U b = some o → F1 b = some o ∨ Ft b = some o := fun b o e => by
    have e : (match F1 b with | some o => some o | none => Ft b) = some o := e
    cases h : F1 b with
    | none => rw [h] at e; exact .inr e
    | some u => rw [h] at e; exact .inl e
  have stU : Stp Γ false (fun _ => False) 0 F1 H1 U H2 n' := ⟨sU, fun b o e => (ofU b o e).elim (fun h => st.chg _ _ (E1.s1 _ _ h) (fun z => z)) (fun h => st.s1 _ _ h), fun b o e => (ofU b o e).elim .inl (fun h => .inr (newT b o h)), st.chg, st.liv, (fun z => Bool.noConfusion z), fun b o e => (ofU b o e).elim (fun h => (E1.cl b o h).same sU) (fun h => (st.cl b o h).same tU)⟩
  have E2 : Ent Γ f U H2 σ ρ1 := E1.stp0 (fun _ z => z) stU
  have E3 := E2.setA (i := i) (hv.same tU)
  refine h1.2 f U H2 _ _ _ _ P.ex E3 qx (fun c ρ2 F3 H3 q3 E4 s4 => ?_) (o.ex _)
  cases c with
  | true =>
    rw [if_pos rfl]
    have o' := o.sub ((s1.trans sU).trans s4)
    exact hb.2 f F3 H3 _ ρ2 { P with nx := fun _ => False } _ E4 q3 ⟨fun _ _ _ _ z => z.elim, o'.rt, o'.bk, o'.ct, o'.ex⟩
  | false =>
    refine h2.2 f F3 H3 _ ρ2 _ _ P.ex E4 q3 (fun c2 ρ3 F4 H4 q4 E5 s5 => ?_) (o.ex _)
    cases c2 with
    | false => exact o.nx _ _ _ _ q4 E5 (((s1.trans sU).trans s4).trans s5)
    | true =>
      obtain ⟨ds, us', rfl, q4⟩ := q4
      cases hv with
      | @lst bo _ _ hs hall =>
        cases hall with
        | cons hin hrest =>
          cases hin with
          | @lst bi xi _ hsi halli =>
            have tF4 : Same Ft F4 := (tU.trans s4).trans s5
            have hil : i < σ.length := by rw [E1.len]; exact hi
            have hget : (σ.set i (some (.ref bo)))[i]? = some (some (.ref bo)) := by rw [List.getElem?_set, if_pos rfl, if_pos hil]
            have tH4 : Same Ft H4 := tF4.trans E5.s1
            refine ⟨.ref bo, hget, .inl ⟨_, _, _, _, rfl, rfl, .of (tH4 _ _ hs), at0, x_tyL (.of (tH4 _ _ hsi)), ?_⟩⟩
            refine he.2 f F4 H4 _ ρ3 _ _ P.ex E5 q4 (fun y ρ4 F5 H5 w q5 E6 s6 r6 => ?_) (o.ex _)
            obtain ⟨du, rfl, hz, q5⟩ := dD_of q5
            have tF5 : Same Ft F5 := tF4.trans s6
            have hH5 := E6.s1 _ _ (tF5 _ _ hsi)
            refine ⟨_, _, _, rfl, rfl, hH5, by rw [halli.len]; exact hz, ?_⟩
            have n1 : H1 bi = none := newT _ _ hsi
            have f1 : F1 bi = none := E1.fnone n1
            have h0 : f.H0 bi = none := E1.liv _ n1
            have s15 : Same F1 F5 := ((sU.trans s4).trans s5).trans s6
            have noown : ∀ (j : Nat) (ds : List PyData), (ρ1.set i .un)[j]? = some (Sl.own ds) → False := fun j ds h => by
              rw [List.getElem?_set] at h
              by_cases hj : i = j
              · rw [if_pos hj] at h
                split at h <;> cases h
              · rw [if_neg hj] at h
                rcases plain j _ h with z | ⟨_, z⟩ <;> cases z
            refine o.nx _ (ρ1.set i .un) F1 _ q5 ⟨E1.s0, fun b u e => ?_, E1.new, fun b u e m => ?_, fun b e => ?_, by rw [List.length_set, List.length_set]; exact E1.len, fun j s hj => ?_, fun j k a ds es z => (noown _ _ z).elim, E1.rm, E1.rF, fun b hb => ?_, fun b hb ⟨j, ds, z, _⟩ => noown _ _ z, E1.ml, E1.cl⟩ s1
            · rw [upd_ne (ne_of_none e f1)]; exact E6.s1 _ _ (s15 _ _ e)
            · rw [upd_ne (ne_of_none e h0)]; exact E6.chg b u e m
            · by_cases hb : b = bi
              · rw [hb, upd_same] at e; cases e
              · rw [upd_ne hb] at e; exact E6.liv b e
            · rw [List.getElem?_set] at hj ⊢
              by_cases hij : i = j
              · rw [if_pos hij] at hj
                split at hj
                · cases hj; trivial
                · first | cases hj; trivial | cases hj
              · rw [if_neg hij] at hj ⊢
                have old := E1.sl j s hj
                rcases plain j s hj with rfl | ⟨y, rfl⟩
                · trivial
                · exact old
            · by_cases hbb : b = bi
              · rw [hbb, upd_same]; exact nofun
              · rw [upd_ne hbb]; exact E6.rl b hb
theorem y_fresh {φ : Phi} {as : AA} {t1 t2 : BB} {b1 : SS} {ε : EE} {P : EndsP} : sFresh i φ as t1 t2 b1 ε ρ P ↔ (i < ρ.length ∧ ∀ (j : Nat) (s : Sl), ρ[j]? = some s → s = .un ∨ ∃ x, s = .a x) ∧
  as ρ (fun xs ρ1 => ρ1 = ρ ∧ (∀ x ∈ xs, flatA x) ∧ φ 0 xs (fun x _ => t1 (ρ.set i (.a x)) (fun c ρ2 => if c = true then b1 ρ2 { P with nx := fun _ => False } else
    t2 ρ2 (fun c2 ρ3 => if c2 = true then ∃ ds us, x = .d (.list (.list ds :: us)) ∧ ε ρ3 (fun y ρ4 => dD y fun _ => szL (ds.length + 1) ∧ P.nx (ρ.set i .un)) P.ex else P.nx ρ3) P.ex) P.ex) (fun _ _ _ => False)) P.ex := Iff.rfl
/-! a text, walked -/
def sgA (z : Str) : List Cc.A := z.cps.toList.map fun c => Cc.A.d (.str ⟨#[c]⟩)
def iTx (a : EE) : II := fun ρ R Xx => a ρ (fun x ρ1 => dZ x fun z => R (sgA z) ρ1) Xx
theorem jok_str {z : Str} : JOk Γ F (Its z) (sgA z) where
  go i H s hi := by
    unfold sgA at hi
    rw [List.length_map] at hi
    exact hi
  stop i H s hi := by
    unfold sgA at hi
    rw [List.length_map] at hi
    exact hi
  yld i H v H' s hil y := by
    obtain ⟨rfl, c, hc, rfl⟩ := y
    refine ⟨.d (.str ⟨#[c]⟩), ?_, .inl ⟨rfl, .str _⟩⟩
    unfold sgA
    rw [List.getElem?_map, Array.getElem?_toList, hc]
    rfl
theorem di_str (hpe : ∀ {t : TE}, PE X e1 t → PI X tg e (iStr t)) {t : TE} (h : DE Γ X W e1 t a) : DI Γ X W tg e (iStr t) (iTx a) := by
  obtain ⟨p, d⟩ := h
  refine ⟨hpe p, fun f F H σ ρ G R Xx E q o ox => ?_⟩
  refine d f F H σ ρ _ _ Xx E q (fun x ρ1 F1 H1 v1 q1 E1 s1 r1 => ?_) ox
  obtain ⟨z, rfl, q2⟩ := dZ_of q1
  cases r1
  exact ⟨z, rfl, o _ _ _ _ _ q2 E1 s1 jok_str⟩
theorem y_iTx {RA : List Cc.A → List Sl → Prop} {Xx : XX} : iTx a ρ RA Xx ↔ a ρ (fun x ρ1 => dZ x fun z => RA (sgA z) ρ1) Xx := Iff.rfl
/-! a sign in a text -/
def pSign (neg : Bool) : P2
  | .str y, .str z, R => ∃ c, y = ⟨#[c]⟩ ∧ R (.bool (if neg then !decide (c ∈ z.cps.toList) else decide (c ∈ z.cps.toList)))
  | _, _, _ => False
theorem opd_notSign : OpD Γ (fun x y H Q => ∃ (c : Nat) (z : Str), x = .str ⟨#[c]⟩ ∧ y = .str z ∧ Q (.bl (!decide (c ∈ z.cps.toList))) H) (pSign true) := fun f F H σ ρ x y u w Q R E h1 h2 q o => by
  unfold pSign at q
  split at q
  · obtain ⟨c, rfl, q⟩ := q
    cases h1; cases h2
    exact ⟨c, _, rfl, rfl, o _ _ F H q E (Same.refl _) (.bl _)⟩
  · exact q.elim
theorem y_sign {neg : Bool} {y z : Str} {Q : PyData → Prop} : pSign neg (.str y) (.str z) Q ↔ ∃ c, y = ⟨#[c]⟩ ∧ Q (.bool (if neg then !decide (c ∈ z.cps.toList) else decide (c ∈ z.cps.toList))) := Iff.rfl
/-! a text some times -/
def repS (z : Str) (n : Int) : Str := if n < 1 then Str.empty else if (n == 1 || z.length == 0) = true then z else ⟨(List.replicate n.toNat z.cps).foldl (· ++ ·) #[]⟩
def rRepT : R2 := fun x y H Q => ∃ (z : Str) (n : Int), x = .str z ∧ y = .int n ∧ 0 ≤ n ∧ n ≤ 1000 ∧ z.length ≤ 1000 ∧ Q (.str (repS z n)) H
theorem op_repT : OpR X (binaryOp .Mult) rRepT := by
  intro pins s σ H x y v u Q I rx ry h
  obtain ⟨z, n, rfl, rfl, n0, n1, zl, q⟩ := h
  obtain ⟨t, rfl⟩ := rx
  obtain ⟨t', rfl⟩ := ry
  have bz : ∀ m : Nat, m ≤ 1000 → z.length * m ≤ 1000000 := fun m hm => Nat.mul_le_mul zl hm
  refine PySem.P.mul_str ?_ (fun h1 h2 => ?_) (fun h1 h2 => ?_) ?_
  · rw [decide_eq_false (by omega), decide_eq_false (by omega)]; rfl
  · have hn : 0 < n := by omega
    have : (1000 : Int) ≤ (2 ^ 63 - 1) / n := (Int.le_ediv_iff_mul_le hn).mpr (by omega)
    omega
  · have := bz n.toNat (by omega)
    unfold Builtin.Str.tooLong
    simp only [sizeLine_eq, decide_eq_false_iff_not]
    omega
  · unfold repS at q
    by_cases h1 : n < 1
    · rw [if_pos h1] at q ⊢
      exact ⟨by decide, .str Str.empty, H, I.tok _, ⟨_, rfl⟩, q⟩
    · rw [if_neg h1] at q ⊢
      by_cases h2 : (n == 1 || z.length == 0) = true
      · rw [if_pos h2] at q ⊢
        exact ⟨.str z, H, I, ⟨t, rfl⟩, q⟩
      · rw [if_neg h2] at q ⊢
        refine ⟨?_, .str _, H, I.tok _, ⟨_, rfl⟩, q⟩
        show ((List.replicate n.toNat z.cps).foldl (· ++ ·) #[]).size ≤ sizeLine
        rw [rep_size, sizeLine_eq]
        have := bz n.toNat (by omega)
        have e : z.cps.size = z.length := rfl
        rw [e, Nat.mul_comm n.toNat]
        show 0 + _ ≤ _
        omega
def pRepT : P2
  | .str z, .int n, R => 0 ≤ n ∧ n ≤ 1000 ∧ z.length ≤ 1000 ∧ R (.str (repS z n))
  | _, _, _ => False
theorem opd_repT : OpD Γ rRepT pRepT := fun f F H σ ρ x y u w Q R E h1 h2 q o => by
  unfold pRepT at q
  split at q
  · cases h1; cases h2
    exact ⟨_, _, rfl, rfl, q.1, q.2.1, q.2.2.1, o _ _ F H q.2.2.2 E (Same.refl _) (.str _)⟩
  · exact q.elim
theorem y_repT {z : Str} {n : Int} {Q : PyData → Prop} : pRepT (.str z) (.int n) Q ↔ 0 ≤ n ∧ n ≤ 1000 ∧ z.length ≤ 1000 ∧ Q (.str (repS z n)) := Iff.rfl
end
end Cc

set_option Elab.async false
set_option linter.all false
set_option maxRecDepth 100000
set_option maxHeartbeats 1000000
/-! What the levels say of the function of a chain: its values, each once for each rest; the levels are told by the values. Plain mathematics. -/
namespace Cc
open PySem PySem.Spec PyProof.Rows L2
/-! ### sets of ranges -/
def inR (r : Rg) (n : Int) : Prop := ∃ p ∈ r, p.1 ≤ n ∧ n ≤ p.2
theorem inR_nil {n : Int} : ¬ inR [] n := fun ⟨_, h, _⟩ => nomatch h
theorem inR_cons {a b n : Int} {r : Rg} : inR ((a, b) :: r) n ↔ (a ≤ n ∧ n ≤ b) ∨ inR r n := by
  constructor
  · rintro ⟨p, hp, h⟩
    rcases List.mem_cons.mp hp with rfl | hp
    · exact .inl h
    · exact .inr ⟨p, hp, h⟩
  · rintro (h | ⟨p, hp, h⟩)
    · exact ⟨_, List.mem_cons_self .., h⟩
    · exact ⟨p, List.mem_cons_of_mem _ hp, h⟩
theorem inR_app {n : Int} {r s : Rg} : inR (r ++ s) n ↔ inR r n ∨ inR s n := by
  constructor
  · rintro ⟨p, hp, h⟩
    rcases List.mem_append.mp hp with hp | hp
    · exact .inl ⟨p, hp, h⟩
    · exact .inr ⟨p, hp, h⟩
  · rintro (⟨p, hp, h⟩ | ⟨p, hp, h⟩)
    · exact ⟨p, List.mem_append.mpr (.inl hp), h⟩
    · exact ⟨p, List.mem_append.mpr (.inr hp), h⟩
theorem inR_mov {n d : Int} {r : Rg} : inR (movR r d) n ↔ inR r (n - d) := by
  constructor
  · rintro ⟨p, hp, h⟩
    obtain ⟨q, hq, rfl⟩ := List.mem_map.mp hp
    dsimp only at h
    exact ⟨q, hq, by omega, by omega⟩
  · rintro ⟨p, hp, h⟩
    exact ⟨_, List.mem_map.mpr ⟨p, hp, rfl⟩, by dsimp only; omega, by dsimp only; omega⟩
theorem inR_stay {n z : Int} : ∀ {r : Rg}, inR (stayR r z) n ↔ inR r n ∧ n ≤ z
  | [] => ⟨fun h => absurd h inR_nil, fun h => absurd h.1 inR_nil⟩
  | (a, b) :: r => by
    have ih := inR_stay (n := n) (z := z) (r := r)
    rw [stayR_cons]
    by_cases h : a ≤ z
    · rw [if_pos h, inR_cons, inR_cons, ih]
      by_cases hb : z < b
      · rw [if_pos hb]
        constructor
        · rintro (h | h)
          · exact ⟨.inl ⟨h.1, by omega⟩, h.2⟩
          · exact ⟨.inr h.1, h.2⟩
        · rintro ⟨h | h, h2⟩
          · exact .inl ⟨h.1, h2⟩
          · exact .inr ⟨h, h2⟩
      · rw [if_neg hb]
        constructor
        · rintro (h | h)
          · exact ⟨.inl h, by omega⟩
          · exact ⟨.inr h.1, h.2⟩
        · rintro ⟨h | h, h2⟩
          · exact .inl h
          · exact .inr ⟨h, h2⟩
    · rw [if_neg h, inR_cons, ih]
      constructor
      · exact fun h => ⟨.inr h.1, h.2⟩
      · rintro ⟨h | h, h2⟩
        · omega
        · exact ⟨h, h2⟩
theorem inR_leav {n z : Int} : ∀ {r : Rg}, inR (leavR r z) n ↔ inR r n ∧ z < n
  | [] => ⟨fun h => absurd h inR_nil, fun h => absurd h.1 inR_nil⟩
  | (a, b) :: r => by
    have ih := inR_leav (n := n) (z := z) (r := r)
    rw [leavR_cons]
    by_cases h : z < b
    · rw [if_pos h, inR_cons, inR_cons, ih]
      by_cases hb : z + 1 > a
      · rw [if_pos hb]
        constructor
        · rintro (h | h)
          · exact ⟨.inl ⟨by omega, h.2⟩, by omega⟩
          · exact ⟨.inr h.1, h.2⟩
        · rintro ⟨h | h, h2⟩
          · exact .inl ⟨by omega, h.2⟩
          · exact .inr ⟨h, h2⟩
      · rw [if_neg hb]
        constructor
        · rintro (h | h)
          · exact ⟨.inl h, by omega⟩
          · exact ⟨.inr h.1, h.2⟩
        · rintro ⟨h | h, h2⟩
          · exact .inl h
          · exact .inr ⟨h, h2⟩
    · rw [if_neg h, inR_cons, ih]
      constructor
      · exact fun h => ⟨.inr h.1, h.2⟩
      · rintro ⟨h | h, h2⟩
        · omega
        · exact ⟨h, h2⟩
/-! ### maximal ranges -/
def GAsc : Int → Rg → Prop
  | _, [] => True
  | lo, (a, b) :: r => lo ≤ a ∧ a ≤ b ∧ GAsc (b + 2) r
theorem GAsc.low {lo lo' : Int} : ∀ {r : Rg}, GAsc lo r → lo' ≤ lo → GAsc lo' r
  | [], _, _ => trivial
  | (a, b) :: r, ⟨h1, h2, h3⟩, h => ⟨by omega, h2, h3⟩
theorem GAsc.mov {d : Int} : ∀ {r : Rg} {lo : Int}, GAsc lo r → GAsc (lo + d) (movR r d)
  | [], _, _ => trivial
  | (a, b) :: r, _, ⟨h1, h2, h3⟩ => by
    have h := GAsc.mov (d := d) h3
    exact ⟨by omega, by omega, by rw [show b + d + 2 = b + 2 + d by omega]; exact h⟩
theorem GAsc.bound {n : Int} : ∀ {r : Rg} {lo : Int}, GAsc lo r → inR r n → lo ≤ n
  | [], _, _, h => absurd h inR_nil
  | (a, b) :: r, _, ⟨h1, h2, h3⟩, h => by
    rcases inR_cons.mp h with h | h
    · omega
    · have := GAsc.bound h3 h
      omega
theorem GAsc.none_stay {z : Int} : ∀ {r : Rg} {lo : Int}, GAsc lo r → z < lo → stayR r z = []
  | [], _, _, _ => rfl
  | (a, b) :: r, lo, ⟨h1, h2, h3⟩, h => by
    rw [stayR_cons, if_neg (by omega)]
    exact GAsc.none_stay h3 (by omega)
theorem GAsc.stay {z : Int} : ∀ {r : Rg} {lo : Int}, GAsc lo r → GAsc lo (stayR r z)
  | [], _, _ => trivial
  | (a, b) :: r, lo, ⟨h1, h2, h3⟩ => by
    rw [stayR_cons]
    by_cases hc : a ≤ z
    · rw [if_pos hc]
      by_cases hb : z < b
      · rw [if_pos hb, GAsc.none_stay h3 (by omega)]
        exact ⟨h1, hc, trivial⟩
      · rw [if_neg hb]
        exact ⟨h1, h2, GAsc.stay h3⟩
    · rw [if_neg hc]
      exact (GAsc.stay h3).low (by omega)
theorem GAsc.leave {z lo' : Int} : ∀ {r : Rg} {lo : Int}, GAsc lo r → (lo' ≤ lo ∨ lo' ≤ z + 1) → GAsc lo' (leavR r z)
  | [], _, _, _ => trivial
  | (a, b) :: r, lo, ⟨h1, h2, h3⟩, hl => by
    rw [leavR_cons]
    by_cases hc : z < b
    · rw [if_pos hc]
      have tail : GAsc (b + 2) (leavR r z) := GAsc.leave h3 (.inl (by omega))
      by_cases hb : z + 1 > a
      · rw [if_pos hb]
        exact ⟨by omega, by omega, tail⟩
      · rw [if_neg hb]
        exact ⟨by omega, h2, tail⟩
    · rw [if_neg hc]
      exact GAsc.leave h3 (by omega)
theorem GAsc.app {lo2 : Int} {s : Rg} (hs : GAsc lo2 s) : ∀ {r : Rg} {lo : Int}, GAsc lo r → (∀ n, inR r n → n + 2 ≤ lo2) → lo ≤ lo2 → GAsc lo (r ++ s)
  | [], _, _, _, hl => hs.low hl
  | (a, b) :: r, lo, ⟨h1, h2, h3⟩, hn, hl => by
    refine ⟨h1, h2, GAsc.app hs h3 (fun n h => hn n (inR_cons.mpr (.inr h))) ?_⟩
    have := hn b (inR_cons.mpr (.inl ⟨h2, Int.le_refl _⟩))
    omega
theorem GAsc.asc {hi : Int} : ∀ {r : Rg} {lo : Int}, GAsc lo r → (∀ n, inR r n → n ≤ hi) → Asc lo r hi
  | [], _, _, _ => trivial
  | (a, b) :: r, lo, ⟨h1, h2, h3⟩, hn => ⟨h1, h2, hn b (inR_cons.mpr (.inl ⟨h2, Int.le_refl _⟩)), (GAsc.asc h3 fun n h => hn n (inR_cons.mpr (.inr h))).low (by omega)⟩
theorem GAsc.lowest {r : Rg} {lo : Int} (h : GAsc lo r) (hne : r ≠ []) : inR r (lowOf r) ∧ ∀ n, inR r n → lowOf r ≤ n := by
  cases r with
  | nil => exact absurd rfl hne
  | cons p r =>
    obtain ⟨a, b⟩ := p
    obtain ⟨h1, h2, h3⟩ := h
    refine ⟨inR_cons.mpr (.inl ⟨Int.le_refl _, h2⟩), fun n hn => ?_⟩
    show a ≤ n
    rcases inR_cons.mp hn with hn | hn
    · exact hn.1
    · have := GAsc.bound h3 hn
      omega
theorem GAsc.ne {r : Rg} {lo : Int} (h : GAsc lo r) (hne : r ≠ []) : ∃ n, inR r n := ⟨_, (h.lowest hne).1⟩
theorem canon : ∀ {r s : Rg} {lo lo' : Int}, GAsc lo r → GAsc lo' s → (∀ n, inR r n ↔ inR s n) → r = s
  | [], [], _, _, _, _, _ => rfl
  | [], (a, b) :: s, _, _, _, h, e => absurd ((e a).mpr (inR_cons.mpr (.inl ⟨Int.le_refl _, h.2.1⟩))) inR_nil
  | (a, b) :: r, [], _, _, h, _, e => absurd ((e a).mp (inR_cons.mpr (.inl ⟨Int.le_refl _, h.2.1⟩))) inR_nil
  | (a, b) :: r, (a', b') :: s, _, _, h, h', e => by
    have l1 := (h.lowest (by simp)).2
    have l2 := (h'.lowest (by simp)).2
    obtain ⟨h1, h2, h3⟩ := h
    obtain ⟨g1, g2, g3⟩ := h'
    have ha : a = a' := by
      have x1 : a ≤ a' := l1 a' ((e a').mpr (inR_cons.mpr (.inl ⟨Int.le_refl _, g2⟩)))
      have x2 : a' ≤ a := l2 a ((e a).mp (inR_cons.mpr (.inl ⟨Int.le_refl _, h2⟩)))
      omega
    have hb : b = b' := by
      by_cases x : b < b'
      · have := (e (b + 1)).mpr (inR_cons.mpr (.inl ⟨by omega, by omega⟩))
        rcases inR_cons.mp this with this | this
        · omega
        · have := GAsc.bound h3 this
          omega
      · by_cases y : b' < b
        · have := (e (b' + 1)).mp (inR_cons.mpr (.inl ⟨by omega, by omega⟩))
          rcases inR_cons.mp this with this | this
          · omega
          · have := GAsc.bound g3 this
            omega
        · omega
    subst ha hb
    rw [canon h3 g3 fun n => ?_]
    have en := e n
    rw [inR_cons, inR_cons] at en
    constructor
    · intro hn
      have := GAsc.bound h3 hn
      rcases en.mp (.inr hn) with x | x
      · omega
      · exact x
    · intro hn
      have := GAsc.bound g3 hn
      rcases en.mpr (.inr hn) with x | x
      · omega
      · exact x
/-! ### levels -/
def nextRs (v : Lv) (w z : Int) : Rg := movR (leavR v.rs z) (-(2 ^ w.toNat)) ++ stayR v.rs z
inductive Good (w0 : Int) : List Lv → Lv → Prop
  | one : 1 ≤ w0 → Good w0 [] ⟨w0, 0, [(0, 2 ^ w0.toNat - 1)]⟩
  | snoc {l : List Lv} {v : Lv} {w z : Int} : Good w0 l v → v.w < w → leavR v.rs z ≠ [] → lowOf v.rs ≤ z → Good w0 (l ++ [v]) ⟨w, cntR (stayR v.rs z), nextRs v w z⟩
theorem inR_next {v : Lv} {w z n : Int} : inR (nextRs v w z) n ↔ (inR v.rs (n + 2 ^ w.toNat) ∧ z < n + 2 ^ w.toNat) ∨ (inR v.rs n ∧ n ≤ z) := by
  unfold nextRs
  rw [inR_app, inR_mov, inR_leav, inR_stay, show n - -(2 ^ w.toNat : Int) = n + 2 ^ w.toNat by omega]
/-- what a level keeps -/
structure LP (w0 : Int) (v : Lv) : Prop where
  ne : v.rs ≠ []
  w1 : 1 ≤ v.w
  wge : w0 ≤ v.w
  p1 : 1 ≤ w0
  gasc : GAsc (lowOf v.rs) v.rs
  span : ∀ n, inR v.rs n → n ≤ lowOf v.rs + 2 ^ v.w.toNat - 1
  res : ∀ n m, inR v.rs n → inR v.rs m → (2 : Int) ^ w0.toNat ∣ n - m → n = m
  cnt : cntR v.rs = 2 ^ w0.toNat
theorem LP.low {w0 : Int} {v : Lv} (h : LP w0 v) : inR v.rs (lowOf v.rs) ∧ ∀ n, inR v.rs n → lowOf v.rs ≤ n := h.gasc.lowest h.ne
theorem LP.near {w0 : Int} {v : Lv} (h : LP w0 v) {a b : Int} (ha : inR v.rs a) (hb : inR v.rs b) : a - b ≤ 2 ^ v.w.toNat - 1 := by
  have := h.span a ha
  have := h.low.2 b hb
  omega
theorem half_le {v w : Int} (h1 : 1 ≤ v) (h : v < w) : (2 : Int) ^ v.toNat ≤ 2 ^ (w - 1).toNat ∧ (2 : Int) ^ w.toNat = 2 * 2 ^ (w - 1).toNat ∧ (2 : Int) ≤ 2 ^ v.toNat := by
  refine ⟨two_mono (by omega), half_two (by omega), ?_⟩
  have : (2 : Int) ^ (1 : Int).toNat ≤ 2 ^ v.toNat := two_mono h1
  exact this
theorem lp_next {w0 : Int} {v : Lv} {w z : Int} (h : LP w0 v) (hw : v.w < w) (hl : leavR v.rs z ≠ []) (hz : lowOf v.rs ≤ z) : LP w0 ⟨w, cntR (stayR v.rs z), nextRs v w z⟩ := by
  obtain ⟨e1, e2, e3⟩ := half_le h.w1 hw
  obtain ⟨lw1, lw2⟩ := h.low
  have gl : GAsc (lowOf v.rs) (leavR v.rs z) := h.gasc.leave (.inl (Int.le_refl _))
  obtain ⟨m, hm⟩ := gl.ne hl
  have hm' := inR_leav.mp hm
  have sp : ∀ n, inR v.rs n → n ≤ lowOf v.rs + 2 ^ v.w.toNat - 1 := h.span
  have hne : nextRs v w z ≠ [] := fun e => by
    have : inR (nextRs v w z) (m - 2 ^ w.toNat) := inR_next.mpr (.inl (by rw [show m - 2 ^ w.toNat + 2 ^ w.toNat = m by omega]; exact hm'))
    rw [e] at this
    exact inR_nil this
  have ga : ∃ lo, GAsc lo (nextRs v w z) := by
    refine ⟨lowOf v.rs + -(2 ^ w.toNat), GAsc.app (lo2 := lowOf v.rs) h.gasc.stay gl.mov (fun n hn => ?_) (by omega)⟩
    have hn := (inR_leav.mp (inR_mov.mp hn)).1
    have := sp _ hn
    omega
  obtain ⟨lo, ga⟩ := ga
  obtain ⟨b1, b2⟩ := ga.lowest hne
  have ga' : GAsc (lowOf (nextRs v w z)) (nextRs v w z) := by
    cases hr : nextRs v w z with
    | nil => exact absurd hr hne
    | cons p r =>
      rw [hr] at ga
      exact ⟨Int.le_refl _, ga.2.1, ga.2.2⟩
  refine ⟨hne, by show 1 ≤ w; have := h.w1; omega, by show w0 ≤ w; have := h.wge; omega, h.p1, ga', fun n hn => ?_, fun n k hn hk hd => ?_, ?_⟩
  · show n ≤ lowOf (nextRs v w z) + 2 ^ w.toNat - 1
    have d : ∀ a b, inR (nextRs v w z) a → inR (nextRs v w z) b → a - b ≤ 2 ^ w.toNat - 1 := fun a b ha hb => by
      rcases inR_next.mp ha with ⟨x1, x2⟩ | ⟨x1, x2⟩ <;> rcases inR_next.mp hb with ⟨y1, y2⟩ | ⟨y1, y2⟩
      · have := sp _ x1; have := lw2 _ y1; omega
      · have := sp _ x1; have := lw2 _ y1; omega
      · have := lw2 _ y1; omega
      · have := sp _ x1; have := lw2 _ y1; omega
    have := d n _ hn b1
    omega
  · have dv : (2 : Int) ^ w0.toNat ∣ 2 ^ w.toNat := two_dvd (by have := h.wge; have := h.p1; omega)
    rcases inR_next.mp hn with ⟨x1, x2⟩ | ⟨x1, x2⟩ <;> rcases inR_next.mp hk with ⟨y1, y2⟩ | ⟨y1, y2⟩
    · have := h.res _ _ x1 y1 (by rw [show n + 2 ^ w.toNat - (k + 2 ^ w.toNat) = n - k by omega]; exact hd)
      omega
    · have := h.res _ _ x1 y1 (by rw [show n + 2 ^ w.toNat - k = n - k + 2 ^ w.toNat by omega]; exact Int.dvd_add hd dv)
      omega
    · have := h.res _ _ x1 y1 (by rw [show n - (k + 2 ^ w.toNat) = n - k - 2 ^ w.toNat by omega]; exact Int.dvd_sub hd dv)
      omega
    · exact h.res _ _ x1 y1 hd
  · show cntR (nextRs v w z) = _
    unfold nextRs
    have := parts_cnt (z := z) (h.gasc.asc sp)
    rw [cntR_app, cntR_mov, ← h.cnt]
    omega
theorem Good.lp {w0 : Int} {l : List Lv} {v : Lv} (h : Good w0 l v) : LP w0 v := by
  induction h with
  | one h =>
    have p := two_pos w0.toNat
    have lw : lowOf ([(0, 2 ^ w0.toNat - 1)] : Rg) = 0 := rfl
    refine ⟨by simp, h, Int.le_refl _, h, ⟨Int.le_refl _, by omega, trivial⟩, fun n hn => ?_, fun n m hn hm hd => ?_, ?_⟩
    · rw [lw]
      rcases inR_cons.mp hn with hn | hn
      · show n ≤ 0 + 2 ^ w0.toNat - 1
        omega
      · exact absurd hn inR_nil
    · rcases inR_cons.mp hn with hn | hn
      case inr => exact absurd hn inR_nil
      rcases inR_cons.mp hm with hm | hm
      case inr => exact absurd hm inR_nil
      obtain ⟨k, hk⟩ := hd
      have k0 : k = 0 := by
        by_cases c1 : 1 ≤ k
        · have : 2 ^ w0.toNat * 1 ≤ 2 ^ w0.toNat * k := Int.mul_le_mul_of_nonneg_left c1 (by omega)
          omega
        · by_cases c2 : k ≤ -1
          · have : 2 ^ w0.toNat * k ≤ 2 ^ w0.toNat * -1 := Int.mul_le_mul_of_nonneg_left c2 (by omega)
            omega
          · omega
      rw [k0] at hk
      omega
    · rw [cntR_cons]
      have : cntR [] = 0 := rfl
      dsimp only
      omega
  | snoc _ hw hl hz ih => exact lp_next ih hw hl hz
theorem good_pop {w0 : Int} {l : List Lv} {v : Lv} (n : Int) (h : Good w0 l v) : popS (l ++ [v]) n = [] ∨ ∃ l' v', popS (l ++ [v]) n = l' ++ [v'] ∧ Good w0 l' v' := by
  induction h with
  | one h1 =>
    rw [popS_snoc]
    split
    · exact .inl rfl
    · exact .inr ⟨_, _, rfl, .one h1⟩
  | snoc h hw hl hz ih =>
    rw [popS_snoc]
    split
    · exact ih
    · exact .inr ⟨_, _, rfl, .snoc h hw hl hz⟩
theorem good_head {w0 : Int} {l : List Lv} {v : Lv} (h : Good w0 l v) : ∃ u r, l ++ [v] = u :: r ∧ u.w = w0 := by
  induction h with
  | one _ => exact ⟨_, _, rfl, rfl⟩
  | snoc _ _ _ _ ih =>
    obtain ⟨u, r, e, hu⟩ := ih
    exact ⟨u, r ++ [_], by rw [e]; rfl, hu⟩
theorem good_w {w0 : Int} {l : List Lv} {v : Lv} (h : Good w0 l v) : ∀ u ∈ l, u.w < v.w := by
  induction h with
  | one _ => exact fun u hu => nomatch hu
  | @snoc l v w z h hw _ _ ih =>
    intro u hu
    show u.w < w
    rcases List.mem_append.mp hu with hu | hu
    · have := ih u hu
      omega
    · rw [List.mem_singleton.mp hu]
      exact hw
theorem pop_split (n : Int) : ∀ lv : List Lv, ∃ r, lv = popS lv n ++ r ∧ ∀ u r', r = u :: r' → n ≤ u.w := by
  intro lv
  induction hk : lv.length generalizing lv with
  | zero =>
    have : lv = [] := List.length_eq_zero_iff.mp hk
    exact ⟨[], by rw [this]; rfl, fun _ _ h => nomatch h⟩
  | succ k ih =>
    rcases List.eq_nil_or_concat lv with rfl | ⟨l0, v, rfl⟩
    · cases hk
    · rw [List.concat_eq_append] at *
      rw [popS_snoc]
      by_cases h : n ≤ v.w
      · rw [if_pos h]
        obtain ⟨r, hr, hh⟩ := ih l0 (by simpa using hk)
        refine ⟨r ++ [v], by rw [← List.append_assoc, ← hr], fun u r' e => ?_⟩
        cases r with
        | nil => cases e; exact h
        | cons a b => cases e; exact hh _ _ rfl
      · rw [if_neg h]
        exact ⟨[], (List.append_nil _).symm, fun _ _ h => nomatch h⟩
/-! ### the function -/
def SG (S : Spr) : Prop := S.lv = [] ∨ ∃ w0 l v, S.lv = l ++ [v] ∧ Good w0 l v
def Vin (lv : List Lv) (off : Int) (f : Int → Int) : Prop := ∀ l1 v l2, lv = l1 ++ v :: l2 → ∀ y, ∃ n, inR v.rs n ∧ match l2 with
  | [] => f y = n + off
  | u :: _ => (2 : Int) ^ u.w.toNat ∣ f y - (n + off)
structure VF (S : Spr) (f : Int → Int) : Prop where
  sg : SG S
  nil : S.lv = [] → S.off = S.tot ∧ ∀ y, f y = y + S.tot
  vin : Vin S.lv S.off f
  mod : ∀ u r, S.lv = u :: r → ∀ y, (2 : Int) ^ u.w.toNat ∣ f y - (y + S.tot)
theorem VF.new : VF Spr.new fun y => y := ⟨.inl rfl, fun _ => ⟨rfl, fun y => (Int.add_zero y).symm⟩, fun l1 v l2 e => (by cases l1 <;> cases e), fun u r e => (nomatch e)⟩
theorem cast_win {y m : Int} {x : Str} {n : Int} (h : (2 : Int) ^ n.toNat ∣ y - m) (h0 : lowI x n ≤ m) (h1 : m < lowI x n + 2 ^ n.toNat) : castI y x n = m := by
  rw [cast_same (y := m) (Int.emod_eq_emod_iff_emod_sub_eq_zero.mpr (Int.emod_eq_zero_of_dvd h))]
  exact cast_fix h0 h1
theorem VF.add {S : Spr} {f : Int → Int} (h : VF S f) (c : Int) : VF ⟨S.lv, S.off + c, S.tot + c⟩ fun y => f y + c := by
  refine ⟨h.sg, fun e => ?_, fun l1 v l2 e y => ?_, fun u r e y => ?_⟩
  · obtain ⟨a, b⟩ := h.nil e
    exact ⟨by show S.off + c = S.tot + c; omega, fun y => by show f y + c = y + (S.tot + c); rw [b y]; omega⟩
  · obtain ⟨n, hn, q⟩ := h.vin l1 v l2 e y
    refine ⟨n, hn, ?_⟩
    cases l2 with
    | nil =>
      have q : f y = n + S.off := q
      show f y + c = n + (S.off + c)
      omega
    | cons u l2 =>
      have q : (2 : Int) ^ u.w.toNat ∣ f y - (n + S.off) := q
      show (2 : Int) ^ u.w.toNat ∣ f y + c - (n + (S.off + c))
      rw [show f y + c - (n + (S.off + c)) = f y - (n + S.off) by omega]
      exact q
  · have := h.mod u r e y
    show (2 : Int) ^ u.w.toNat ∣ f y + c - (y + (S.tot + c))
    rw [show f y + c - (y + (S.tot + c)) = f y - (y + S.tot) by omega]
    exact this
theorem VF.cast {S : Spr} {f : Int → Int} (h : VF S f) {x : Str} {n : Int} (hx : ¬ x = "add") (n0 : 1 ≤ n) : VF (takeS S x n) fun y => castI (f y) x n := by
  obtain ⟨r, hr, hh⟩ := pop_split n S.lv
  have dc : ∀ y, (2 : Int) ^ n.toNat ∣ castI (f y) x n - f y := fun y => cast_dvd _ _ _
  -- what is left of the levels, up to 2 ^ n
  have vp : ∀ l1 v l2, popS S.lv n = l1 ++ v :: l2 → ∀ y, ∃ m, inR v.rs m ∧ match l2 with
      | [] => (2 : Int) ^ n.toNat ∣ f y - (m + S.off)
      | u :: _ => (2 : Int) ^ u.w.toNat ∣ f y - (m + S.off) := fun l1 v l2 e y => by
    rw [e] at hr
    obtain ⟨m, hm, q⟩ := h.vin l1 v (l2 ++ r) (by rw [hr]; simp) y
    refine ⟨m, hm, ?_⟩
    cases l2 with
    | nil =>
      show (2 : Int) ^ n.toNat ∣ f y - (m + S.off)
      cases r with
      | nil =>
        have q : f y = m + S.off := q
        rw [q, Int.sub_self]
        exact ⟨0, by omega⟩
      | cons u r =>
        have q : (2 : Int) ^ u.w.toNat ∣ f y - (m + S.off) := q
        exact Int.dvd_trans (two_dvd (by have := hh u r rfl; omega)) q
    | cons u l2 => exact q
  unfold takeS
  rw [if_neg hx]
  have sg : popS S.lv n = [] ∨ ∃ w0 l v, popS S.lv n = l ++ [v] ∧ Good w0 l v := by
    rcases h.sg with e | ⟨w0, l, v, e, hg⟩
    · rw [e]; exact .inl rfl
    · rw [e]
      rcases good_pop n hg with e | ⟨l', v', e, hg'⟩
      · exact .inl e
      · exact .inr ⟨w0, l', v', e, hg'⟩
  rcases sg with e | ⟨w0, l, v, e, hg⟩
  · rw [e]
    show VF ⟨[⟨n, 0, [(0, 2 ^ n.toNat - 1)]⟩], lowI x n, S.tot⟩ fun y => castI (f y) x n
    refine ⟨.inr ⟨n, [], _, rfl, .one n0⟩, fun e => (nomatch e), fun l1 v l2 e2 y => ?_, fun u r' e2 y => ?_⟩
    · have lo := cast_lo (f y) x n
      have hi := cast_hi (f y) x n
      cases l1 with
      | nil =>
        cases e2
        refine ⟨castI (f y) x n - lowI x n, inR_cons.mpr (.inl ⟨by omega, by omega⟩), ?_⟩
        show castI (f y) x n = castI (f y) x n - lowI x n + lowI x n
        omega
      | cons a l1 => cases l1 <;> cases e2
    · cases e2
      show (2 : Int) ^ n.toNat ∣ castI (f y) x n - (y + S.tot)
      have d2 : (2 : Int) ^ n.toNat ∣ f y - (y + S.tot) := by
        rw [e, List.nil_append] at hr
        cases r with
        | nil =>
          rw [(h.nil hr).2 y, Int.sub_self]
          exact ⟨0, by omega⟩
        | cons u r => exact Int.dvd_trans (two_dvd (by have := hh u r rfl; omega)) (h.mod u r hr y)
      have := Int.dvd_add (dc y) d2
      rwa [show castI (f y) x n - f y + (f y - (y + S.tot)) = castI (f y) x n - (y + S.tot) by omega] at this
  · have hv : (popS S.lv n).getLast? = some v := by rw [e]; simp
    have vw : v.w < n := popS_last hv
    have lp := hg.lp
    obtain ⟨e1, e2, e3⟩ := half_le lp.w1 vw
    obtain ⟨lw1, lw2⟩ := lp.low
    rw [hv]
    show VF (wider ⟨popS S.lv n, S.off, S.tot⟩ v x n) fun y => castI (f y) x n
    unfold wider
    dsimp only
    generalize ho : castI (lowOf v.rs + S.off) x n - lowOf v.rs = o
    have c1 := cast_lo (lowOf v.rs + S.off) x n
    have c2 := cast_hi (lowOf v.rs + S.off) x n
    have od : (2 : Int) ^ n.toNat ∣ o - S.off := by
      have := cast_dvd (lowOf v.rs + S.off) x n
      rwa [show castI (lowOf v.rs + S.off) x n - (lowOf v.rs + S.off) = o - S.off by omega] at this
    generalize hz : lowI x n + 2 ^ n.toNat - 1 - o = z
    have lz : lowOf v.rs ≤ z := by omega
    obtain ⟨u0, r0, hu0, hw0⟩ := good_head hg
    have small : ∀ u ∈ l ++ [v], u.w < n := fun u hu => by
      rcases List.mem_append.mp hu with hu | hu
      · have := good_w hg u hu
        omega
      · rw [List.mem_singleton.mp hu]; exact vw
    have pos : ∀ u : Lv, u.w < n → (2 : Int) ^ u.w.toNat ∣ 2 ^ n.toNat := fun u hu => two_dvd (by omega)
    -- levels ahead of another one
    have mid : ∀ l1 v' u l2, l ++ [v] = l1 ++ v' :: u :: l2 → ∀ y, ∃ m, inR v'.rs m ∧ (2 : Int) ^ u.w.toNat ∣ castI (f y) x n - (m + o) := fun l1 v' u l2 e3 y => by
      obtain ⟨m, hm, q⟩ := vp l1 v' (u :: l2) (e.trans e3) y
      have q : (2 : Int) ^ u.w.toNat ∣ f y - (m + S.off) := q
      have hu := pos u (small u (by rw [e3]; simp))
      refine ⟨m, hm, ?_⟩
      have t := Int.dvd_add (Int.dvd_sub (Int.dvd_trans hu (dc y)) (Int.dvd_trans hu od)) q
      rwa [show castI (f y) x n - f y - (o - S.off) + (f y - (m + S.off)) = castI (f y) x n - (m + o) by omega] at t
    have last : ∀ y, ∃ m, inR v.rs m ∧ (2 : Int) ^ n.toNat ∣ castI (f y) x n - (m + o) ∧ (m ≤ z → castI (f y) x n = m + o) ∧ (z < m → castI (f y) x n = m - 2 ^ n.toNat + o) := fun y => by
      obtain ⟨m, hm, q⟩ := vp l v [] e y
      have q : (2 : Int) ^ n.toNat ∣ f y - (m + S.off) := q
      have m1 := lw2 m hm
      have m2 := lp.span m hm
      have q2 : (2 : Int) ^ n.toNat ∣ f y - (m + o) := by
        have := Int.dvd_sub q od
        rwa [show f y - (m + S.off) - (o - S.off) = f y - (m + o) by omega] at this
      refine ⟨m, hm, ?_, fun hle => cast_win q2 (by omega) (by omega), fun hlt => ?_⟩
      · have t := Int.dvd_add (dc y) q2
        rwa [show castI (f y) x n - f y + (f y - (m + o)) = castI (f y) x n - (m + o) by omega] at t
      · refine cast_win ?_ (by omega) (by omega)
        rw [show f y - (m - 2 ^ n.toNat + o) = f y - (m + o) + 2 ^ n.toNat by omega]
        exact Int.dvd_add q2 (Int.dvd_refl _)
    have modw : ∀ y, (2 : Int) ^ u0.w.toNat ∣ castI (f y) x n - (y + S.tot) := fun y => by
      have hu := pos u0 (small u0 (by rw [hu0]; simp))
      have : S.lv = u0 :: (r0 ++ r) := by rw [hr, e, hu0]; rfl
      have t := Int.dvd_add (Int.dvd_trans hu (dc y)) (h.mod u0 _ this y)
      rwa [show castI (f y) x n - f y + (f y - (y + S.tot)) = castI (f y) x n - (y + S.tot) by omega] at t
    by_cases hc : leavR v.rs z = []
    · rw [if_pos hc]
      refine ⟨.inr ⟨w0, l, v, e, hg⟩, fun e3 => ?_, fun l1 v' l2 e3 y => ?_, fun u r' e3 y => ?_⟩
      · have e3 : popS S.lv n = [] := e3
        rw [e] at e3
        simp at e3
      · have e3 : popS S.lv n = l1 ++ v' :: l2 := e3
        rw [e] at e3
        cases l2 with
        | nil =>
          obtain ⟨e4, e5⟩ := List.append_inj' e3 rfl
          cases e5
          obtain ⟨m, hm, _, q, _⟩ := last y
          refine ⟨m, hm, ?_⟩
          show castI (f y) x n = m + o
          refine q (Decidable.byContradiction fun hn => ?_)
          have : inR (leavR v.rs z) m := inR_leav.mpr ⟨hm, by omega⟩
          rw [hc] at this
          exact inR_nil this
        | cons u l2 => exact mid l1 v' u l2 e3 y
      · have e3 : popS S.lv n = u :: r' := e3
        rw [e, hu0] at e3
        cases e3
        exact modw y
    · rw [if_neg hc]
      refine ⟨.inr ⟨w0, l ++ [v], _, by show popS S.lv n ++ [_] = _; rw [e]; rfl, .snoc hg vw hc lz⟩, fun e3 => ?_, fun l1 v' l2 e3 y => ?_, fun u r' e3 y => ?_⟩
      · have e3 : popS S.lv n ++ [_] = [] := e3
        simp at e3
      · have e3 : popS S.lv n ++ [_] = l1 ++ v' :: l2 := e3
        rw [e] at e3
        cases l2 with
        | nil =>
          obtain ⟨e4, e5⟩ := List.append_inj' e3 rfl
          cases e5
          obtain ⟨m, hm, _, q, q'⟩ := last y
          by_cases hmz : m ≤ z
          · exact ⟨m, inR_next.mpr (.inr ⟨hm, hmz⟩), q hmz⟩
          · exact ⟨m - 2 ^ n.toNat, inR_next.mpr (.inl (by rw [show m - 2 ^ n.toNat + 2 ^ n.toNat = m by omega]; exact ⟨hm, by omega⟩)), q' (by omega)⟩
        | cons u l2 =>
          rcases List.eq_nil_or_concat l2 with rfl | ⟨l3, u', rfl⟩
          · obtain ⟨e4, e5⟩ := List.append_inj' (s₂ := l1 ++ [v']) (t₂ := [u]) (e3.trans (by simp)) rfl
            obtain ⟨e6, e7⟩ := List.append_inj' e4 rfl
            cases e5
            cases e7
            obtain ⟨m, hm, q, _⟩ := last y
            exact ⟨m, hm, q⟩
          · rw [List.concat_eq_append] at e3
            obtain ⟨e4, e5⟩ := List.append_inj' (s₂ := l1 ++ v' :: u :: l3) (t₂ := [u']) (e3.trans (by simp)) rfl
            exact mid l1 v' u l3 e4 y
      · have e3 : popS S.lv n ++ [_] = u :: r' := e3
        rw [e, hu0] at e3
        cases e3
        exact modw y
theorem VF.step {S : Spr} {f : Int → Int} (h : VF S f) {x : Str} {n : Int} (ok : okS (x, n) = true) : VF (takeS S x n) fun y => stepI (f y) (x, n) := by
  by_cases hx : x = "add"
  · have e1 : takeS S x n = ⟨S.lv, S.off + n, S.tot + n⟩ := if_pos hx
    have e2 : (fun y => stepI (f y) (x, n)) = fun y => f y + n := by
      funext y
      exact if_pos hx
    rw [e1, e2]
    exact h.add n
  · have e2 : (fun y => stepI (f y) (x, n)) = fun y => castI (f y) x n := by
      funext y
      exact if_neg hx
    rw [e2]
    exact h.cast hx (isC_of ok hx)
theorem VF.steps : ∀ {c : Ch} {S : Spr} {f : Int → Int}, VF S f → (∀ s ∈ c, okS s = true) → VF (c.foldl (fun S s => takeS S s.1 s.2) S) fun y => convI (f y) c
  | [], _, _, h, _ => h
  | (x, n) :: c, S, f, h, ok => VF.steps (c := c) (h.step (ok _ (List.mem_cons_self ..))) fun s hs => ok s (List.mem_cons_of_mem _ hs)
/-- the levels of a chain are its function's -/
theorem vf_chain {c : Ch} (ok : ∀ s ∈ c, okS s = true) : VF (c.foldl (fun S s => takeS S s.1 s.2) Spr.new) fun y => convI y c := VF.new.steps ok
end Cc

set_option Elab.async false
set_option linter.all false
set_option maxRecDepth 100000
set_option maxHeartbeats 1000000
/-! The levels are told by the values. -/
namespace Cc
open PySem PySem.Spec PyProof.Rows L2
section
variable {S S' : Spr} {f f' : Int → Int} {w0 : Int} {l : List Lv} {v : Lv}
theorem VF.in_last (h : VF S f) (e : S.lv = l ++ [v]) (y : Int) : inR v.rs (f y - S.off) := by
  obtain ⟨n, hn, q⟩ := h.vin l v [] e y
  have q : f y = n + S.off := q
  rw [q, show n + S.off - S.off = n by omega]
  exact hn
theorem VF.rest (h : VF S f) (e : S.lv = l ++ [v]) (hg : Good w0 l v) (y : Int) : (2 : Int) ^ w0.toNat ∣ f y - (y + S.tot) := by
  obtain ⟨u, r, e2, hu⟩ := good_head hg
  rw [← hu]
  exact h.mod u r (e.trans e2) y
/-- each number goes to the value with its rest -/
theorem VF.unique (h : VF S f) (e : S.lv = l ++ [v]) (hg : Good w0 l v) {y n : Int} (hn : inR v.rs n) (hd : (2 : Int) ^ w0.toNat ∣ n + S.off - (y + S.tot)) : f y = n + S.off := by
  have h1 := h.in_last e y
  have h2 := h.rest e hg y
  have := hg.lp.res _ _ h1 hn (by
    have t := Int.dvd_sub h2 hd
    rwa [show f y - (y + S.tot) - (n + S.off - (y + S.tot)) = f y - S.off - n by omega] at t)
  omega
theorem VF.onto (h : VF S f) (e : S.lv = l ++ [v]) (hg : Good w0 l v) {n : Int} (hn : inR v.rs n) : f (n + S.off - S.tot) = n + S.off :=
  h.unique e hg hn ⟨0, by omega⟩
theorem VF.periodic (h : VF S f) (e : S.lv = l ++ [v]) (hg : Good w0 l v) {y z : Int} (hd : (2 : Int) ^ w0.toNat ∣ y - z) : f y = f z := by
  have h1 := h.unique e hg (h.in_last e z) (y := y) (by
    have t := Int.dvd_sub (h.rest e hg z) hd
    rwa [show f z - (z + S.tot) - (y - z) = f z - S.off + S.off - (y + S.tot) by omega] at t)
  omega
end
/-! ### peeling -/
/-- behind a cut: what moved lies far below what stayed -/
theorem far {w0 : Int} {v : Lv} {w a b : Int} (h : LP w0 v) (hw : v.w < w) (ha : inR v.rs a) (hb : inR v.rs (b + 2 ^ w.toNat)) : 2 ^ (w - 1).toNat < a - b := by
  obtain ⟨e1, e2, e3⟩ := half_le h.w1 hw
  have := h.near hb ha
  omega
theorem close {w0 : Int} {v : Lv} {w a b : Int} (h : LP w0 v) (hw : v.w < w) (ha : inR v.rs a) (hb : inR v.rs b) : a - b < 2 ^ (w - 1).toNat := by
  obtain ⟨e1, e2, e3⟩ := half_le h.w1 hw
  have := h.near ha hb
  omega
theorem next_one {w0 d : Int} {v : Lv} {w z : Int} (h : LP w0 v) (hw : v.w < w) (hl : leavR v.rs z ≠ []) (hz : lowOf v.rs ≤ z) {B : Int} (e : ∀ n, inR (nextRs v w z) n ↔ inR [(0, B)] (n + d)) : False := by
  obtain ⟨e1, e2, e3⟩ := half_le h.w1 hw
  obtain ⟨l1, l2⟩ := h.low
  have gl : GAsc (lowOf v.rs) (leavR v.rs z) := h.gasc.leave (.inl (Int.le_refl _))
  obtain ⟨m, hm⟩ := gl.ne hl
  obtain ⟨m1, m2⟩ := inR_leav.mp hm
  have p := h.span m m1
  have q := l2 m m1
  have a1 : inR (nextRs v w z) (m - 2 ^ w.toNat) := inR_next.mpr (.inl (by rw [show m - 2 ^ w.toNat + 2 ^ w.toNat = m by omega]; exact ⟨m1, m2⟩))
  have a2 : inR (nextRs v w z) (lowOf v.rs) := inR_next.mpr (.inr ⟨l1, hz⟩)
  have c1 := (e _).mp a1
  have c2 := (e _).mp a2
  rcases inR_cons.mp c1 with c1 | c1
  case inr => exact inR_nil c1
  rcases inR_cons.mp c2 with c2 | c2
  case inr => exact inR_nil c2
  have a3 := (e (lowOf v.rs - 1)).mpr (inR_cons.mpr (.inl ⟨by omega, by omega⟩))
  rcases inR_next.mp a3 with ⟨x1, x2⟩ | ⟨x1, x2⟩
  · have := h.span _ x1
    omega
  · have := l2 _ x1
    omega
def keyL (l : List Lv) : List (Int × Int) := l.map fun t => (t.w, t.cut)
theorem keyL_snoc (l : List Lv) (v : Lv) : keyL (l ++ [v]) = keyL l ++ [(v.w, v.cut)] := by
  unfold keyL
  rw [List.map_append]
  rfl
theorem inR_shift {r s : Rg} {d : Int} (e : ∀ n, inR r n ↔ inR s (n + d)) (n : Int) : inR s n ↔ inR r (n + -d) := by
  rw [e, show n + -d + d = n by omega]
theorem next_half {w0 d : Int} {v v' : Lv} {w z w' z' : Int} (h : LP w0 v) (hw : v.w < w) (h' : LP w0 v') (hw' : v'.w < w') (hl : leavR v.rs z ≠ []) (hz : lowOf v.rs ≤ z) (hl' : leavR v'.rs z' ≠ []) (hz' : lowOf v'.rs ≤ z')
    (e : ∀ n, inR (nextRs v w z) n ↔ inR (nextRs v' w' z') (n + d)) : w' ≤ w := by
  by_cases hc : w' ≤ w
  · exact hc
  · obtain ⟨e1, e2, e3⟩ := half_le h'.w1 hw'
    obtain ⟨l1, l2⟩ := h'.low
    have gl : GAsc (lowOf v'.rs) (leavR v'.rs z') := h'.gasc.leave (.inl (Int.le_refl _))
    obtain ⟨m, hm⟩ := gl.ne hl'
    obtain ⟨m1, m2⟩ := inR_leav.mp hm
    have a1 : inR (nextRs v' w' z') (m - 2 ^ w'.toNat) := inR_next.mpr (.inl (by rw [show m - 2 ^ w'.toNat + 2 ^ w'.toNat = m by omega]; exact ⟨m1, m2⟩))
    have a2 : inR (nextRs v' w' z') (lowOf v'.rs) := inR_next.mpr (.inr ⟨l1, hz'⟩)
    have fr := far h' hw' l1 (b := m - 2 ^ w'.toNat) (by rw [show m - 2 ^ w'.toNat + 2 ^ w'.toNat = m by omega]; exact m1)
    have b1 := (e (m - 2 ^ w'.toNat - d)).mpr (by rw [show m - 2 ^ w'.toNat - d + d = m - 2 ^ w'.toNat by omega]; exact a1)
    have b2 := (e (lowOf v'.rs - d)).mpr (by rw [show lowOf v'.rs - d + d = lowOf v'.rs by omega]; exact a2)
    have nr := (lp_next h hw hl hz).near b2 b1
    have : (2 : Int) ^ w.toNat ≤ 2 ^ (w' - 1).toNat := two_mono (by omega)
    have nr : lowOf v'.rs - d - (m - 2 ^ w'.toNat - d) ≤ 2 ^ w.toNat - 1 := nr
    omega
/-- what stayed, told by the values -/
theorem next_stay {w0 d : Int} {v v' : Lv} {w z z' : Int} (h : LP w0 v) (hw : v.w < w) (h' : LP w0 v') (hw' : v'.w < w) (hl : leavR v.rs z ≠ []) (hz : lowOf v.rs ≤ z) (hl' : leavR v'.rs z' ≠ []) (hz' : lowOf v'.rs ≤ z')
    (e : ∀ n, inR (nextRs v w z) n ↔ inR (nextRs v' w z') (n + d)) {n : Int} (hn : inR v.rs n) (hnz : n ≤ z) : inR v'.rs (n + d) ∧ n + d ≤ z' := by
  rcases inR_next.mp ((e n).mp (inR_next.mpr (.inr ⟨hn, hnz⟩))) with ⟨x1, x2⟩ | x
  · exfalso
    obtain ⟨l1, l2⟩ := h'.low
    have a2 : inR (nextRs v' w z') (lowOf v'.rs) := inR_next.mpr (.inr ⟨l1, hz'⟩)
    have b2 := (e (lowOf v'.rs - d)).mpr (by rw [show lowOf v'.rs - d + d = lowOf v'.rs by omega]; exact a2)
    have fr := far h' hw' l1 x1
    have p := two_pos (w - 1).toNat
    rcases inR_next.mp b2 with ⟨y1, y2⟩ | ⟨y1, y2⟩
    · have := far h hw hn y1
      omega
    · have := close h hw y1 hn
      omega
  · exact x
theorem next_move {w0 d : Int} {v v' : Lv} {w z z' : Int} (h : LP w0 v) (hw : v.w < w) (h' : LP w0 v') (hw' : v'.w < w) (hl : leavR v.rs z ≠ []) (hz : lowOf v.rs ≤ z) (hl' : leavR v'.rs z' ≠ []) (hz' : lowOf v'.rs ≤ z')
    (e : ∀ n, inR (nextRs v w z) n ↔ inR (nextRs v' w z') (n + d)) {n : Int} (hn : inR v.rs (n + 2 ^ w.toNat)) (hnz : z < n + 2 ^ w.toNat) : inR v'.rs (n + d + 2 ^ w.toNat) ∧ z' < n + d + 2 ^ w.toNat := by
  rcases inR_next.mp ((e n).mp (inR_next.mpr (.inl ⟨hn, hnz⟩))) with x | ⟨x1, x2⟩
  · exact x
  · exfalso
    have gl : GAsc (lowOf v'.rs) (leavR v'.rs z') := h'.gasc.leave (.inl (Int.le_refl _))
    obtain ⟨m, hm⟩ := gl.ne hl'
    obtain ⟨m1, m2⟩ := inR_leav.mp hm
    have a1 : inR (nextRs v' w z') (m - 2 ^ w.toNat) := inR_next.mpr (.inl (by rw [show m - 2 ^ w.toNat + 2 ^ w.toNat = m by omega]; exact ⟨m1, m2⟩))
    have b1 := (e (m - 2 ^ w.toNat - d)).mpr (by rw [show m - 2 ^ w.toNat - d + d = m - 2 ^ w.toNat by omega]; exact a1)
    have fr := far h' hw' x1 (b := m - 2 ^ w.toNat) (by rw [show m - 2 ^ w.toNat + 2 ^ w.toNat = m by omega]; exact m1)
    have p := two_pos (w - 1).toNat
    rcases inR_next.mp b1 with ⟨y1, y2⟩ | ⟨y1, y2⟩
    · have := close h hw hn y1
      omega
    · have := far h hw y1 hn
      omega
theorem peel {w0 : Int} {l : List Lv} {v : Lv} (h : Good w0 l v) : ∀ {l' : List Lv} {v' : Lv} {d : Int}, Good w0 l' v' → (∀ n, inR v.rs n ↔ inR v'.rs (n + d)) → keyL (l ++ [v]) = keyL (l' ++ [v']) := by
  induction h with
  | one h1 =>
    intro l' v' d h' e
    cases h' with
    | one _ => rfl
    | snoc h' hw' hl' hz' => exact (next_one h'.lp hw' hl' hz' (inR_shift e)).elim
  | @snoc l v w z h hw hl hz ih =>
    intro l' v' d h' e
    cases h' with
    | one _ => exact (next_one h.lp hw hl hz e).elim
    | @snoc l' v' w' z' h' hw' hl' hz' =>
      have lp := h.lp
      have lp' := h'.lp
      have e : ∀ n, inR (nextRs v w z) n ↔ inR (nextRs v' w' z') (n + d) := e
      have e' := inR_shift e
      have ww : w = w' := by
        have a := next_half lp hw lp' hw' hl hz hl' hz' e
        have b := next_half lp' hw' lp hw hl' hz' hl hz e'
        omega
      subst ww
      have st := fun n => next_stay lp hw lp' hw' hl hz hl' hz' e (n := n)
      have st' := fun n => next_stay lp' hw' lp hw hl' hz' hl hz e' (n := n)
      have mv := fun n => next_move lp hw lp' hw' hl hz hl' hz' e (n := n)
      have mv' := fun n => next_move lp' hw' lp hw hl' hz' hl hz e' (n := n)
      have ev : ∀ n, inR v.rs n ↔ inR v'.rs (n + d) := fun n => by
        constructor
        · intro hn
          by_cases hc : n ≤ z
          · exact (st n hn hc).1
          · have := (mv (n - 2 ^ w.toNat) (by rw [show n - 2 ^ w.toNat + 2 ^ w.toNat = n by omega]; exact hn) (by omega)).1
            rwa [show n - 2 ^ w.toNat + d + 2 ^ w.toNat = n + d by omega] at this
        · intro hn
          by_cases hc : n + d ≤ z'
          · have := (st' (n + d) hn hc).1
            rwa [show n + d + -d = n by omega] at this
          · have := (mv' (n + d - 2 ^ w.toNat) (by rw [show n + d - 2 ^ w.toNat + 2 ^ w.toNat = n + d by omega]; exact hn) (by omega)).1
            rwa [show n + d - 2 ^ w.toNat + -d + 2 ^ w.toNat = n by omega] at this
      have es : movR (stayR v.rs z) d = stayR v'.rs z' := canon (lp.gasc.stay.mov) lp'.gasc.stay fun n => by
        rw [inR_mov]
        constructor
        · intro hn
          obtain ⟨a, b⟩ := inR_stay.mp hn
          have := st (n - d) a b
          rw [show n - d + d = n by omega] at this
          exact inR_stay.mpr this
        · intro hn
          obtain ⟨a, b⟩ := inR_stay.mp hn
          have := st' n a b
          rw [show n + -d = n - d by omega] at this
          exact inR_stay.mpr this
      have := ih h' ev
      rw [keyL_snoc (l ++ [v]), keyL_snoc (l' ++ [v']), this]
      have ec : cntR (stayR v.rs z) = cntR (stayR v'.rs z') := by rw [← es, cntR_mov]
      show _ ++ [(w, cntR (stayR v.rs z))] = _ ++ [(w, cntR (stayR v'.rs z'))]
      rw [ec]
/-! ### the same widths and cuts: the same ranges -/
theorem cnt_pos {r : Rg} {lo : Int} (h : GAsc lo r) (hne : r ≠ []) : 1 ≤ cntR r := by
  have : ∀ {r : Rg} {lo : Int}, GAsc lo r → 0 ≤ cntR r := fun {r} => by
    induction r with
    | nil => exact fun _ => Int.le_refl _
    | cons p r ih =>
      intro lo h
      obtain ⟨a, b⟩ := p
      have := ih h.2.2
      have := h.2.1
      rw [cntR_cons]
      dsimp only
      omega
  cases r with
  | nil => exact absurd rfl hne
  | cons p r =>
    obtain ⟨a, b⟩ := p
    have h2 := this h.2.2
    have := h.2.1
    rw [cntR_cons]
    dsimp only
    omega
theorem stay_cnt {w0 : Int} {v : Lv} (h : LP w0 v) {z z' : Int} (hz : z ≤ z') (e : cntR (stayR v.rs z) = cntR (stayR v.rs z')) : ∀ n, inR v.rs n → n ≤ z' → n ≤ z := fun n hn hnz => by
  have g : GAsc (lowOf v.rs) (stayR v.rs z') := h.gasc.stay
  have pc := parts_cnt (z := z) (g.asc (hi := z') fun m hm => (inR_stay.mp hm).2)
  have es : stayR (stayR v.rs z') z = stayR v.rs z := canon g.stay h.gasc.stay fun m => by
    rw [inR_stay, inR_stay, inR_stay]
    constructor
    · exact fun x => ⟨x.1.1, x.2⟩
    · exact fun x => ⟨⟨x.1, by omega⟩, x.2⟩
  rw [es] at pc
  by_cases hc : n ≤ z
  · exact hc
  · have hl : leavR (stayR v.rs z') z ≠ [] := fun x => by
      have : inR (leavR (stayR v.rs z') z) n := inR_leav.mpr ⟨inR_stay.mpr ⟨hn, hnz⟩, by omega⟩
      rw [x] at this
      exact inR_nil this
    have := cnt_pos (g.leave (lo' := lowOf v.rs) (.inl (Int.le_refl _))) hl
    omega
theorem stay_same {w0 : Int} {v : Lv} (h : LP w0 v) {z z' : Int} (e : cntR (stayR v.rs z) = cntR (stayR v.rs z')) : ∀ n, inR v.rs n → (n ≤ z ↔ n ≤ z') := fun n hn => by
  by_cases hz : z ≤ z'
  · exact ⟨fun x => by omega, fun x => stay_cnt h hz e n hn x⟩
  · exact ⟨fun x => stay_cnt h (by omega) e.symm n hn x, fun x => by omega⟩
theorem same_rs {w0 : Int} {l : List Lv} {v : Lv} (h : Good w0 l v) : ∀ {l' : List Lv} {v' : Lv}, Good w0 l' v' → keyL (l ++ [v]) = keyL (l' ++ [v']) → v.rs = v'.rs := by
  induction h with
  | one h1 =>
    intro l' v' h' e
    cases h' with
    | one _ => rfl
    | snoc h' hw' hl' hz' =>
      have := congrArg List.length e
      simp [keyL] at this
  | @snoc l v w z h hw hl hz ih =>
    intro l' v' h' e
    cases h' with
    | one _ =>
      have := congrArg List.length e
      simp [keyL] at this
    | @snoc l' v' w' z' h' hw' hl' hz' =>
      rw [keyL_snoc (l ++ [v]), keyL_snoc (l' ++ [v'])] at e
      obtain ⟨e1, e2⟩ := List.append_inj' e rfl
      have er := ih h' e1
      have lp := h.lp
      have e2 : [(w, cntR (stayR v.rs z))] = [(w', cntR (stayR v'.rs z'))] := e2
      have ew : w = w' := congrArg Prod.fst (List.cons.inj e2).1
      have ec : cntR (stayR v.rs z) = cntR (stayR v'.rs z') := congrArg Prod.snd (List.cons.inj e2).1
      rw [← er] at ec
      have ss := stay_same lp ec
      have es : stayR v.rs z = stayR v.rs z' := canon lp.gasc.stay lp.gasc.stay fun n => by
        rw [inR_stay, inR_stay]
        exact ⟨fun x => ⟨x.1, (ss n x.1).mp x.2⟩, fun x => ⟨x.1, (ss n x.1).mpr x.2⟩⟩
      have el : leavR v.rs z = leavR v.rs z' := canon (lp.gasc.leave (lo' := lowOf v.rs) (.inl (Int.le_refl _))) (lp.gasc.leave (lo' := lowOf v.rs) (.inl (Int.le_refl _))) fun n => by
        rw [inR_leav, inR_leav]
        exact ⟨fun x => ⟨x.1, by have := ss n x.1; omega⟩, fun x => ⟨x.1, by have := ss n x.1; omega⟩⟩
      show nextRs v w z = nextRs v' w' z'
      unfold nextRs
      rw [← er, ← ew, es, el]
/-! ### two functions -/
section
variable {S S' : Spr} {f f' : Int → Int}
theorem dvd_pow {a b : Int} (h1 : 1 ≤ a) (h2 : 1 ≤ b) (h : (2 : Int) ^ a.toNat ∣ 2 ^ b.toNat) : a ≤ b := by
  by_cases c : a ≤ b
  · exact c
  · obtain ⟨e1, e2, e3⟩ := half_le h2 (show b < a by omega)
    obtain ⟨k, hk⟩ := h
    have p := two_pos b.toNat
    have p2 := two_pos a.toNat
    by_cases k0 : k ≤ 0
    · have : (2 : Int) ^ a.toNat * k ≤ 2 ^ a.toNat * 0 := Int.mul_le_mul_of_nonneg_left k0 (by omega)
      omega
    · have : (2 : Int) ^ a.toNat * 1 ≤ 2 ^ a.toNat * k := Int.mul_le_mul_of_nonneg_left (by omega) (by omega)
      omega
/-- what the form tells: no casts and the sum; or the rest, the widths and cuts, and the least value -/
def SameForm (S S' : Spr) : Prop := (S.lv = [] ∧ S'.lv = [] ∧ S.tot = S'.tot) ∨ ∃ u r v u' r' v', S.lv = u :: r ∧ S.lv.getLast? = some v ∧ S'.lv = u' :: r' ∧ S'.lv.getLast? = some v' ∧ u.w = u'.w ∧ keyL S.lv = keyL S'.lv ∧ S.tot % 2 ^ u.w.toNat = S'.tot % 2 ^ u'.w.toNat ∧ lowOf v.rs + S.off = lowOf v'.rs + S'.off
theorem lv_nil (h : VF S f) (h' : VF S' f') (e : ∀ y, f y = f' y) (hn : S.lv = []) : S'.lv = [] := by
  rcases h'.sg with x | ⟨w0, l, v, hl, hg⟩
  · exact x
  · have p := h'.periodic hl hg (y := 2 ^ w0.toNat) (z := 0) ⟨1, by omega⟩
    rw [← e, ← e, (h.nil hn).2, (h.nil hn).2] at p
    have := two_pos w0.toNat
    omega
theorem same_form (h : VF S f) (h' : VF S' f') (e : ∀ y, f y = f' y) : SameForm S S' := by
  by_cases hn : S.lv = []
  · have hn' := lv_nil h h' e hn
    refine .inl ⟨hn, hn', ?_⟩
    have := e 0
    rw [(h.nil hn).2, (h'.nil hn').2] at this
    omega
  · rcases h.sg with x | ⟨w0, l, v, hl, hg⟩
    · exact absurd x hn
    rcases h'.sg with x | ⟨w0', l', v', hl', hg'⟩
    · exact absurd (lv_nil h' h (fun y => (e y).symm) x) hn
    have d1 : (2 : Int) ^ w0.toNat ∣ 2 ^ w0'.toNat := by
      have p := h'.periodic hl' hg' (y := 2 ^ w0'.toNat) (z := 0) ⟨1, by omega⟩
      rw [← e, ← e] at p
      have t := Int.dvd_sub (h.rest hl hg 0) (h.rest hl hg (2 ^ w0'.toNat))
      rwa [p, show f 0 - (0 + S.tot) - (f 0 - (2 ^ w0'.toNat + S.tot)) = 2 ^ w0'.toNat by omega] at t
    have d2 : (2 : Int) ^ w0'.toNat ∣ 2 ^ w0.toNat := by
      have p := h.periodic hl hg (y := 2 ^ w0.toNat) (z := 0) ⟨1, by omega⟩
      rw [e, e] at p
      have t := Int.dvd_sub (h'.rest hl' hg' 0) (h'.rest hl' hg' (2 ^ w0.toNat))
      rwa [p, show f' 0 - (0 + S'.tot) - (f' 0 - (2 ^ w0.toNat + S'.tot)) = 2 ^ w0.toNat by omega] at t
    have ww : w0 = w0' := by
      have := dvd_pow hg.lp.p1 hg'.lp.p1 d1
      have := dvd_pow hg'.lp.p1 hg.lp.p1 d2
      omega
    subst ww
    have ev : ∀ n, inR v.rs n ↔ inR v'.rs (n + (S.off - S'.off)) := fun n => by
      constructor
      · intro hn
        have := h'.in_last hl' (n + S.off - S.tot)
        rw [← e, h.onto hl hg hn] at this
        rwa [show n + S.off - S'.off = n + (S.off - S'.off) by omega] at this
      · intro hn
        have := h.in_last hl (n + (S.off - S'.off) + S'.off - S'.tot)
        rw [e, h'.onto hl' hg' hn] at this
        rwa [show n + (S.off - S'.off) + S'.off - S.off = n by omega] at this
    obtain ⟨u, r, e1, hu⟩ := good_head hg
    obtain ⟨u', r', e1', hu'⟩ := good_head hg'
    refine .inr ⟨u, r, v, u', r', v', hl.trans e1, by rw [hl]; simp, hl'.trans e1', by rw [hl']; simp, hu.trans hu'.symm, by rw [hl, hl']; exact peel hg hg' ev, ?_, ?_⟩
    · rw [hu, hu']
      refine Int.emod_eq_emod_iff_emod_sub_eq_zero.mpr (Int.emod_eq_zero_of_dvd ?_)
      have t := Int.dvd_sub (h'.rest hl' hg' 0) (h.rest hl hg 0)
      rwa [e, show f' 0 - (0 + S'.tot) - (f' 0 - (0 + S.tot)) = S.tot - S'.tot by omega] at t
    · obtain ⟨a1, a2⟩ := hg.lp.low
      obtain ⟨b1, b2⟩ := hg'.lp.low
      have x1 := b2 _ ((ev _).mp a1)
      have x2 := a2 _ ((inR_shift ev _).mp b1)
      omega
theorem form_same (h : VF S f) (h' : VF S' f') (e : SameForm S S') : ∀ y, f y = f' y := by
  rcases e with ⟨a, b, c⟩ | ⟨u, r, v, u', r', v', e1, e2, e1', e2', ew, ek, et, el⟩
  · intro y
    rw [(h.nil a).2, (h'.nil b).2, c]
  · rcases h.sg with x | ⟨w0, l, t, hl, hg⟩
    · rw [x] at e1; cases e1
    rcases h'.sg with x | ⟨w0', l', t', hl', hg'⟩
    · rw [x] at e1'; cases e1'
    have hv : t = v := by rw [hl] at e2; simpa using e2
    have hv' : t' = v' := by rw [hl'] at e2'; simpa using e2'
    subst hv hv'
    obtain ⟨y1, z1, g1, hu⟩ := good_head hg
    obtain ⟨y2, z2, g2, hu'⟩ := good_head hg'
    rw [hl, g1] at e1
    rw [hl', g2] at e1'
    cases e1
    cases e1'
    have ww : w0 = w0' := by rw [← hu, ← hu', ew]
    subst ww
    rw [hl, hl'] at ek
    have er := same_rs hg hg' ek
    rw [← er] at el
    have eo : S.off = S'.off := by omega
    rw [hu, hu'] at et
    have dt : (2 : Int) ^ w0.toNat ∣ S.tot - S'.tot := Int.dvd_of_emod_eq_zero (Int.emod_eq_emod_iff_emod_sub_eq_zero.mp et)
    intro y
    have i1 := h.in_last hl y
    rw [er] at i1
    have := h'.unique hl' hg' (y := y) i1 (by
      have t := Int.dvd_add (h.rest hl hg y) dt
      rwa [show f y - (y + S.tot) + (S.tot - S'.tot) = f y - S.off + S'.off - (y + S'.tot) by omega] at t)
    omega
end
end Cc



set_option Elab.async false
set_option linter.all false
set_option maxRecDepth 100000
set_option maxHeartbeats 4000000
namespace Cc
open PySem PySem.Spec PyProof.Rows L2
def topS (i : Nat) : Stmt := PySem.Challenge.pw_castchains_k13_same_functions.main.body.getD i (.Pass ⟨0, 0, 0, 0⟩)
abbrev s_is_cast : Stmt := topS 4
theorem sc_is_cast : FnScope ["word", "width"] ["word", "width"] (defScope s_is_cast) := ⟨rfl, rfl, rfl, by decide +kernel, rfl, by decide +kernel, by decide +kernel⟩
abbrev s_lowest_result : Stmt := topS 6
theorem sc_lowest_result : FnScope ["word", "width"] ["word", "width"] (defScope s_lowest_result) := ⟨rfl, rfl, rfl, by decide +kernel, rfl, by decide +kernel, by decide +kernel⟩
abbrev s_cast : Stmt := topS 7
theorem sc_cast : FnScope ["number", "word", "width", "lowest"] ["number", "word", "width"] (defScope s_cast) := ⟨rfl, rfl, rfl, by decide +kernel, rfl, by decide +kernel, by decide +kernel⟩
section
variable {P : Program} {w : World} {K : PySem.W.Frag} {mg : Str → Option Value} {base : Heap}
def spIsCast : Sp := fun vs H Q _ => ∃ (x : Str) (n : Int), vs = [.str x, .int n] ∧ ∀ H', Same H H' → Q (.bl (isC x n)) H'
theorem p_is_cast (T : Tx K mg "is_cast" s_is_cast) : Pr P w K mg base CX0 1 "is_cast" ["word", "width"] spIsCast := by
  refine mkP T sc_is_cast (fun _ _ _ _ _ _ us hl => match us, hl with | [_, _], _ => rfl) (fun vs H Q E h => ?_) (fun f cdv A outer s H vs Q E hG hr h => ?_)
  · obtain ⟨_, _, rfl, _⟩ := h
    rfl
  · obtain ⟨x, n, rfl, q⟩ := h
    have nd := sc_is_cast.nd
    refine ⟨_, (pss_one (ps_ret (pe_and (pe_cmpR op_in_seq (pv 0) (pe_tup (pa_cons pe_str (pa_cons pe_str pa_nil))) (by rfl)) (pe_one (pe_cmpR op_ge (pv 1) pe_int (nomark _)))))), ?_⟩
    show (tRet _) _ [some (V.str x), some (V.int n)] H
    (try simp only [x_asg, x_mkV, x_value, x_lcR1, x_lcL, List.map_cons, List.map_nil, x_yes, x_wipe0, x_wipeS, x_rs, x_callS, x_callKS, x_fld, x_sfld, x_meth, x_make, x_fldaug, x_BM0, x_rAdd, x_retN, x_name, x_sub, x_ret, x_next, x_ifS, x_ite, x_iteN, x_T, x_F, x_tT, x_tF, x_op, x_un, x_var0, x_varS, x_c, x_I0, x_I, x_rU, x_nil, x_cons, x_test, x_B, x_bl, x_call, x_CB, x_tup, x_lst, x_not, x_Eq, x_Ne, x_eqII, x_eqSS, x_eqBB,  x_and, x_or, x_andV, x_orV, x_notV, x_if, x_par, x_two, x_drop, x_BM, x_set0, x_setS, x_gcons, x_gnil, x_forL, x_forT, x_forR1, x_forR2, x_forE, x_ref, x_int1, x_oneI, x_oneB, x_noBI, x_twoI, false_or, x_sl, x_noP, x_part, true_and, List.append_nil, cxK, cxKn]; try simp only [V.str.injEq, V.int.injEq, V.bl.injEq])
    refine ⟨by show 2 ≤ sizeLine; decide, fun p np => ?_⟩
    refine ⟨p, _, rfl, .inr (SqT.of upd_same), rfl, rfl, ?_⟩
    have q' := q _ (same_new (o := .tup [.str "u", .str "s"]) np)
    unfold isC at q'
    (try simp only [x_asg, x_mkV, x_value, x_lcR1, x_lcL, List.map_cons, List.map_nil, x_yes, x_wipe0, x_wipeS, x_rs, x_callS, x_callKS, x_fld, x_sfld, x_meth, x_make, x_fldaug, x_BM0, x_rAdd, x_retN, x_name, x_sub, x_ret, x_next, x_ifS, x_ite, x_iteN, x_T, x_F, x_tT, x_tF, x_op, x_un, x_var0, x_varS, x_c, x_I0, x_I, x_rU, x_nil, x_cons, x_test, x_B, x_bl, x_call, x_CB, x_tup, x_lst, x_not, x_Eq, x_Ne, x_eqII, x_eqSS, x_eqBB,  x_and, x_or, x_andV, x_orV, x_notV, x_if, x_par, x_two, x_drop, x_BM, x_set0, x_setS, x_gcons, x_gnil, x_forL, x_forT, x_forR1, x_forR2, x_forE, x_ref, x_int1, x_oneI, x_oneB, x_noBI, x_twoI, false_or, x_sl, x_noP, x_part, true_and, List.append_nil, cxK, cxKn]; try simp only [V.str.injEq, V.int.injEq, V.bl.injEq])
    rw [show (if false = true then !inV (V.str x) [V.str "u", V.str "s"] else inV (V.str x) [V.str "u", V.str "s"]) = inV (V.str x) [V.str "u", V.str "s"] from rfl, inV2]
    cases hc : decide (x = "u" ∨ x = "s") with
    | true =>
      rw [hc, Bool.true_and] at q'
      exact x_T.mpr q'
    | false =>
      rw [hc, Bool.false_and] at q'
      exact x_F.mpr q'
def spLow : Sp := fun vs H Q _ => ∃ (x : Str) (n : Int), vs = [.str x, .int n] ∧ 1 ≤ n ∧ n ≤ big ∧ Q (.int (lowI x n)) H
theorem p_lowest_result (T : Tx K mg "lowest_result" s_lowest_result) : Pr P w K mg base CX0 1 "lowest_result" ["word", "width"] spLow := by
  refine mkP T sc_lowest_result (fun _ _ _ _ _ _ us hl => match us, hl with | [_, _], _ => rfl) (fun vs H Q E h => ?_) (fun f cdv A outer s H vs Q E hG hr h => ?_)
  · obtain ⟨_, _, rfl, _⟩ := h
    rfl
  · obtain ⟨x, n, rfl, n0, n1, q⟩ := h
    have nd := sc_lowest_result.nd
    unfold big at n1
    refine ⟨_, (pss_cons (ps_if (pt_cmpR op_eq (pv 0) pe_str (nomark _)) (pss_one (ps_ret pe_int)) pss_nil) (pss_one (ps_ret (pe_un un_neg (pe_op op_shl pe_int (pe_op op_sub (pv 1) pe_int)))))), ?_⟩
    show (tSeq _ _) _ [some (V.str x), some (V.int n)] H
    refine x_seq.mpr ?_
    (try simp only [x_asg, x_mkV, x_value, x_lcR1, x_lcL, List.map_cons, List.map_nil, x_yes, x_wipe0, x_wipeS, x_rs, x_callS, x_callKS, x_fld, x_sfld, x_meth, x_make, x_fldaug, x_BM0, x_rAdd, x_retN, x_name, x_sub, x_ret, x_next, x_ifS, x_ite, x_iteN, x_T, x_F, x_tT, x_tF, x_op, x_un, x_var0, x_varS, x_c, x_I0, x_I, x_rU, x_nil, x_cons, x_test, x_B, x_bl, x_call, x_CB, x_tup, x_lst, x_not, x_Eq, x_Ne, x_eqII, x_eqSS, x_eqBB,  x_and, x_or, x_andV, x_orV, x_notV, x_if, x_par, x_two, x_drop, x_BM, x_set0, x_setS, x_gcons, x_gnil, x_forL, x_forT, x_forR1, x_forR2, x_forE, x_ref, x_int1, x_oneI, x_oneB, x_noBI, x_twoI, false_or, x_sl, x_noP, x_part, true_and, List.append_nil, cxK, cxKn]; try simp only [V.str.injEq, V.int.injEq, V.bl.injEq])
    unfold lowI at q
    refine ⟨fun h => ?_, fun h => ?_⟩
    · rw [if_pos h] at q
      exact q
    · rw [if_neg h] at q
      refine ⟨⟨by omega, by omega, by decide⟩, ?_⟩
      rw [Int.one_mul]
      exact q
def spCast : Sp := fun vs H Q _ => ∃ (y : Int) (x : Str) (n : Int), vs = [.int y, .str x, .int n] ∧ 1 ≤ n ∧ n ≤ big ∧ Q (.int (castI y x n)) H
theorem p_cast (T : Tx K mg "cast" s_cast) (h_lowest_result : Pr P w K mg base CX0 1 "lowest_result" ["word", "width"] spLow) : Pr P w K mg base CX0 2 "cast" ["number", "word", "width"] spCast := by
  refine mkP T sc_cast (fun _ _ _ _ _ _ us hl => match us, hl with | [_, _, _], _ => rfl) (fun vs H Q E h => ?_) (fun f cdv A outer s H vs Q E hG hr h => ?_)
  · obtain ⟨_, _, _, rfl, _⟩ := h
    rfl
  · obtain ⟨y, x, n, rfl, n0, n1, q⟩ := h
    have nd := sc_cast.nd
    refine ⟨_, (pss_cons (ps_set (i := 3) nd rfl (.inl rfl) (pe_P h_lowest_result hr hG (by rfl) (pa_cons (pv 1) (pa_cons (pv 2) pa_nil)))) (pss_one (ps_ret (pe_op op_add (pv 3) (pe_op op_mod (pe_op op_sub (pv 0) (pv 3)) (pe_op op_shl pe_int (pv 2))))))), ?_⟩
    show (tSeq _ _) _ [some (V.int y), some (V.str x), some (V.int n), none] H
    refine x_seq.mpr ?_
    (try simp only [x_asg, x_mkV, x_value, x_lcR1, x_lcL, List.map_cons, List.map_nil, x_yes, x_wipe0, x_wipeS, x_rs, x_callS, x_callKS, x_fld, x_sfld, x_meth, x_make, x_fldaug, x_BM0, x_rAdd, x_retN, x_name, x_sub, x_ret, x_next, x_ifS, x_ite, x_iteN, x_T, x_F, x_tT, x_tF, x_op, x_un, x_var0, x_varS, x_c, x_I0, x_I, x_rU, x_nil, x_cons, x_test, x_B, x_bl, x_call, x_CB, x_tup, x_lst, x_not, x_Eq, x_Ne, x_eqII, x_eqSS, x_eqBB,  x_and, x_or, x_andV, x_orV, x_notV, x_if, x_par, x_two, x_drop, x_BM, x_set0, x_setS, x_gcons, x_gnil, x_forL, x_forT, x_forR1, x_forR2, x_forE, x_ref, x_int1, x_oneI, x_oneB, x_noBI, x_twoI, false_or, x_sl, x_noP, x_part, true_and, List.append_nil, cxK, cxKn]; try simp only [V.str.injEq, V.int.injEq, V.bl.injEq])
    refine ⟨_, _, rfl, n0, n1, ?_⟩
    (try simp only [x_asg, x_mkV, x_value, x_lcR1, x_lcL, List.map_cons, List.map_nil, x_yes, x_wipe0, x_wipeS, x_rs, x_callS, x_callKS, x_fld, x_sfld, x_meth, x_make, x_fldaug, x_BM0, x_rAdd, x_retN, x_name, x_sub, x_ret, x_next, x_ifS, x_ite, x_iteN, x_T, x_F, x_tT, x_tF, x_op, x_un, x_var0, x_varS, x_c, x_I0, x_I, x_rU, x_nil, x_cons, x_test, x_B, x_bl, x_call, x_CB, x_tup, x_lst, x_not, x_Eq, x_Ne, x_eqII, x_eqSS, x_eqBB,  x_and, x_or, x_andV, x_orV, x_notV, x_if, x_par, x_two, x_drop, x_BM, x_set0, x_setS, x_gcons, x_gnil, x_forL, x_forT, x_forR1, x_forR2, x_forE, x_ref, x_int1, x_oneI, x_oneB, x_noBI, x_twoI, false_or, x_sl, x_noP, x_part, true_and, List.append_nil, cxK, cxKn]; try simp only [V.str.injEq, V.int.injEq, V.bl.injEq])
    have n1' := n1
    unfold big at n1'
    refine ⟨⟨by omega, by omega, by decide⟩, ?_, ?_⟩
    · rw [Int.one_mul]; exact two_pos _
    · rw [Int.one_mul]
      exact q
end

abbrev s_count_numbers : Stmt := topS 9
theorem sc_count_numbers : FnScope ["ranges", "low", "high"] ["ranges"] (defScope s_count_numbers) := ⟨rfl, rfl, rfl, by decide +kernel, rfl, by decide +kernel, by decide +kernel⟩
abbrev s_moved : Stmt := topS 10
theorem sc_moved : FnScope ["ranges", "distance", "low", "high"] ["ranges", "distance"] (defScope s_moved) := ⟨rfl, rfl, rfl, by decide +kernel, rfl, by decide +kernel, by decide +kernel⟩
abbrev s_parted : Stmt := topS 11
theorem sc_parted : FnScope ["ranges", "last", "staying", "leaving", "low", "high"] ["ranges", "last"] (defScope s_parted) := ⟨rfl, rfl, rfl, by decide +kernel, rfl, by decide +kernel, by decide +kernel⟩
abbrev s_Spread : Stmt := topS 12
abbrev s_Spread_init : Stmt := inClass (topS 12) 0
theorem sc_Spread_init : FnScope ["self"] ["self"] (defScope s_Spread_init) := ⟨rfl, rfl, rfl, by decide +kernel, rfl, by decide +kernel, by decide +kernel⟩
abbrev s_Spread_take : Stmt := inClass (topS 12) 1
theorem sc_Spread_take : FnScope ["self", "word", "amount"] ["self", "word", "amount"] (defScope s_Spread_take) := ⟨rfl, rfl, rfl, by decide +kernel, rfl, by decide +kernel, by decide +kernel⟩
abbrev s_Spread_take_wider_cast : Stmt := inClass (topS 12) 2
theorem sc_Spread_take_wider_cast : FnScope ["self", "word", "width", "ranges", "lowest", "last", "staying", "leaving", "cut"] ["self", "word", "width"] (defScope s_Spread_take_wider_cast) := ⟨rfl, rfl, rfl, by decide +kernel, rfl, by decide +kernel, by decide +kernel⟩
abbrev s_Spread_period : Stmt := inClass (topS 12) 3
theorem sc_Spread_period : FnScope ["self"] ["self"] (defScope s_Spread_period) := ⟨rfl, rfl, rfl, by decide +kernel, rfl, by decide +kernel, by decide +kernel⟩
abbrev s_Spread_value_ranges : Stmt := inClass (topS 12) 4
theorem sc_Spread_value_ranges : FnScope ["self"] ["self"] (defScope s_Spread_value_ranges) := ⟨rfl, rfl, rfl, by decide +kernel, rfl, by decide +kernel, by decide +kernel⟩
section
variable {P : Program} {w : World} {K : PySem.W.Frag} {mg : Str → Option Value} {base : Heap}
theorem x_sum {H : Hp} {Q : VK} {a : Addr} {ns : List Int} (h : SqL K H a (ns.map V.int)) (q : Q (.int ns.sum) H) : rSum K [.ref a] H Q := ⟨a, ns, rfl, h, q⟩
theorem x_gtup2 {H : Hp} {σ : L2.St} {Q : L2.St → Hp → Prop} {t : Addr} {a b : V} {i j : Nat} (h : SqT K H t [a, b]) (q : Q ((σ.set i (some a)).set j (some b)) H) : gTup K 2 (gCons (gName i) (gCons (gName j) gNil)) (.ref t) σ H Q := by
  refine x_gtup h rfl ?_
  exact x_gcons.mpr (x_gcons.mpr (x_gnil.mpr q))
def spCount (K : PySem.W.Frag) : Sp := fun vs H Q _ => ∃ (l : Addr) (r : Rg), vs = [.ref l] ∧ RgAt K H l r ∧ r.length ≤ 1000000 ∧ ∀ H', Same H H' → Q (.int (cntR r)) H'
theorem p_count_numbers (T : Tx K mg "count_numbers" s_count_numbers) (m_sum : mg "sum" = none) : Pr P w K mg base CX0 1 "count_numbers" ["ranges"] (spCount K) := by
  refine mkP T sc_count_numbers (fun _ _ _ _ _ _ us hl => match us, hl with | [_], _ => rfl) (fun vs H Q E h => ?_) (fun f cdv A outer s H vs Q E hG hr h => ?_)
  · obtain ⟨_, _, rfl, _⟩ := h
    rfl
  · obtain ⟨l, r, rfl, ⟨xs, hL, hR⟩, hz, q⟩ := h
    have nd := sc_count_numbers.nd
    refine ⟨_, (pss_one (ps_ret (pe_callB (cr_sum rfl) (by rfl) m_sum (by decide +kernel) (pa_cons (pe_lc (own := [("low", 1), ("high", 2)]) (g := gTup K 2 (gCons (gName 1) (gCons (gName 2) gNil))) (by rfl) nd (pi_list (pv 0)) (blkOk_by (own := [("low", 1), ("high", 2)]) (N := ["ranges", "low", "high"]) (sc := defScope s_count_numbers) (by decide +kernel)) (fun _ _ _ _ _ => (pg_tup rfl (pgs_cons (pg_name (i := 1) nd rfl (.inl rfl)) (pgs_cons (pg_name (i := 2) nd rfl (.inl rfl)) pgs_nil)))) (fun _ _ _ _ _ => pts_nil) (fun _ _ _ _ _ => (pe_op op_add (pe_op op_sub (pv 2) (pv 1)) pe_int))) pa_nil)))), ?_⟩
    show (tRet _) _ [some (V.ref l), none, none] H
    (try simp only [x_asg, x_mkV, x_value, x_lcR1, x_lcL, List.map_cons, List.map_nil, x_yes, x_wipe0, x_wipeS, x_rs, x_callS, x_callKS, x_fld, x_sfld, x_meth, x_make, x_fldaug, x_BM0, x_rAdd, x_retN, x_name, x_sub, x_ret, x_next, x_ifS, x_ite, x_iteN, x_T, x_F, x_tT, x_tF, x_op, x_un, x_var0, x_varS, x_c, x_I0, x_I, x_rU, x_nil, x_cons, x_test, x_B, x_bl, x_call, x_CB, x_tup, x_lst, x_not, x_Eq, x_Ne, x_eqII, x_eqSS, x_eqBB,  x_and, x_or, x_andV, x_orV, x_notV, x_if, x_par, x_two, x_drop, x_BM, x_set0, x_setS, x_gcons, x_gnil, x_forL, x_forT, x_forR1, x_forR2, x_forE, x_ref, x_int1, x_oneI, x_oneB, x_noBI, x_twoI, false_or, x_sl, x_noP, x_part, true_and, List.append_nil, cxK, cxKn]; try simp only [V.str.injEq, V.int.injEq, V.bl.injEq])
    refine ⟨⟨_, SqL.of hL⟩, fun D nD => ?_⟩
    refine lcL (xs := xs) (fun i H' => H' D = some (.lst (((r.take i).map fun p => p.2 - p.1 + 1).map V.int)) ∧ Same H H') ⟨by simp [upd_same], same_new nD⟩ (fun i H' _ h => .of (h.2 _ _ hL)) (fun i x H' hx h => ?_) (fun H' h => ?_)
    · obtain ⟨hD, sH⟩ := h
      obtain ⟨t, a, b, rfl, hr, hT⟩ := hR.get hx
      have hi := (List.getElem?_eq_some_iff.mp hr).1
      refine x_gtup2 (Same.tup sH hT) ?_
      (try simp only [x_asg, x_mkV, x_value, x_lcR1, x_lcL, List.map_cons, List.map_nil, x_yes, x_wipe0, x_wipeS, x_rs, x_callS, x_callKS, x_fld, x_sfld, x_meth, x_make, x_fldaug, x_BM0, x_rAdd, x_retN, x_name, x_sub, x_ret, x_next, x_ifS, x_ite, x_iteN, x_T, x_F, x_tT, x_tF, x_op, x_un, x_var0, x_varS, x_c, x_I0, x_I, x_rU, x_nil, x_cons, x_test, x_B, x_bl, x_call, x_CB, x_tup, x_lst, x_not, x_Eq, x_Ne, x_eqII, x_eqSS, x_eqBB,  x_and, x_or, x_andV, x_orV, x_notV, x_if, x_par, x_two, x_drop, x_BM, x_set0, x_setS, x_gcons, x_gnil, x_forL, x_forT, x_forR1, x_forR2, x_forE, x_ref, x_int1, x_oneI, x_oneB, x_noBI, x_twoI, false_or, x_sl, x_noP, x_part, true_and, List.append_nil, cxK, cxKn]; try simp only [V.str.injEq, V.int.injEq, V.bl.injEq])
      refine ⟨_, hD, ?_, ?_, same_mut sH nD⟩
      · rw [List.length_map, List.length_map, List.length_take, sizeLine_eq]
        omega
      · rw [upd_same, List.take_add_one, hr]
        simp
    · obtain ⟨hD, sH⟩ := h
      rw [hR.len, List.take_length] at hD
      exact x_sum (SqL.of hD) (q _ sH)
def vOpt : Option Int → V
  | none => .non
  | some i => .int i
def spNumAt (K : PySem.W.Frag) : Sp := fun vs H Q _ => ∃ (l : Addr) (r : Rg) (k : Int), vs = [.ref l, .int k] ∧ RgAt K H l r ∧ Q (vOpt (if k < 0 then none else numAt r k)) H
theorem numAt_drop {r : Rg} {i : Nat} {a b k : Int} (h : r[i]? = some (a, b)) : numAt (r.drop i) k = if k ≤ b - a then some (a + k) else numAt (r.drop (i + 1)) (k - (b - a + 1)) := by
  obtain ⟨hi, e⟩ := List.getElem?_eq_some_iff.mp h
  rw [List.drop_eq_getElem_cons hi, e]
  rfl
def spMoved (K : PySem.W.Frag) : Sp := fun vs H Q _ => ∃ (l : Addr) (r : Rg) (d : Int), vs = [.ref l, .int d] ∧ RgAt K H l r ∧ r.length ≤ 1000000 ∧ ∀ p H', H p = none → Same H H' → RgAt K H' p (movR r d) → Q (.ref p) H'
theorem p_moved (T : Tx K mg "moved" s_moved) : Pr P w K mg base CX0 1 "moved" ["ranges", "distance"] (spMoved K) := by
  refine mkP T sc_moved (fun _ _ _ _ _ _ us hl => match us, hl with | [_, _], _ => rfl) (fun vs H Q E h => ?_) (fun f cdv A outer s H vs Q E hG hr h => ?_)
  · obtain ⟨_, _, _, rfl, _⟩ := h
    rfl
  · obtain ⟨l, r, d, rfl, ⟨xs, hL, hR⟩, hz, q⟩ := h
    have nd := sc_moved.nd
    refine ⟨_, (pss_one (ps_ret (pe_lc (own := [("low", 2), ("high", 3)]) (g := gTup K 2 (gCons (gName 2) (gCons (gName 3) gNil))) (by rfl) nd (pi_list (pv 0)) (blkOk_by (own := [("low", 2), ("high", 3)]) (N := ["ranges", "distance", "low", "high"]) (sc := defScope s_moved) (by decide +kernel)) (fun _ _ _ _ _ => (pg_tup rfl (pgs_cons (pg_name (i := 2) nd rfl (.inl rfl)) (pgs_cons (pg_name (i := 3) nd rfl (.inl rfl)) pgs_nil)))) (fun _ _ _ _ _ => pts_nil) (fun _ _ _ _ _ => (pe_tup (pa_cons (pe_op op_add (pv 2) (pv 1)) (pa_cons (pe_op op_add (pv 3) (pv 1)) pa_nil))))))), ?_⟩
    show (tRet _) _ [some (V.ref l), some (V.int d), none, none] H
    (try simp only [x_asg, x_mkV, x_value, x_lcR1, x_lcL, List.map_cons, List.map_nil, x_yes, x_wipe0, x_wipeS, x_rs, x_callS, x_callKS, x_fld, x_sfld, x_meth, x_make, x_fldaug, x_BM0, x_rAdd, x_retN, x_name, x_sub, x_ret, x_next, x_ifS, x_ite, x_iteN, x_T, x_F, x_tT, x_tF, x_op, x_un, x_var0, x_varS, x_c, x_I0, x_I, x_rU, x_nil, x_cons, x_test, x_B, x_bl, x_call, x_CB, x_tup, x_lst, x_not, x_Eq, x_Ne, x_eqII, x_eqSS, x_eqBB,  x_and, x_or, x_andV, x_orV, x_notV, x_if, x_par, x_two, x_drop, x_BM, x_set0, x_setS, x_gcons, x_gnil, x_forL, x_forT, x_forR1, x_forR2, x_forE, x_ref, x_int1, x_oneI, x_oneB, x_noBI, x_twoI, false_or, x_sl, x_noP, x_part, true_and, List.append_nil, cxK, cxKn]; try simp only [V.str.injEq, V.int.injEq, V.bl.injEq])
    refine ⟨⟨_, SqL.of hL⟩, fun D nD => ?_⟩
    refine lcL (xs := xs) (fun i H' => ∃ ys, H' D = some (.lst ys) ∧ Rgs K H' ys (movR (r.take i) d) ∧ Same H H') ⟨[], upd_same, by rw [List.take_zero]; exact .nil, same_new nD⟩ (fun i H' _ h => by obtain ⟨_, _, _, e⟩ := h; exact .of (e _ _ hL)) (fun i x H' hx h => ?_) (fun H' h => ?_)
    · obtain ⟨ys, hD, hY, sH⟩ := h
      obtain ⟨t, a, b, rfl, hr', hT⟩ := hR.get hx
      have hi := (List.getElem?_eq_some_iff.mp hr').1
      refine x_gtup2 (Same.tup sH hT) ?_
      (try simp only [x_asg, x_mkV, x_value, x_lcR1, x_lcL, List.map_cons, List.map_nil, x_yes, x_wipe0, x_wipeS, x_rs, x_callS, x_callKS, x_fld, x_sfld, x_meth, x_make, x_fldaug, x_BM0, x_rAdd, x_retN, x_name, x_sub, x_ret, x_next, x_ifS, x_ite, x_iteN, x_T, x_F, x_tT, x_tF, x_op, x_un, x_var0, x_varS, x_c, x_I0, x_I, x_rU, x_nil, x_cons, x_test, x_B, x_bl, x_call, x_CB, x_tup, x_lst, x_not, x_Eq, x_Ne, x_eqII, x_eqSS, x_eqBB,  x_and, x_or, x_andV, x_orV, x_notV, x_if, x_par, x_two, x_drop, x_BM, x_set0, x_setS, x_gcons, x_gnil, x_forL, x_forT, x_forR1, x_forR2, x_forE, x_ref, x_int1, x_oneI, x_oneB, x_noBI, x_twoI, false_or, x_sl, x_noP, x_part, true_and, List.append_nil, cxK, cxKn]; try simp only [V.str.injEq, V.int.injEq, V.bl.injEq])
      refine ⟨by show 2 ≤ sizeLine; decide, fun p np => ⟨ys, (same_new np) _ _ hD, ?_, ?_⟩⟩
      · rw [hY.len, sizeLine_eq]
        unfold movR
        rw [List.length_map, List.length_take]
        omega
      · have hpD : p ≠ D := fun z => by rw [z, hD] at np; cases np
        refine ⟨_, upd_same, ?_, same_mut (sH.trans (same_new np)) nD⟩
        have e : movR (r.take (i + 1)) d = movR (r.take i) d ++ [(a + d, b + d)] := by
          unfold movR
          rw [List.take_add_one, hr', List.map_append]
          rfl
        rw [e]
        exact hY.grow np hD
    · obtain ⟨ys, hD, hY, sH⟩ := h
      rw [hR.len, List.take_length] at hY
      exact q D H' nD sH ⟨ys, hD, hY⟩
def spParted (K : PySem.W.Frag) : Sp := fun vs H Q _ => ∃ (l : Addr) (r : Rg) (z : Int), vs = [.ref l, .int z] ∧ RgAt K H l r ∧ r.length ≤ 1000000 ∧ ∀ p a b H', H p = none → Same H H' → H' p = some (.tup [.ref a, .ref b]) → H a = none → H b = none → a ≠ b → RgAt K H' a (stayR r z) → RgAt K H' b (leavR r z) → Q (.ref p) H'
theorem stayR_len (r : Rg) (z : Int) : (stayR r z).length ≤ r.length := by
  unfold stayR
  rw [List.length_map]
  exact List.length_filter_le _ _
theorem leavR_len (r : Rg) (z : Int) : (leavR r z).length ≤ r.length := by
  unfold leavR
  rw [List.length_map]
  exact List.length_filter_le _ _
theorem stayR_take {r : Rg} {i : Nat} {a b z : Int} (h : r[i]? = some (a, b)) : stayR (r.take (i + 1)) z = stayR (r.take i) z ++ (if a ≤ z then [(a, if z < b then z else b)] else []) := by
  unfold stayR
  rw [List.take_add_one, h, List.filter_append, List.map_append]
  by_cases hc : a ≤ z
  · simp [hc]
  · simp [hc]
theorem leavR_take {r : Rg} {i : Nat} {a b z : Int} (h : r[i]? = some (a, b)) : leavR (r.take (i + 1)) z = leavR (r.take i) z ++ (if z < b then [(if z + 1 > a then z + 1 else a, b)] else []) := by
  unfold leavR
  rw [List.take_add_one, h, List.filter_append, List.map_append]
  by_cases hc : z < b
  · simp [hc]
  · simp [hc]
theorem p_parted (T : Tx K mg "parted" s_parted) (m_min : mg "min" = none) (m_max : mg "max" = none) : Pr P w K mg base CX0 1 "parted" ["ranges", "last"] (spParted K) := by
  refine mkP T sc_parted (fun _ _ _ _ _ _ us hl => match us, hl with | [_, _], _ => rfl) (fun vs H Q E h => ?_) (fun f cdv A outer s H vs Q E hG hr h => ?_)
  · obtain ⟨_, _, _, rfl, _⟩ := h
    rfl
  · obtain ⟨l, r, z, rfl, ⟨xs, hL, hR⟩, hz, q⟩ := h
    have nd := sc_parted.nd
    refine ⟨_, (pss_cons (ps_setLc (i := 2) (own := [("low", 4), ("high", 5)]) (g := gTup K 2 (gCons (gName 4) (gCons (gName 5) gNil))) (by rfl) nd rfl rfl (sw_true rfl rfl rfl (by decide +kernel)) (pi_list (pv 0)) (blkOk_by (own := [("low", 4), ("high", 5)]) (N := ["ranges", "last", "staying", "leaving", "low", "high"]) (sc := defScope s_parted) (by decide +kernel)) (fun _ _ _ _ _ => (pg_tup rfl (pgs_cons (pg_name (i := 4) nd rfl (.inl rfl)) (pgs_cons (pg_name (i := 5) nd rfl (.inl rfl)) pgs_nil)))) (fun _ _ _ _ _ => (pts_one (pt_cmpR op_le (pv 4) (pv 1) (nomark _)))) (fun _ _ _ _ _ => (pe_tup (pa_cons (pv 4) (pa_cons (pe_callB (call_min2 rfl) (by rfl) m_min (by decide +kernel) (pa_cons (pv 5) (pa_cons (pv 1) pa_nil))) pa_nil))))) (pss_cons (ps_setLc (i := 3) (own := [("low", 4), ("high", 5)]) (g := gTup K 2 (gCons (gName 4) (gCons (gName 5) gNil))) (by rfl) nd rfl rfl (sw_true rfl rfl rfl (by decide +kernel)) (pi_list (pv 0)) (blkOk_by (own := [("low", 4), ("high", 5)]) (N := ["ranges", "last", "staying", "leaving", "low", "high"]) (sc := defScope s_parted) (by decide +kernel)) (fun _ _ _ _ _ => (pg_tup rfl (pgs_cons (pg_name (i := 4) nd rfl (.inl rfl)) (pgs_cons (pg_name (i := 5) nd rfl (.inl rfl)) pgs_nil)))) (fun _ _ _ _ _ => (pts_one (pt_cmpR op_gt (pv 5) (pv 1) (nomark _)))) (fun _ _ _ _ _ => (pe_tup (pa_cons (pe_callB (call_max2 rfl) (by rfl) m_max (by decide +kernel) (pa_cons (pv 4) (pa_cons (pe_op op_add (pv 1) pe_int) pa_nil))) (pa_cons (pv 5) pa_nil))))) (pss_one (ps_ret (pe_tup (pa_cons (pv 2) (pa_cons (pv 3) pa_nil))))))), ?_⟩
    show (tSeq _ _) _ [some (V.ref l), some (V.int z), none, none, none, none] H
    refine x_seq.mpr ?_
    (try simp only [x_asg, x_mkV, x_value, x_lcR1, x_lcL, List.map_cons, List.map_nil, x_yes, x_wipe0, x_wipeS, x_rs, x_callS, x_callKS, x_fld, x_sfld, x_meth, x_make, x_fldaug, x_BM0, x_rAdd, x_retN, x_name, x_sub, x_ret, x_next, x_ifS, x_ite, x_iteN, x_T, x_F, x_tT, x_tF, x_op, x_un, x_var0, x_varS, x_c, x_I0, x_I, x_rU, x_nil, x_cons, x_test, x_B, x_bl, x_call, x_CB, x_tup, x_lst, x_not, x_Eq, x_Ne, x_eqII, x_eqSS, x_eqBB,  x_and, x_or, x_andV, x_orV, x_notV, x_if, x_par, x_two, x_drop, x_BM, x_set0, x_setS, x_gcons, x_gnil, x_forL, x_forT, x_forR1, x_forR2, x_forE, x_ref, x_int1, x_oneI, x_oneB, x_noBI, x_twoI, false_or, x_sl, x_noP, x_part, true_and, List.append_nil, cxK, cxKn]; try simp only [V.str.injEq, V.int.injEq, V.bl.injEq])
    refine ⟨⟨_, SqL.of hL⟩, fun D nD => ?_⟩
    refine lcL (xs := xs) (fun i H' => ∃ ys, H' D = some (.lst ys) ∧ Rgs K H' ys (stayR (r.take i) z) ∧ Same H H') ⟨[], upd_same, by rw [List.take_zero]; exact .nil, same_new nD⟩ (fun i H' _ h => by obtain ⟨_, _, _, e⟩ := h; exact .of (e _ _ hL)) (fun i x H' hx h => ?_) (fun H1 h => ?_)
    · obtain ⟨ys, hD, hY, sH⟩ := h
      obtain ⟨t, a, b, rfl, hr', hT⟩ := hR.get hx
      refine x_gtup2 (Same.tup sH hT) ?_
      have e := stayR_take (z := z) hr'
      (try simp only [x_asg, x_mkV, x_value, x_lcR1, x_lcL, List.map_cons, List.map_nil, x_yes, x_wipe0, x_wipeS, x_rs, x_callS, x_callKS, x_fld, x_sfld, x_meth, x_make, x_fldaug, x_BM0, x_rAdd, x_retN, x_name, x_sub, x_ret, x_next, x_ifS, x_ite, x_iteN, x_T, x_F, x_tT, x_tF, x_op, x_un, x_var0, x_varS, x_c, x_I0, x_I, x_rU, x_nil, x_cons, x_test, x_B, x_bl, x_call, x_CB, x_tup, x_lst, x_not, x_Eq, x_Ne, x_eqII, x_eqSS, x_eqBB,  x_and, x_or, x_andV, x_orV, x_notV, x_if, x_par, x_two, x_drop, x_BM, x_set0, x_setS, x_gcons, x_gnil, x_forL, x_forT, x_forR1, x_forR2, x_forE, x_ref, x_int1, x_oneI, x_oneB, x_noBI, x_twoI, false_or, x_sl, x_noP, x_part, true_and, List.append_nil, cxK, cxKn]; try simp only [V.str.injEq, V.int.injEq, V.bl.injEq])
      refine ⟨fun hc => ?_, fun hc => ?_⟩
      · rw [if_pos hc] at e
        refine ⟨by show 2 ≤ sizeLine; decide, fun p np => ⟨ys, (same_new np) _ _ hD, ?_, ?_⟩⟩
        · rw [hY.len, sizeLine_eq]
          have := stayR_len (r.take i) z
          rw [List.length_take] at this
          omega
        · refine ⟨_, upd_same, ?_, same_mut (sH.trans (same_new np)) nD⟩
          rw [e]
          exact hY.grow np hD
      · rw [if_neg hc, List.append_nil] at e
        exact ⟨ys, hD, by rw [e]; exact hY, sH⟩
    obtain ⟨ys, hD, hY, s1⟩ := h
    rw [hR.len, List.take_length] at hY
    have hL1 := s1 _ _ hL
    have hR1 := hR.same fun h => s1 _ _ h
    refine x_seq.mpr ?_
    (try simp only [x_asg, x_mkV, x_value, x_lcR1, x_lcL, List.map_cons, List.map_nil, x_yes, x_wipe0, x_wipeS, x_rs, x_callS, x_callKS, x_fld, x_sfld, x_meth, x_make, x_fldaug, x_BM0, x_rAdd, x_retN, x_name, x_sub, x_ret, x_next, x_ifS, x_ite, x_iteN, x_T, x_F, x_tT, x_tF, x_op, x_un, x_var0, x_varS, x_c, x_I0, x_I, x_rU, x_nil, x_cons, x_test, x_B, x_bl, x_call, x_CB, x_tup, x_lst, x_not, x_Eq, x_Ne, x_eqII, x_eqSS, x_eqBB,  x_and, x_or, x_andV, x_orV, x_notV, x_if, x_par, x_two, x_drop, x_BM, x_set0, x_setS, x_gcons, x_gnil, x_forL, x_forT, x_forR1, x_forR2, x_forE, x_ref, x_int1, x_oneI, x_oneB, x_noBI, x_twoI, false_or, x_sl, x_noP, x_part, true_and, List.append_nil, cxK, cxKn]; try simp only [V.str.injEq, V.int.injEq, V.bl.injEq])
    refine ⟨⟨_, SqL.of hL1⟩, fun D2 nD2 => ?_⟩
    refine lcL (xs := xs) (fun i H' => ∃ ys, H' D2 = some (.lst ys) ∧ Rgs K H' ys (leavR (r.take i) z) ∧ Same H1 H') ⟨[], upd_same, by rw [List.take_zero]; exact .nil, same_new nD2⟩ (fun i H' _ h => by obtain ⟨_, _, _, e⟩ := h; exact .of (e _ _ hL1)) (fun i x H' hx h => ?_) (fun H2 h => ?_)
    · obtain ⟨ys, hD, hY, sH⟩ := h
      obtain ⟨t, a, b, rfl, hr', hT⟩ := hR1.get hx
      refine x_gtup2 (Same.tup sH hT) ?_
      have e := leavR_take (z := z) hr'
      (try simp only [x_asg, x_mkV, x_value, x_lcR1, x_lcL, List.map_cons, List.map_nil, x_yes, x_wipe0, x_wipeS, x_rs, x_callS, x_callKS, x_fld, x_sfld, x_meth, x_make, x_fldaug, x_BM0, x_rAdd, x_retN, x_name, x_sub, x_ret, x_next, x_ifS, x_ite, x_iteN, x_T, x_F, x_tT, x_tF, x_op, x_un, x_var0, x_varS, x_c, x_I0, x_I, x_rU, x_nil, x_cons, x_test, x_B, x_bl, x_call, x_CB, x_tup, x_lst, x_not, x_Eq, x_Ne, x_eqII, x_eqSS, x_eqBB,  x_and, x_or, x_andV, x_orV, x_notV, x_if, x_par, x_two, x_drop, x_BM, x_set0, x_setS, x_gcons, x_gnil, x_forL, x_forT, x_forR1, x_forR2, x_forE, x_ref, x_int1, x_oneI, x_oneB, x_noBI, x_twoI, false_or, x_sl, x_noP, x_part, true_and, List.append_nil, cxK, cxKn]; try simp only [V.str.injEq, V.int.injEq, V.bl.injEq])
      refine ⟨fun hc => ?_, fun hc => ?_⟩
      · rw [if_pos hc] at e
        refine ⟨by show 2 ≤ sizeLine; decide, fun p np => ⟨ys, (same_new np) _ _ hD, ?_, ?_⟩⟩
        · rw [hY.len, sizeLine_eq]
          have := leavR_len (r.take i) z
          rw [List.length_take] at this
          omega
        · refine ⟨_, upd_same, ?_, same_mut (sH.trans (same_new np)) nD2⟩
          rw [e]
          exact hY.grow np hD
      · rw [if_neg hc, List.append_nil] at e
        exact ⟨ys, hD, by rw [e]; exact hY, sH⟩
    obtain ⟨zs, hD2, hZ, s2⟩ := h
    rw [hR1.len, List.take_length] at hZ
    (try simp only [x_asg, x_mkV, x_value, x_lcR1, x_lcL, List.map_cons, List.map_nil, x_yes, x_wipe0, x_wipeS, x_rs, x_callS, x_callKS, x_fld, x_sfld, x_meth, x_make, x_fldaug, x_BM0, x_rAdd, x_retN, x_name, x_sub, x_ret, x_next, x_ifS, x_ite, x_iteN, x_T, x_F, x_tT, x_tF, x_op, x_un, x_var0, x_varS, x_c, x_I0, x_I, x_rU, x_nil, x_cons, x_test, x_B, x_bl, x_call, x_CB, x_tup, x_lst, x_not, x_Eq, x_Ne, x_eqII, x_eqSS, x_eqBB,  x_and, x_or, x_andV, x_orV, x_notV, x_if, x_par, x_two, x_drop, x_BM, x_set0, x_setS, x_gcons, x_gnil, x_forL, x_forT, x_forR1, x_forR2, x_forE, x_ref, x_int1, x_oneI, x_oneB, x_noBI, x_twoI, false_or, x_sl, x_noP, x_part, true_and, List.append_nil, cxK, cxKn]; try simp only [V.str.injEq, V.int.injEq, V.bl.injEq])
    refine ⟨by show 2 ≤ sizeLine; decide, fun p np => ?_⟩
    have s3 := same_new (o := .tup [.ref D, .ref D2]) np
    exact q p D D2 _ (((s1.trans s2).free np)) ((s1.trans s2).trans s3) upd_same nD (s1.free nD2) (ne_of_none hD nD2) (RgAt.same (s2.trans s3) ⟨ys, hD, hY⟩) (RgAt.same s3 ⟨zs, hD2, hZ⟩)
end

/-- what the text's top has written of the class -/
structure SpC (K : PySem.W.Frag) (mg : Str → Option Value) (C : Addr) : Prop where
  cl : Cls K C
  nL : NoAttr K C "levels"
  nO : NoAttr K C "offset"
  nT : NoAttr K C "total"
  mgC : mg "Spread" = some (.ref C)
section
variable {P : Program} {w : World} {K : PySem.W.Frag} {mg : Str → Option Value} {base : Heap} {C : Addr}
def spInitS (K : PySem.W.Frag) (C : Addr) : Sp := fun vs H Q _ => ∃ (p dx : Addr), vs = [.ref p] ∧ H p = some (.ins C dx []) ∧ ∀ l H', H l = none → SpAt K C H' p l Spr.new → But p l H H' → Q .non H'
theorem p_init {f : Addr} {fd : FuncData} (F : Fun K "__init__" "Spread.__init__" s_Spread_init f fd) (SP : SpC K mg C) : FnOk P w K mg base CX0 1 f fd ["self"] (spInitS K C) := by
  refine F.ok sc_Spread_init (fun vs H Q E h => ?_) (fun cdv A outer s H vs Q E hr h => ?_)
  · obtain ⟨_, _, rfl, _⟩ := h
    rfl
  · obtain ⟨p, dx, rfl, hp, q⟩ := h
    refine ⟨_, (pss_cons (ps_fld (pv 0) (pe_lst pa_nil) rfl) (pss_cons (ps_fld (pv 0) pe_int rfl) (pss_one (ps_fld (pv 0) pe_int rfl)))), ?_⟩
    show (tSeq _ _) _ [some (V.ref p)] H
    refine x_seq.mpr ?_
    (try simp only [x_asg, x_mkV, x_value, x_lcR1, x_lcL, List.map_cons, List.map_nil, x_yes, x_wipe0, x_wipeS, x_rs, x_callS, x_callKS, x_fld, x_sfld, x_meth, x_make, x_fldaug, x_BM0, x_rAdd, x_retN, x_name, x_sub, x_ret, x_next, x_ifS, x_ite, x_iteN, x_T, x_F, x_tT, x_tF, x_op, x_un, x_var0, x_varS, x_c, x_I0, x_I, x_rU, x_nil, x_cons, x_test, x_B, x_bl, x_call, x_CB, x_tup, x_lst, x_not, x_Eq, x_Ne, x_eqII, x_eqSS, x_eqBB,  x_and, x_or, x_andV, x_orV, x_notV, x_if, x_par, x_two, x_drop, x_BM, x_set0, x_setS, x_gcons, x_gnil, x_forL, x_forT, x_forR1, x_forR2, x_forE, x_ref, x_int1, x_oneI, x_oneB, x_noBI, x_twoI, false_or, x_sl, x_noP, x_part, true_and, List.append_nil, cxK, cxKn]; try simp only [V.str.injEq, V.int.injEq, V.bl.injEq])
    refine ⟨Nat.zero_le _, fun l nl => ?_⟩
    have npl : p ≠ l := ne_of_none hp nl
    refine sfld (by rw [upd_ne npl]; exact hp) SP.cl SP.nL (by show 0 < 1000; decide) ?_
    refine x_seq.mpr ?_
    (try simp only [x_asg, x_mkV, x_value, x_lcR1, x_lcL, List.map_cons, List.map_nil, x_yes, x_wipe0, x_wipeS, x_rs, x_callS, x_callKS, x_fld, x_sfld, x_meth, x_make, x_fldaug, x_BM0, x_rAdd, x_retN, x_name, x_sub, x_ret, x_next, x_ifS, x_ite, x_iteN, x_T, x_F, x_tT, x_tF, x_op, x_un, x_var0, x_varS, x_c, x_I0, x_I, x_rU, x_nil, x_cons, x_test, x_B, x_bl, x_call, x_CB, x_tup, x_lst, x_not, x_Eq, x_Ne, x_eqII, x_eqSS, x_eqBB,  x_and, x_or, x_andV, x_orV, x_notV, x_if, x_par, x_two, x_drop, x_BM, x_set0, x_setS, x_gcons, x_gnil, x_forL, x_forT, x_forR1, x_forR2, x_forE, x_ref, x_int1, x_oneI, x_oneB, x_noBI, x_twoI, false_or, x_sl, x_noP, x_part, true_and, List.append_nil, cxK, cxKn]; try simp only [V.str.injEq, V.int.injEq, V.bl.injEq])
    refine sfld upd_same SP.cl SP.nO (by show 1 < 1000; decide) ?_
    (try simp only [x_asg, x_mkV, x_value, x_lcR1, x_lcL, List.map_cons, List.map_nil, x_yes, x_wipe0, x_wipeS, x_rs, x_callS, x_callKS, x_fld, x_sfld, x_meth, x_make, x_fldaug, x_BM0, x_rAdd, x_retN, x_name, x_sub, x_ret, x_next, x_ifS, x_ite, x_iteN, x_T, x_F, x_tT, x_tF, x_op, x_un, x_var0, x_varS, x_c, x_I0, x_I, x_rU, x_nil, x_cons, x_test, x_B, x_bl, x_call, x_CB, x_tup, x_lst, x_not, x_Eq, x_Ne, x_eqII, x_eqSS, x_eqBB,  x_and, x_or, x_andV, x_orV, x_notV, x_if, x_par, x_two, x_drop, x_BM, x_set0, x_setS, x_gcons, x_gnil, x_forL, x_forT, x_forR1, x_forR2, x_forE, x_ref, x_int1, x_oneI, x_oneB, x_noBI, x_twoI, false_or, x_sl, x_noP, x_part, true_and, List.append_nil, cxK, cxKn]; try simp only [V.str.injEq, V.int.injEq, V.bl.injEq])
    refine sfld upd_same SP.cl SP.nT (by show 2 < 1000; decide) ?_
    refine q l _ nl ⟨dx, [], by rw [upd_same, sf_make]; rfl, ?_, .nil⟩ ?_
    · rw [upd_ne npl.symm, upd_ne npl.symm, upd_ne npl.symm, upd_same]
    · intro b o h1 h2 e
      rw [upd_ne h1, upd_ne h1, upd_ne h1, upd_ne h2]
      exact e
def okLv (S : Spr) : Prop := S.lv.length < 1000 ∧ ∀ v ∈ S.lv, v.rs.length < 1000000
def spWider (K : PySem.W.Frag) (C : Addr) : Sp := fun vs H Q _ => ∃ (p l : Addr) (S : Spr) (v : Lv) (x : Str) (n : Int), vs = [.ref p, .str x, .int n] ∧ SpAt K C H p l S ∧ S.lv.getLast? = some v ∧ v.rs ≠ [] ∧ okLv S ∧ 1 ≤ n ∧ n ≤ big ∧
  ∀ H', SpAt K C H' p l (wider S v x n) → But p l H H' → Q .non H'
theorem atI_last {xs : List V} {x : V} (h : xs.getLast? = some x) : atI xs (-1) = some x := by
  have hne : xs ≠ [] := fun z => by rw [z] at h; cases h
  have hl : 0 < xs.length := List.length_pos_iff.mpr hne
  rw [List.getLast?_eq_getElem?] at h
  unfold atI ixN
  rw [if_neg (by omega), if_pos (by omega)]
  show xs[(-1 + (xs.length : Int)).toNat]? = some x
  rw [show (-1 + (xs.length : Int)).toNat = xs.length - 1 by omega]
  exact h
theorem Lvs.last {H : Hp} {l : Addr} {xs : List V} {lv : List Lv} {v : Lv} (h : Lvs K H l xs lv) (e : lv.getLast? = some v) : ∃ t q, xs.getLast? = some (.ref t) ∧ SqT K H t [.int v.w, .int v.cut, .ref q] ∧ q ≠ l ∧ RgAt K H q v.rs := by
  have hl := h.len
  rw [List.getLast?_eq_getElem?] at e
  have hi := (List.getElem?_eq_some_iff.mp e).1
  have hx : xs.length - 1 < xs.length := by omega
  obtain ⟨t, q, v', e1, e2, e3⟩ := h.get (List.getElem?_eq_getElem hx)
  rw [hl, e] at e2
  cases e2
  exact ⟨t, q, by rw [List.getLast?_eq_getElem?, List.getElem?_eq_getElem hx, e1], e3⟩
theorem p_wider (T : MTx K C "take_wider_cast" "Spread.take_wider_cast" s_Spread_take_wider_cast) (SP : SpC K mg C) (h_cast : Pr P w K mg base CX0 2 "cast" ["number", "word", "width"] spCast) (h_lowest_result : Pr P w K mg base CX0 1 "lowest_result" ["word", "width"] spLow)
    (h_parted : Pr P w K mg base CX0 1 "parted" ["ranges", "last"] (spParted K)) (h_count_numbers : Pr P w K mg base CX0 1 "count_numbers" ["ranges"] (spCount K)) (h_moved : Pr P w K mg base CX0 1 "moved" ["ranges", "distance"] (spMoved K)) :
    MPr P w K mg base CX0 3 C "take_wider_cast" ["self", "word", "width"] (spWider K C) := by
  refine mkM T sc_Spread_take_wider_cast (fun _ _ _ _ _ _ us hl => match us, hl with | [_, _, _], _ => rfl) (fun vs H Q E h => ?_) (fun f cdv A outer s H vs Q E hG hr h => ?_)
  · obtain ⟨_, _, _, _, _, _, rfl, _⟩ := h
    rfl
  · obtain ⟨p, l, S, v, x, n, rfl, hS, hlast, hne, ⟨hlen, hrl⟩, n0, n1, q⟩ := h
    obtain ⟨dx, xs, hp, hl, hX⟩ := id hS
    have nd := sc_Spread_take_wider_cast.nd
    refine ⟨_, (pss_cons (ps_set (i := 3) nd rfl (.inl rfl) (pe_ix ix_tup (pe_ix ix_list (pe_fld (pv 0) rfl) (pe_un un_neg pe_int) (fun _ _ => rfl)) pe_int (fun _ _ => rfl))) (pss_cons (ps_set (i := 4) nd rfl (.inl rfl) (pe_ix ix_tup (pe_ix ix_list (pv 3) pe_int (fun _ _ => rfl)) pe_int (fun _ _ => rfl))) (pss_cons (ps_fld (pv 0) (pe_op op_sub (pe_P h_cast hr hG (by rfl) (pa_cons (pe_op op_add (pv 4) (pe_fld (pv 0) rfl)) (pa_cons (pv 1) (pa_cons (pv 2) pa_nil)))) (pv 4)) rfl) (pss_cons (ps_set (i := 5) nd rfl (.inl rfl) (pe_op op_sub (pe_op op_sub (pe_op op_add (pe_P h_lowest_result hr hG (by rfl) (pa_cons (pv 1) (pa_cons (pv 2) pa_nil))) (pe_op op_shl pe_int (pv 2))) pe_int) (pe_fld (pv 0) rfl))) (pss_cons (ps_asg (pe_P h_parted hr hG (by rfl) (pa_cons (pv 3) (pa_cons (pv 5) pa_nil))) (pg_tup rfl (pgs_cons (pg_name (i := 6) nd rfl (.inl rfl)) (pgs_cons (pg_name (i := 7) nd rfl (.inl rfl)) pgs_nil)))) (pss_one (ps_if (pt_truth (pv 7) (by intro _; rfl)) (pss_cons (ps_set (i := 8) nd rfl (.inl rfl) (pe_P h_count_numbers hr hG (by rfl) (pa_cons (pv 6) pa_nil))) (pss_one (ps_expr (pe_bm PySem.F.plainAttrs_list PySem.F.slot_list_append PySem.F.type_list_append mt_append (pe_fld (pv 0) rfl) (pa_cons (pe_tup (pa_cons (pv 2) (pa_cons (pv 8) (pa_cons (pe_op op_cat (pe_P h_moved hr hG (by rfl) (pa_cons (pv 7) (pa_cons (pe_un un_neg (pe_op op_shl pe_int (pv 2))) pa_nil))) (pv 6)) pa_nil)))) pa_nil))))) pss_nil))))))), ?_⟩
    show (tSeq _ _) _ [some (V.ref p), some (V.str x), some (V.int n), none, none, none, none, none, none] H
    refine x_seq.mpr ?_
    (try simp only [x_asg, x_mkV, x_value, x_lcR1, x_lcL, List.map_cons, List.map_nil, x_yes, x_wipe0, x_wipeS, x_rs, x_callS, x_callKS, x_fld, x_sfld, x_meth, x_make, x_fldaug, x_BM0, x_rAdd, x_retN, x_name, x_sub, x_ret, x_next, x_ifS, x_ite, x_iteN, x_T, x_F, x_tT, x_tF, x_op, x_un, x_var0, x_varS, x_c, x_I0, x_I, x_rU, x_nil, x_cons, x_test, x_B, x_bl, x_call, x_CB, x_tup, x_lst, x_not, x_Eq, x_Ne, x_eqII, x_eqSS, x_eqBB,  x_and, x_or, x_andV, x_orV, x_notV, x_if, x_par, x_two, x_drop, x_BM, x_set0, x_setS, x_gcons, x_gnil, x_forL, x_forT, x_forR1, x_forR2, x_forE, x_ref, x_int1, x_oneI, x_oneB, x_noBI, x_twoI, false_or, x_sl, x_noP, x_part, true_and, List.append_nil, cxK, cxKn]; try simp only [V.str.injEq, V.int.injEq, V.bl.injEq])
    refine fld hp SP.cl SP.nL (sf_levels _ _ _) ?_
    obtain ⟨t1, rl, hx1, hT1, hrl1, hRg⟩ := hX.last hlast
    obtain ⟨ys, hys, hRs⟩ := id hRg
    obtain ⟨⟨a0, b0⟩, rest, hv⟩ : ∃ ab rest, v.rs = ab :: rest := by
      cases hr : v.rs with
      | nil => exact absurd hr hne
      | cons a b => exact ⟨a, b, rfl⟩
    have hz : v.rs.length ≤ 1000000 := Nat.le_of_lt (hrl v (List.mem_of_getLast? hlast))
    refine x_ixL (SqL.of hl) (atI_last hx1) ?_
    refine x_ixT hT1 rfl ?_
    refine x_seq.mpr ?_
    (try simp only [x_asg, x_mkV, x_value, x_lcR1, x_lcL, List.map_cons, List.map_nil, x_yes, x_wipe0, x_wipeS, x_rs, x_callS, x_callKS, x_fld, x_sfld, x_meth, x_make, x_fldaug, x_BM0, x_rAdd, x_retN, x_name, x_sub, x_ret, x_next, x_ifS, x_ite, x_iteN, x_T, x_F, x_tT, x_tF, x_op, x_un, x_var0, x_varS, x_c, x_I0, x_I, x_rU, x_nil, x_cons, x_test, x_B, x_bl, x_call, x_CB, x_tup, x_lst, x_not, x_Eq, x_Ne, x_eqII, x_eqSS, x_eqBB,  x_and, x_or, x_andV, x_orV, x_notV, x_if, x_par, x_two, x_drop, x_BM, x_set0, x_setS, x_gcons, x_gnil, x_forL, x_forT, x_forR1, x_forR2, x_forE, x_ref, x_int1, x_oneI, x_oneB, x_noBI, x_twoI, false_or, x_sl, x_noP, x_part, true_and, List.append_nil, cxK, cxKn]; try simp only [V.str.injEq, V.int.injEq, V.bl.injEq])
    obtain ⟨z0, hz0⟩ : ∃ z0, ys[0]? = some z0 := by
      have : 0 < ys.length := by rw [hRs.len, hv]; exact Nat.succ_pos _
      exact ⟨_, List.getElem?_eq_getElem this⟩
    obtain ⟨t2, a, b, rfl, hab, hT2⟩ := hRs.get hz0
    rw [hv] at hab
    cases hab
    refine x_ixL (SqL.of hys) (atI_nat (j := 0) hz0) ?_
    refine x_ixT hT2 rfl ?_
    refine x_seq.mpr ?_
    (try simp only [x_asg, x_mkV, x_value, x_lcR1, x_lcL, List.map_cons, List.map_nil, x_yes, x_wipe0, x_wipeS, x_rs, x_callS, x_callKS, x_fld, x_sfld, x_meth, x_make, x_fldaug, x_BM0, x_rAdd, x_retN, x_name, x_sub, x_ret, x_next, x_ifS, x_ite, x_iteN, x_T, x_F, x_tT, x_tF, x_op, x_un, x_var0, x_varS, x_c, x_I0, x_I, x_rU, x_nil, x_cons, x_test, x_B, x_bl, x_call, x_CB, x_tup, x_lst, x_not, x_Eq, x_Ne, x_eqII, x_eqSS, x_eqBB,  x_and, x_or, x_andV, x_orV, x_notV, x_if, x_par, x_two, x_drop, x_BM, x_set0, x_setS, x_gcons, x_gnil, x_forL, x_forT, x_forR1, x_forR2, x_forE, x_ref, x_int1, x_oneI, x_oneB, x_noBI, x_twoI, false_or, x_sl, x_noP, x_part, true_and, List.append_nil, cxK, cxKn]; try simp only [V.str.injEq, V.int.injEq, V.bl.injEq])
    refine fld hp SP.cl SP.nO (sf_offset _ _ _) ?_
    (try simp only [x_asg, x_mkV, x_value, x_lcR1, x_lcL, List.map_cons, List.map_nil, x_yes, x_wipe0, x_wipeS, x_rs, x_callS, x_callKS, x_fld, x_sfld, x_meth, x_make, x_fldaug, x_BM0, x_rAdd, x_retN, x_name, x_sub, x_ret, x_next, x_ifS, x_ite, x_iteN, x_T, x_F, x_tT, x_tF, x_op, x_un, x_var0, x_varS, x_c, x_I0, x_I, x_rU, x_nil, x_cons, x_test, x_B, x_bl, x_call, x_CB, x_tup, x_lst, x_not, x_Eq, x_Ne, x_eqII, x_eqSS, x_eqBB,  x_and, x_or, x_andV, x_orV, x_notV, x_if, x_par, x_two, x_drop, x_BM, x_set0, x_setS, x_gcons, x_gnil, x_forL, x_forT, x_forR1, x_forR2, x_forE, x_ref, x_int1, x_oneI, x_oneB, x_noBI, x_twoI, false_or, x_sl, x_noP, x_part, true_and, List.append_nil, cxK, cxKn]; try simp only [V.str.injEq, V.int.injEq, V.bl.injEq])
    refine ⟨_, _, _, rfl, n0, n1, ?_⟩
    (try simp only [x_asg, x_mkV, x_value, x_lcR1, x_lcL, List.map_cons, List.map_nil, x_yes, x_wipe0, x_wipeS, x_rs, x_callS, x_callKS, x_fld, x_sfld, x_meth, x_make, x_fldaug, x_BM0, x_rAdd, x_retN, x_name, x_sub, x_ret, x_next, x_ifS, x_ite, x_iteN, x_T, x_F, x_tT, x_tF, x_op, x_un, x_var0, x_varS, x_c, x_I0, x_I, x_rU, x_nil, x_cons, x_test, x_B, x_bl, x_call, x_CB, x_tup, x_lst, x_not, x_Eq, x_Ne, x_eqII, x_eqSS, x_eqBB,  x_and, x_or, x_andV, x_orV, x_notV, x_if, x_par, x_two, x_drop, x_BM, x_set0, x_setS, x_gcons, x_gnil, x_forL, x_forT, x_forR1, x_forR2, x_forE, x_ref, x_int1, x_oneI, x_oneB, x_noBI, x_twoI, false_or, x_sl, x_noP, x_part, true_and, List.append_nil, cxK, cxKn]; try simp only [V.str.injEq, V.int.injEq, V.bl.injEq])
    refine sfld hp SP.cl SP.nO (by show 3 < 1000; decide) ?_
    rw [sf_put_offset]
    have hlow : lowOf v.rs = a0 := by rw [hv]; rfl
    generalize hoff : castI (a0 + S.off) x n - a0 = off
    have B1 : But p l H (upd H p (.ins C dx (sf l off S.tot))) := .updP
    have hp1 : upd H p (.ins C dx (sf l off S.tot)) p = some (.ins C dx (sf l off S.tot)) := upd_same
    have hpl : p ≠ l := fun z => by rw [z, hl] at hp; exact nomatch hp
    have hl1 : upd H p (.ins C dx (sf l off S.tot)) l = some (.lst xs) := by rw [upd_ne hpl.symm]; exact hl
    have hX1 := hX.but B1 hp hl
    have hRg1 := hRg.but B1 hp hl hrl1
    generalize upd H p (.ins C dx (sf l off S.tot)) = H1 at B1 hp1 hl1 hX1 hRg1 ⊢
    have n1' := n1
    unfold big at n1'
    refine x_seq.mpr ?_
    (try simp only [x_asg, x_mkV, x_value, x_lcR1, x_lcL, List.map_cons, List.map_nil, x_yes, x_wipe0, x_wipeS, x_rs, x_callS, x_callKS, x_fld, x_sfld, x_meth, x_make, x_fldaug, x_BM0, x_rAdd, x_retN, x_name, x_sub, x_ret, x_next, x_ifS, x_ite, x_iteN, x_T, x_F, x_tT, x_tF, x_op, x_un, x_var0, x_varS, x_c, x_I0, x_I, x_rU, x_nil, x_cons, x_test, x_B, x_bl, x_call, x_CB, x_tup, x_lst, x_not, x_Eq, x_Ne, x_eqII, x_eqSS, x_eqBB,  x_and, x_or, x_andV, x_orV, x_notV, x_if, x_par, x_two, x_drop, x_BM, x_set0, x_setS, x_gcons, x_gnil, x_forL, x_forT, x_forR1, x_forR2, x_forE, x_ref, x_int1, x_oneI, x_oneB, x_noBI, x_twoI, false_or, x_sl, x_noP, x_part, true_and, List.append_nil, cxK, cxKn]; try simp only [V.str.injEq, V.int.injEq, V.bl.injEq])
    refine ⟨_, _, rfl, n0, n1, ?_⟩
    refine ⟨⟨by omega, by omega, by decide⟩, ?_⟩
    (try simp only [x_asg, x_mkV, x_value, x_lcR1, x_lcL, List.map_cons, List.map_nil, x_yes, x_wipe0, x_wipeS, x_rs, x_callS, x_callKS, x_fld, x_sfld, x_meth, x_make, x_fldaug, x_BM0, x_rAdd, x_retN, x_name, x_sub, x_ret, x_next, x_ifS, x_ite, x_iteN, x_T, x_F, x_tT, x_tF, x_op, x_un, x_var0, x_varS, x_c, x_I0, x_I, x_rU, x_nil, x_cons, x_test, x_B, x_bl, x_call, x_CB, x_tup, x_lst, x_not, x_Eq, x_Ne, x_eqII, x_eqSS, x_eqBB,  x_and, x_or, x_andV, x_orV, x_notV, x_if, x_par, x_two, x_drop, x_BM, x_set0, x_setS, x_gcons, x_gnil, x_forL, x_forT, x_forR1, x_forR2, x_forE, x_ref, x_int1, x_oneI, x_oneB, x_noBI, x_twoI, false_or, x_sl, x_noP, x_part, true_and, List.append_nil, cxK, cxKn]; try simp only [V.str.injEq, V.int.injEq, V.bl.injEq])
    refine fld hp1 SP.cl SP.nO (sf_offset _ _ _) ?_
    (try simp only [x_asg, x_mkV, x_value, x_lcR1, x_lcL, List.map_cons, List.map_nil, x_yes, x_wipe0, x_wipeS, x_rs, x_callS, x_callKS, x_fld, x_sfld, x_meth, x_make, x_fldaug, x_BM0, x_rAdd, x_retN, x_name, x_sub, x_ret, x_next, x_ifS, x_ite, x_iteN, x_T, x_F, x_tT, x_tF, x_op, x_un, x_var0, x_varS, x_c, x_I0, x_I, x_rU, x_nil, x_cons, x_test, x_B, x_bl, x_call, x_CB, x_tup, x_lst, x_not, x_Eq, x_Ne, x_eqII, x_eqSS, x_eqBB,  x_and, x_or, x_andV, x_orV, x_notV, x_if, x_par, x_two, x_drop, x_BM, x_set0, x_setS, x_gcons, x_gnil, x_forL, x_forT, x_forR1, x_forR2, x_forE, x_ref, x_int1, x_oneI, x_oneB, x_noBI, x_twoI, false_or, x_sl, x_noP, x_part, true_and, List.append_nil, cxK, cxKn]; try simp only [V.str.injEq, V.int.injEq, V.bl.injEq])
    rw [Int.one_mul]
    generalize hz2 : lowI x n + 2 ^ n.toNat - 1 - off = z
    refine x_seq.mpr ?_
    (try simp only [x_asg, x_mkV, x_value, x_lcR1, x_lcL, List.map_cons, List.map_nil, x_yes, x_wipe0, x_wipeS, x_rs, x_callS, x_callKS, x_fld, x_sfld, x_meth, x_make, x_fldaug, x_BM0, x_rAdd, x_retN, x_name, x_sub, x_ret, x_next, x_ifS, x_ite, x_iteN, x_T, x_F, x_tT, x_tF, x_op, x_un, x_var0, x_varS, x_c, x_I0, x_I, x_rU, x_nil, x_cons, x_test, x_B, x_bl, x_call, x_CB, x_tup, x_lst, x_not, x_Eq, x_Ne, x_eqII, x_eqSS, x_eqBB,  x_and, x_or, x_andV, x_orV, x_notV, x_if, x_par, x_two, x_drop, x_BM, x_set0, x_setS, x_gcons, x_gnil, x_forL, x_forT, x_forR1, x_forR2, x_forE, x_ref, x_int1, x_oneI, x_oneB, x_noBI, x_twoI, false_or, x_sl, x_noP, x_part, true_and, List.append_nil, cxK, cxKn]; try simp only [V.str.injEq, V.int.injEq, V.bl.injEq])
    refine ⟨_, _, _, rfl, hRg1, hz, fun pt ls ll H2 npt s2 hpt nls nll nsl hst hlv => ?_⟩
    refine x_gtup (SqT.of hpt) rfl ?_
    (try simp only [x_asg, x_mkV, x_value, x_lcR1, x_lcL, List.map_cons, List.map_nil, x_yes, x_wipe0, x_wipeS, x_rs, x_callS, x_callKS, x_fld, x_sfld, x_meth, x_make, x_fldaug, x_BM0, x_rAdd, x_retN, x_name, x_sub, x_ret, x_next, x_ifS, x_ite, x_iteN, x_T, x_F, x_tT, x_tF, x_op, x_un, x_var0, x_varS, x_c, x_I0, x_I, x_rU, x_nil, x_cons, x_test, x_B, x_bl, x_call, x_CB, x_tup, x_lst, x_not, x_Eq, x_Ne, x_eqII, x_eqSS, x_eqBB,  x_and, x_or, x_andV, x_orV, x_notV, x_if, x_par, x_two, x_drop, x_BM, x_set0, x_setS, x_gcons, x_gnil, x_forL, x_forT, x_forR1, x_forR2, x_forE, x_ref, x_int1, x_oneI, x_oneB, x_noBI, x_twoI, false_or, x_sl, x_noP, x_part, true_and, List.append_nil, cxK, cxKn]; try simp only [V.str.injEq, V.int.injEq, V.bl.injEq])
    have hp2 := s2 _ _ hp1
    have hl2 := s2 _ _ hl1
    have hX2 := hX1.same s2
    have B2 := B1.trans (.of s2)
    obtain ⟨us, hus, hUs⟩ := id hlv
    refine ⟨_, truL (SqL.of hus), ?_⟩
    have ek : us.isEmpty = (leavR v.rs z).isEmpty := by
      have := hUs.len
      cases us <;> cases hlr : leavR v.rs z <;> rw [hlr] at this <;> first | rfl | (exact nomatch this)
    rw [ek]
    have hW : wider S v x n = if leavR v.rs z = [] then ⟨S.lv, off, S.tot⟩ else ⟨S.lv ++ [⟨n, cntR (stayR v.rs z), movR (leavR v.rs z) (-(2 ^ n.toNat)) ++ stayR v.rs z⟩], off, S.tot⟩ := by
      unfold wider
      rw [hlow, hoff]
      dsimp only
      rw [hz2]
    cases hle : leavR v.rs z with
    | nil =>
      rw [hle, if_pos rfl] at hW
      show Q .non H2
      exact q H2 (by rw [hW]; exact ⟨dx, xs, hp2, hl2, hX2⟩) B2
    | cons c cs =>
      rw [hle, if_neg (by simp)] at hW
      rw [← hle] at hW
      rw [if_pos (show (!(c :: cs).isEmpty) = true from rfl)]
      refine x_seq.mpr ?_
      (try simp only [x_asg, x_mkV, x_value, x_lcR1, x_lcL, List.map_cons, List.map_nil, x_yes, x_wipe0, x_wipeS, x_rs, x_callS, x_callKS, x_fld, x_sfld, x_meth, x_make, x_fldaug, x_BM0, x_rAdd, x_retN, x_name, x_sub, x_ret, x_next, x_ifS, x_ite, x_iteN, x_T, x_F, x_tT, x_tF, x_op, x_un, x_var0, x_varS, x_c, x_I0, x_I, x_rU, x_nil, x_cons, x_test, x_B, x_bl, x_call, x_CB, x_tup, x_lst, x_not, x_Eq, x_Ne, x_eqII, x_eqSS, x_eqBB,  x_and, x_or, x_andV, x_orV, x_notV, x_if, x_par, x_two, x_drop, x_BM, x_set0, x_setS, x_gcons, x_gnil, x_forL, x_forT, x_forR1, x_forR2, x_forE, x_ref, x_int1, x_oneI, x_oneB, x_noBI, x_twoI, false_or, x_sl, x_noP, x_part, true_and, List.append_nil, cxK, cxKn]; try simp only [V.str.injEq, V.int.injEq, V.bl.injEq])
      refine ⟨_, _, rfl, hst, Nat.le_trans (stayR_len _ _) hz, fun H3 s3 => ?_⟩
      (try simp only [x_asg, x_mkV, x_value, x_lcR1, x_lcL, List.map_cons, List.map_nil, x_yes, x_wipe0, x_wipeS, x_rs, x_callS, x_callKS, x_fld, x_sfld, x_meth, x_make, x_fldaug, x_BM0, x_rAdd, x_retN, x_name, x_sub, x_ret, x_next, x_ifS, x_ite, x_iteN, x_T, x_F, x_tT, x_tF, x_op, x_un, x_var0, x_varS, x_c, x_I0, x_I, x_rU, x_nil, x_cons, x_test, x_B, x_bl, x_call, x_CB, x_tup, x_lst, x_not, x_Eq, x_Ne, x_eqII, x_eqSS, x_eqBB,  x_and, x_or, x_andV, x_orV, x_notV, x_if, x_par, x_two, x_drop, x_BM, x_set0, x_setS, x_gcons, x_gnil, x_forL, x_forT, x_forR1, x_forR2, x_forE, x_ref, x_int1, x_oneI, x_oneB, x_noBI, x_twoI, false_or, x_sl, x_noP, x_part, true_and, List.append_nil, cxK, cxKn]; try simp only [V.str.injEq, V.int.injEq, V.bl.injEq])
      refine fld (s3 _ _ hp2) SP.cl SP.nL (sf_levels _ _ _) ?_
      refine ⟨x_tyL (SqL.of (s3 _ _ hl2)), ?_⟩
      (try simp only [x_asg, x_mkV, x_value, x_lcR1, x_lcL, List.map_cons, List.map_nil, x_yes, x_wipe0, x_wipeS, x_rs, x_callS, x_callKS, x_fld, x_sfld, x_meth, x_make, x_fldaug, x_BM0, x_rAdd, x_retN, x_name, x_sub, x_ret, x_next, x_ifS, x_ite, x_iteN, x_T, x_F, x_tT, x_tF, x_op, x_un, x_var0, x_varS, x_c, x_I0, x_I, x_rU, x_nil, x_cons, x_test, x_B, x_bl, x_call, x_CB, x_tup, x_lst, x_not, x_Eq, x_Ne, x_eqII, x_eqSS, x_eqBB,  x_and, x_or, x_andV, x_orV, x_notV, x_if, x_par, x_two, x_drop, x_BM, x_set0, x_setS, x_gcons, x_gnil, x_forL, x_forT, x_forR1, x_forR2, x_forE, x_ref, x_int1, x_oneI, x_oneB, x_noBI, x_twoI, false_or, x_sl, x_noP, x_part, true_and, List.append_nil, cxK, cxKn]; try simp only [V.str.injEq, V.int.injEq, V.bl.injEq])
      refine ⟨⟨by omega, by omega, by decide⟩, ?_⟩
      rw [Int.one_mul]
      refine ⟨_, _, _, rfl, hlv.same s3, Nat.le_trans (leavR_len _ _) hz, fun lm H4 nlm s4 hm => ?_⟩
      obtain ⟨ms, hms, hMs⟩ := hm
      obtain ⟨ss, hss, hSs⟩ := (hst.same s3).same s4
      refine x_cat hms hss ?_ fun pc npc => ?_
      · rw [hMs.len, hSs.len, sizeLine_eq]
        unfold movR
        rw [List.length_map]
        have h1 := leavR_len v.rs z
        have h2 := stayR_len v.rs z
        omega
      have s5 := same_new (o := .lst (ms ++ ss)) npc
      refine ⟨by show 3 ≤ sizeLine; decide, fun pn npn => ?_⟩
      have s6 := same_new (o := .tup [.int n, .int (cntR (stayR v.rs z)), .ref pc]) npn
      have s36 := ((s3.trans s4).trans s5).trans s6
      have hp6 := s36 _ _ hp2
      have hl6 := s36 _ _ hl2
      have hX6 := hX2.same s36
      have hpc : RgAt K (upd (upd H4 pc (.lst (ms ++ ss))) pn (.tup [.int n, .int (cntR (stayR v.rs z)), .ref pc])) pc (movR (leavR v.rs z) (-(2 ^ n.toNat)) ++ stayR v.rs z) :=
        ⟨ms ++ ss, s6 _ _ upd_same, (hMs.append hSs).same fun h => (s5.trans s6) _ _ h⟩
      have hpn : SqT K (upd (upd H4 pc (.lst (ms ++ ss))) pn (.tup [.int n, .int (cntR (stayR v.rs z)), .ref pc])) pn [.int n, .int (cntR (stayR v.rs z)), .ref pc] := SqT.of upd_same
      have hcl : pc ≠ l := fun z => by rw [z, s4 _ _ (s3 _ _ hl2)] at npc; cases npc
      generalize upd (upd H4 pc (.lst (ms ++ ss))) pn (.tup [.int n, .int (cntR (stayR v.rs z)), .ref pc]) = H6 at s36 hp6 hl6 hX6 hpc hpn ⊢
      refine x_app hl6 ?_ ?_
      · rw [hX6.len, sizeLine_eq]
        omega
      · have B7 : But p l H6 (upd H6 l (.lst (xs ++ [.ref pn]))) := .updL
        refine q _ ?_ ((B2.trans (.of s36)).trans B7)
        rw [hW]
        refine ⟨dx, xs ++ [.ref pn], by rw [upd_ne hpl]; exact hp6, upd_same, ?_⟩
        exact (hX6.but B7 hp6 hl6).snoc (But.tup B7 hp6 hl6 (fun _ => nofun) (fun _ _ => nofun) hpn) hcl (hpc.but B7 hp6 hl6 hcl)
def spTake (K : PySem.W.Frag) (C : Addr) : Sp := fun vs H Q _ => ∃ (p l : Addr) (S : Spr) (x : Str) (n : Int), vs = [.ref p, .str x, .int n] ∧ SpAt K C H p l S ∧ Full S ∧ okLv S ∧ okS (x, n) = true ∧ n ≤ (if x = "add" then n else big) ∧
  ∀ H', SpAt K C H' p l (takeS S x n) → But p l H H' → Q .non H'
theorem p_take (T : MTx K C "take" "Spread.take" s_Spread_take) (SP : SpC K mg C) (h_lowest_result : Pr P w K mg base CX0 1 "lowest_result" ["word", "width"] spLow)
    (h_take_wider_cast : MPr P w K mg base CX0 3 C "take_wider_cast" ["self", "word", "width"] (spWider K C)) : MPr P w K mg base CX0 4 C "take" ["self", "word", "amount"] (spTake K C) := by
  refine mkM T sc_Spread_take (fun _ _ _ _ _ _ us hl => match us, hl with | [_, _, _], _ => rfl) (fun vs H Q E h => ?_) (fun f cdv A outer s H vs Q E hG hr h => ?_)
  · obtain ⟨_, _, _, _, _, rfl, _⟩ := h
    rfl
  · obtain ⟨p, l, S, x, n, rfl, hS, hF, ⟨hlen, hrl⟩, ok, hb, q⟩ := h
    obtain ⟨dx, xs, hp, hl, hX⟩ := id hS
    have hpl : p ≠ l := fun z => by rw [z, hl] at hp; exact nomatch hp
    have nd := sc_Spread_take.nd
    refine ⟨_, (pss_cons (ps_if (pt_cmpR op_eq (pv 1) pe_str (nomark _)) (pss_cons (ps_fldaug (pv 0) (pv 2) in_add) (pss_cons (ps_fldaug (pv 0) (pv 2) in_add) (pss_one ps_retN))) pss_nil) (pss_cons (ps_while PassesOwn.never (PW.pt (pw_and (pt_truth (pe_fld (pv 0) rfl) (by intro _; rfl)) (pw_and1 (pt_cmpR op_ge (pe_ix ix_tup (pe_ix ix_list (pe_fld (pv 0) rfl) (pe_un un_neg pe_int) (fun _ _ => rfl)) pe_int (fun _ _ => rfl)) (pv 2) (nomark _))))) (pss_one (ps_expr (pe_bm0 PySem.F.plainAttrs_list PySem.F.slot_list_pop PySem.F.type_list_pop mt_pop (pe_fld (pv 0) rfl))))) (pss_one (ps_if (pt_truth (pe_fld (pv 0) rfl) (by intro _; rfl)) (pss_one (ps_expr (pe_MP (pv 0) SP.cl h_take_wider_cast hr hG (pa_cons (pv 1) (pa_cons (pv 2) pa_nil))))) (pss_cons (ps_expr (pe_bm PySem.F.plainAttrs_list PySem.F.slot_list_append PySem.F.type_list_append mt_append (pe_fld (pv 0) rfl) (pa_cons (pe_tup (pa_cons (pv 2) (pa_cons pe_int (pa_cons (pe_lst (pa_cons (pe_tup (pa_cons pe_int (pa_cons (pe_op op_sub (pe_op op_shl pe_int (pv 2)) pe_int) pa_nil))) pa_nil)) pa_nil)))) pa_nil))) (pss_one (ps_fld (pv 0) (pe_P h_lowest_result hr hG (by rfl) (pa_cons (pv 1) (pa_cons (pv 2) pa_nil))) rfl))))))), ?_⟩
    show (tSeq _ _) _ [some (V.ref p), some (V.str x), some (V.int n)] H
    refine x_seq.mpr ?_
    (try simp only [x_asg, x_mkV, x_value, x_lcR1, x_lcL, List.map_cons, List.map_nil, x_yes, x_wipe0, x_wipeS, x_rs, x_callS, x_callKS, x_fld, x_sfld, x_meth, x_make, x_fldaug, x_BM0, x_rAdd, x_retN, x_name, x_sub, x_ret, x_next, x_ifS, x_ite, x_iteN, x_T, x_F, x_tT, x_tF, x_op, x_un, x_var0, x_varS, x_c, x_I0, x_I, x_rU, x_nil, x_cons, x_test, x_B, x_bl, x_call, x_CB, x_tup, x_lst, x_not, x_Eq, x_Ne, x_eqII, x_eqSS, x_eqBB,  x_and, x_or, x_andV, x_orV, x_notV, x_if, x_par, x_two, x_drop, x_BM, x_set0, x_setS, x_gcons, x_gnil, x_forL, x_forT, x_forR1, x_forR2, x_forE, x_ref, x_int1, x_oneI, x_oneB, x_noBI, x_twoI, false_or, x_sl, x_noP, x_part, true_and, List.append_nil, cxK, cxKn]; try simp only [V.str.injEq, V.int.injEq, V.bl.injEq])
    refine ⟨fun h => ?_, fun h => ?_⟩
    · refine x_seq.mpr ?_
      (try simp only [x_asg, x_mkV, x_value, x_lcR1, x_lcL, List.map_cons, List.map_nil, x_yes, x_wipe0, x_wipeS, x_rs, x_callS, x_callKS, x_fld, x_sfld, x_meth, x_make, x_fldaug, x_BM0, x_rAdd, x_retN, x_name, x_sub, x_ret, x_next, x_ifS, x_ite, x_iteN, x_T, x_F, x_tT, x_tF, x_op, x_un, x_var0, x_varS, x_c, x_I0, x_I, x_rU, x_nil, x_cons, x_test, x_B, x_bl, x_call, x_CB, x_tup, x_lst, x_not, x_Eq, x_Ne, x_eqII, x_eqSS, x_eqBB,  x_and, x_or, x_andV, x_orV, x_notV, x_if, x_par, x_two, x_drop, x_BM, x_set0, x_setS, x_gcons, x_gnil, x_forL, x_forT, x_forR1, x_forR2, x_forE, x_ref, x_int1, x_oneI, x_oneB, x_noBI, x_twoI, false_or, x_sl, x_noP, x_part, true_and, List.append_nil, cxK, cxKn]; try simp only [V.str.injEq, V.int.injEq, V.bl.injEq])
      refine ⟨p, C, dx, _, _, rfl, hp, SP.cl, SP.nO, sf_offset _ _ _, ?_⟩
      (try simp only [x_asg, x_mkV, x_value, x_lcR1, x_lcL, List.map_cons, List.map_nil, x_yes, x_wipe0, x_wipeS, x_rs, x_callS, x_callKS, x_fld, x_sfld, x_meth, x_make, x_fldaug, x_BM0, x_rAdd, x_retN, x_name, x_sub, x_ret, x_next, x_ifS, x_ite, x_iteN, x_T, x_F, x_tT, x_tF, x_op, x_un, x_var0, x_varS, x_c, x_I0, x_I, x_rU, x_nil, x_cons, x_test, x_B, x_bl, x_call, x_CB, x_tup, x_lst, x_not, x_Eq, x_Ne, x_eqII, x_eqSS, x_eqBB,  x_and, x_or, x_andV, x_orV, x_notV, x_if, x_par, x_two, x_drop, x_BM, x_set0, x_setS, x_gcons, x_gnil, x_forL, x_forT, x_forR1, x_forR2, x_forE, x_ref, x_int1, x_oneI, x_oneB, x_noBI, x_twoI, false_or, x_sl, x_noP, x_part, true_and, List.append_nil, cxK, cxKn]; try simp only [V.str.injEq, V.int.injEq, V.bl.injEq])
      refine ⟨dx, _, hp, by show 3 < 1000; decide, ?_⟩
      rw [sf_put_offset]
      refine x_seq.mpr ?_
      (try simp only [x_asg, x_mkV, x_value, x_lcR1, x_lcL, List.map_cons, List.map_nil, x_yes, x_wipe0, x_wipeS, x_rs, x_callS, x_callKS, x_fld, x_sfld, x_meth, x_make, x_fldaug, x_BM0, x_rAdd, x_retN, x_name, x_sub, x_ret, x_next, x_ifS, x_ite, x_iteN, x_T, x_F, x_tT, x_tF, x_op, x_un, x_var0, x_varS, x_c, x_I0, x_I, x_rU, x_nil, x_cons, x_test, x_B, x_bl, x_call, x_CB, x_tup, x_lst, x_not, x_Eq, x_Ne, x_eqII, x_eqSS, x_eqBB,  x_and, x_or, x_andV, x_orV, x_notV, x_if, x_par, x_two, x_drop, x_BM, x_set0, x_setS, x_gcons, x_gnil, x_forL, x_forT, x_forR1, x_forR2, x_forE, x_ref, x_int1, x_oneI, x_oneB, x_noBI, x_twoI, false_or, x_sl, x_noP, x_part, true_and, List.append_nil, cxK, cxKn]; try simp only [V.str.injEq, V.int.injEq, V.bl.injEq])
      refine ⟨p, C, dx, _, _, rfl, upd_same, SP.cl, SP.nT, sf_total _ _ _, ?_⟩
      (try simp only [x_asg, x_mkV, x_value, x_lcR1, x_lcL, List.map_cons, List.map_nil, x_yes, x_wipe0, x_wipeS, x_rs, x_callS, x_callKS, x_fld, x_sfld, x_meth, x_make, x_fldaug, x_BM0, x_rAdd, x_retN, x_name, x_sub, x_ret, x_next, x_ifS, x_ite, x_iteN, x_T, x_F, x_tT, x_tF, x_op, x_un, x_var0, x_varS, x_c, x_I0, x_I, x_rU, x_nil, x_cons, x_test, x_B, x_bl, x_call, x_CB, x_tup, x_lst, x_not, x_Eq, x_Ne, x_eqII, x_eqSS, x_eqBB,  x_and, x_or, x_andV, x_orV, x_notV, x_if, x_par, x_two, x_drop, x_BM, x_set0, x_setS, x_gcons, x_gnil, x_forL, x_forT, x_forR1, x_forR2, x_forE, x_ref, x_int1, x_oneI, x_oneB, x_noBI, x_twoI, false_or, x_sl, x_noP, x_part, true_and, List.append_nil, cxK, cxKn]; try simp only [V.str.injEq, V.int.injEq, V.bl.injEq])
      refine ⟨dx, _, upd_same, by show 3 < 1000; decide, ?_⟩
      rw [sf_put_total]
      (try simp only [x_asg, x_mkV, x_value, x_lcR1, x_lcL, List.map_cons, List.map_nil, x_yes, x_wipe0, x_wipeS, x_rs, x_callS, x_callKS, x_fld, x_sfld, x_meth, x_make, x_fldaug, x_BM0, x_rAdd, x_retN, x_name, x_sub, x_ret, x_next, x_ifS, x_ite, x_iteN, x_T, x_F, x_tT, x_tF, x_op, x_un, x_var0, x_varS, x_c, x_I0, x_I, x_rU, x_nil, x_cons, x_test, x_B, x_bl, x_call, x_CB, x_tup, x_lst, x_not, x_Eq, x_Ne, x_eqII, x_eqSS, x_eqBB,  x_and, x_or, x_andV, x_orV, x_notV, x_if, x_par, x_two, x_drop, x_BM, x_set0, x_setS, x_gcons, x_gnil, x_forL, x_forT, x_forR1, x_forR2, x_forE, x_ref, x_int1, x_oneI, x_oneB, x_noBI, x_twoI, false_or, x_sl, x_noP, x_part, true_and, List.append_nil, cxK, cxKn]; try simp only [V.str.injEq, V.int.injEq, V.bl.injEq])
      have B : But p l H (upd (upd H p (.ins C dx (sf l (S.off + n) S.tot))) p (.ins C dx (sf l (S.off + n) (S.tot + n)))) := But.updP.trans .updP
      refine q _ ?_ B
      unfold takeS
      rw [if_pos h]
      exact ⟨dx, xs, upd_same, by rw [upd_ne hpl.symm, upd_ne hpl.symm]; exact hl, hX.but B hp hl⟩
    rw [if_neg h] at hb
    have n0 : 1 ≤ n := isC_of ok h
    refine x_seq.mpr (x_while.mpr ?_)
    refine ⟨fun m σ H' => σ = [some (.ref p), some (.str x), some (.int n)] ∧ ∃ lv, m = lv.length ∧ SpAt K C H' p l ⟨lv, S.off, S.tot⟩ ∧ popS lv n = popS S.lv n ∧ (∀ v ∈ lv, v ∈ S.lv) ∧ lv.length ≤ S.lv.length ∧ But p l H H',
      ⟨_, rfl, S.lv, rfl, hS, rfl, fun _ h => h, Nat.le_refl _, .refl⟩, fun m σ H1 h1 => ?_⟩
    obtain ⟨rfl, lv, rfl, ⟨dx1, xs1, hp1, hl1, hX1⟩, epop, hsub, hle, B1⟩ := h1
    rcases List.eq_nil_or_concat lv with rfl | ⟨l0, v, rfl⟩
    · cases hX1
      (try simp only [x_asg, x_mkV, x_value, x_lcR1, x_lcL, List.map_cons, List.map_nil, x_yes, x_wipe0, x_wipeS, x_rs, x_callS, x_callKS, x_fld, x_sfld, x_meth, x_make, x_fldaug, x_BM0, x_rAdd, x_retN, x_name, x_sub, x_ret, x_next, x_ifS, x_ite, x_iteN, x_T, x_F, x_tT, x_tF, x_op, x_un, x_var0, x_varS, x_c, x_I0, x_I, x_rU, x_nil, x_cons, x_test, x_B, x_bl, x_call, x_CB, x_tup, x_lst, x_not, x_Eq, x_Ne, x_eqII, x_eqSS, x_eqBB,  x_and, x_or, x_andV, x_orV, x_notV, x_if, x_par, x_two, x_drop, x_BM, x_set0, x_setS, x_gcons, x_gnil, x_forL, x_forT, x_forR1, x_forR2, x_forE, x_ref, x_int1, x_oneI, x_oneB, x_noBI, x_twoI, false_or, x_sl, x_noP, x_part, true_and, List.append_nil, cxK, cxKn]; try simp only [V.str.injEq, V.int.injEq, V.bl.injEq])
      refine fld hp1 SP.cl SP.nL (sf_levels _ _ _) ?_
      refine ⟨_, truL (SqL.of hl1), ?_⟩
      rw [if_neg (show ¬ (!([] : List V).isEmpty) = true from by decide)]
      refine fld hp1 SP.cl SP.nL (sf_levels _ _ _) ?_
      refine ⟨_, truL (SqL.of hl1), ?_⟩
      rw [if_neg (show ¬ (!([] : List V).isEmpty) = true from by decide)]
      have hT : takeS S x n = ⟨[⟨n, 0, [(0, 2 ^ n.toNat - 1)]⟩], lowI x n, S.tot⟩ := by
        unfold takeS
        rw [if_neg h, ← epop]
        rfl
      unfold big at hb
      refine x_seq.mpr ?_
      (try simp only [x_asg, x_mkV, x_value, x_lcR1, x_lcL, List.map_cons, List.map_nil, x_yes, x_wipe0, x_wipeS, x_rs, x_callS, x_callKS, x_fld, x_sfld, x_meth, x_make, x_fldaug, x_BM0, x_rAdd, x_retN, x_name, x_sub, x_ret, x_next, x_ifS, x_ite, x_iteN, x_T, x_F, x_tT, x_tF, x_op, x_un, x_var0, x_varS, x_c, x_I0, x_I, x_rU, x_nil, x_cons, x_test, x_B, x_bl, x_call, x_CB, x_tup, x_lst, x_not, x_Eq, x_Ne, x_eqII, x_eqSS, x_eqBB,  x_and, x_or, x_andV, x_orV, x_notV, x_if, x_par, x_two, x_drop, x_BM, x_set0, x_setS, x_gcons, x_gnil, x_forL, x_forT, x_forR1, x_forR2, x_forE, x_ref, x_int1, x_oneI, x_oneB, x_noBI, x_twoI, false_or, x_sl, x_noP, x_part, true_and, List.append_nil, cxK, cxKn]; try simp only [V.str.injEq, V.int.injEq, V.bl.injEq])
      refine fld hp1 SP.cl SP.nL (sf_levels _ _ _) ?_
      refine ⟨x_tyL (SqL.of hl1), ?_⟩
      (try simp only [x_asg, x_mkV, x_value, x_lcR1, x_lcL, List.map_cons, List.map_nil, x_yes, x_wipe0, x_wipeS, x_rs, x_callS, x_callKS, x_fld, x_sfld, x_meth, x_make, x_fldaug, x_BM0, x_rAdd, x_retN, x_name, x_sub, x_ret, x_next, x_ifS, x_ite, x_iteN, x_T, x_F, x_tT, x_tF, x_op, x_un, x_var0, x_varS, x_c, x_I0, x_I, x_rU, x_nil, x_cons, x_test, x_B, x_bl, x_call, x_CB, x_tup, x_lst, x_not, x_Eq, x_Ne, x_eqII, x_eqSS, x_eqBB,  x_and, x_or, x_andV, x_orV, x_notV, x_if, x_par, x_two, x_drop, x_BM, x_set0, x_setS, x_gcons, x_gnil, x_forL, x_forT, x_forR1, x_forR2, x_forE, x_ref, x_int1, x_oneI, x_oneB, x_noBI, x_twoI, false_or, x_sl, x_noP, x_part, true_and, List.append_nil, cxK, cxKn]; try simp only [V.str.injEq, V.int.injEq, V.bl.injEq])
      refine ⟨⟨by omega, by omega, by decide⟩, ?_⟩
      rw [Int.one_mul]
      refine ⟨by show 2 ≤ sizeLine; decide, fun pa na => ⟨by show 1 ≤ sizeLine; decide, fun pb nb => ⟨by show 3 ≤ sizeLine; decide, fun pc nc => ?_⟩⟩⟩
      have s3 := ((same_new (o := .tup [.int 0, .int (2 ^ n.toNat - 1)]) na).trans (same_new (o := .lst [.ref pa]) nb)).trans (same_new (o := .tup [.int n, .int 0, .ref pb]) nc)
      have hpa : upd (upd (upd H1 pa (.tup [.int 0, .int (2 ^ n.toNat - 1)])) pb (.lst [.ref pa])) pc (.tup [.int n, .int 0, .ref pb]) pa = some (.tup [.int 0, .int (2 ^ n.toNat - 1)]) := (same_new nc) _ _ ((same_new nb) _ _ upd_same)
      have hpb : upd (upd (upd H1 pa (.tup [.int 0, .int (2 ^ n.toNat - 1)])) pb (.lst [.ref pa])) pc (.tup [.int n, .int 0, .ref pb]) pb = some (.lst [.ref pa]) := (same_new nc) _ _ upd_same
      have hpc : SqT K (upd (upd (upd H1 pa (.tup [.int 0, .int (2 ^ n.toNat - 1)])) pb (.lst [.ref pa])) pc (.tup [.int n, .int 0, .ref pb])) pc [.int n, .int 0, .ref pb] := SqT.of upd_same
      have hbl : pb ≠ l := fun z => by
        rw [z] at nb
        rw [(same_new na) _ _ hl1] at nb
        cases nb
      have hp3 := s3 _ _ hp1
      have hl3 := s3 _ _ hl1
      generalize upd (upd (upd H1 pa (.tup [.int 0, .int (2 ^ n.toNat - 1)])) pb (.lst [.ref pa])) pc (.tup [.int n, .int 0, .ref pb]) = H3 at s3 hpa hpb hpc hp3 hl3 ⊢
      refine x_app hl3 (by show 0 < sizeLine; decide) ?_
      have B4 : But p l H3 (upd H3 l (.lst ([] ++ [.ref pc]))) := .updL
      have hp4 : upd H3 l (.lst ([] ++ [.ref pc])) p = _ := (upd_ne hpl).trans hp3
      have hl4 : upd H3 l (.lst ([] ++ [.ref pc])) l = some (.lst ([] ++ [.ref pc])) := upd_same
      have hX4 : Lvs K (upd H3 l (.lst ([] ++ [.ref pc]))) l [.ref pc] [⟨n, 0, [(0, 2 ^ n.toNat - 1)]⟩] := by
        refine .cons (But.tup B4 hp3 hl3 (fun _ => nofun) (fun _ _ => nofun) hpc) hbl ⟨[.ref pa], ?_, .cons (B4 _ _ (fun z => by rw [z, hp3] at hpa; exact nomatch hpa) (fun z => by rw [z, hl3] at hpa; exact nomatch hpa) hpa) .nil⟩ .nil
        rw [upd_ne hbl]
        exact hpb
      generalize upd H3 l (.lst ([] ++ [.ref pc])) = H4 at B4 hp4 hl4 hX4 ⊢
      (try simp only [x_asg, x_mkV, x_value, x_lcR1, x_lcL, List.map_cons, List.map_nil, x_yes, x_wipe0, x_wipeS, x_rs, x_callS, x_callKS, x_fld, x_sfld, x_meth, x_make, x_fldaug, x_BM0, x_rAdd, x_retN, x_name, x_sub, x_ret, x_next, x_ifS, x_ite, x_iteN, x_T, x_F, x_tT, x_tF, x_op, x_un, x_var0, x_varS, x_c, x_I0, x_I, x_rU, x_nil, x_cons, x_test, x_B, x_bl, x_call, x_CB, x_tup, x_lst, x_not, x_Eq, x_Ne, x_eqII, x_eqSS, x_eqBB,  x_and, x_or, x_andV, x_orV, x_notV, x_if, x_par, x_two, x_drop, x_BM, x_set0, x_setS, x_gcons, x_gnil, x_forL, x_forT, x_forR1, x_forR2, x_forE, x_ref, x_int1, x_oneI, x_oneB, x_noBI, x_twoI, false_or, x_sl, x_noP, x_part, true_and, List.append_nil, cxK, cxKn]; try simp only [V.str.injEq, V.int.injEq, V.bl.injEq])
      refine ⟨_, _, rfl, n0, hb, ?_⟩
      refine sfld hp4 SP.cl SP.nO (by show 3 < 1000; decide) ?_
      rw [sf_put_offset]
      refine q _ ?_ (((B1.trans (.of s3)).trans B4).trans .updP)
      rw [hT]
      exact ⟨dx1, _, upd_same, by rw [upd_ne hpl.symm]; exact hl4, hX4.but .updP hp4 hl4⟩
    · rw [List.concat_eq_append] at *
      obtain ⟨t1, rl, hx1, hT1, hrl1, hRg1⟩ := hX1.last (v := v) (by simp)
      have hne1 : xs1 ≠ [] := fun z => by rw [z] at hx1; cases hx1
      have hne2 : (!xs1.isEmpty) = true := by cases xs1 with | nil => exact absurd rfl hne1 | cons => rfl
      (try simp only [x_asg, x_mkV, x_value, x_lcR1, x_lcL, List.map_cons, List.map_nil, x_yes, x_wipe0, x_wipeS, x_rs, x_callS, x_callKS, x_fld, x_sfld, x_meth, x_make, x_fldaug, x_BM0, x_rAdd, x_retN, x_name, x_sub, x_ret, x_next, x_ifS, x_ite, x_iteN, x_T, x_F, x_tT, x_tF, x_op, x_un, x_var0, x_varS, x_c, x_I0, x_I, x_rU, x_nil, x_cons, x_test, x_B, x_bl, x_call, x_CB, x_tup, x_lst, x_not, x_Eq, x_Ne, x_eqII, x_eqSS, x_eqBB,  x_and, x_or, x_andV, x_orV, x_notV, x_if, x_par, x_two, x_drop, x_BM, x_set0, x_setS, x_gcons, x_gnil, x_forL, x_forT, x_forR1, x_forR2, x_forE, x_ref, x_int1, x_oneI, x_oneB, x_noBI, x_twoI, false_or, x_sl, x_noP, x_part, true_and, List.append_nil, cxK, cxKn]; try simp only [V.str.injEq, V.int.injEq, V.bl.injEq])
      refine fld hp1 SP.cl SP.nL (sf_levels _ _ _) ?_
      refine ⟨_, truL (SqL.of hl1), ?_⟩
      rw [if_pos hne2]
      (try simp only [x_asg, x_mkV, x_value, x_lcR1, x_lcL, List.map_cons, List.map_nil, x_yes, x_wipe0, x_wipeS, x_rs, x_callS, x_callKS, x_fld, x_sfld, x_meth, x_make, x_fldaug, x_BM0, x_rAdd, x_retN, x_name, x_sub, x_ret, x_next, x_ifS, x_ite, x_iteN, x_T, x_F, x_tT, x_tF, x_op, x_un, x_var0, x_varS, x_c, x_I0, x_I, x_rU, x_nil, x_cons, x_test, x_B, x_bl, x_call, x_CB, x_tup, x_lst, x_not, x_Eq, x_Ne, x_eqII, x_eqSS, x_eqBB,  x_and, x_or, x_andV, x_orV, x_notV, x_if, x_par, x_two, x_drop, x_BM, x_set0, x_setS, x_gcons, x_gnil, x_forL, x_forT, x_forR1, x_forR2, x_forE, x_ref, x_int1, x_oneI, x_oneB, x_noBI, x_twoI, false_or, x_sl, x_noP, x_part, true_and, List.append_nil, cxK, cxKn]; try simp only [V.str.injEq, V.int.injEq, V.bl.injEq])
      refine fld hp1 SP.cl SP.nL (sf_levels _ _ _) ?_
      refine x_ixL (SqL.of hl1) (atI_last hx1) ?_
      refine x_ixT hT1 rfl ?_
      (try simp only [x_asg, x_mkV, x_value, x_lcR1, x_lcL, List.map_cons, List.map_nil, x_yes, x_wipe0, x_wipeS, x_rs, x_callS, x_callKS, x_fld, x_sfld, x_meth, x_make, x_fldaug, x_BM0, x_rAdd, x_retN, x_name, x_sub, x_ret, x_next, x_ifS, x_ite, x_iteN, x_T, x_F, x_tT, x_tF, x_op, x_un, x_var0, x_varS, x_c, x_I0, x_I, x_rU, x_nil, x_cons, x_test, x_B, x_bl, x_call, x_CB, x_tup, x_lst, x_not, x_Eq, x_Ne, x_eqII, x_eqSS, x_eqBB,  x_and, x_or, x_andV, x_orV, x_notV, x_if, x_par, x_two, x_drop, x_BM, x_set0, x_setS, x_gcons, x_gnil, x_forL, x_forT, x_forR1, x_forR2, x_forE, x_ref, x_int1, x_oneI, x_oneB, x_noBI, x_twoI, false_or, x_sl, x_noP, x_part, true_and, List.append_nil, cxK, cxKn]; try simp only [V.str.injEq, V.int.injEq, V.bl.injEq])
      refine ⟨fun hw => ?_, fun hw => ?_⟩
      · refine ⟨fun σ' H' => σ' = [some (.ref p), some (.str x), some (.int n)] ∧ SpAt K C H' p l ⟨l0, S.off, S.tot⟩ ∧ But p l H H', fun σ' H' h' => ⟨l0.length, by simp, h'.1, l0, rfl, h'.2.1, ?_, fun v' hv' => hsub v' (List.mem_append_left _ hv'), ?_, h'.2.2⟩, ?_⟩
        · rw [← epop, popS_snoc, if_pos hw]
        · rw [List.length_append] at hle
          omega
        refine fld hp1 SP.cl SP.nL (sf_levels _ _ _) ?_
        refine ⟨x_tyL (SqL.of hl1), ?_⟩
        have hlx : 0 < xs1.length := List.length_pos_iff.mpr hne1
        refine x_pop hl1 (List.getElem?_eq_getElem (by omega)) ?_
        have B2 : But p l H1 (upd H1 l (.lst xs1.dropLast)) := .updL
        refine ⟨rfl, ⟨dx1, xs1.dropLast, by rw [upd_ne hpl]; exact hp1, upd_same, ?_⟩, B1.trans B2⟩
        have := (hX1.but B2 hp1 hl1).dropLast
        rwa [show (⟨l0 ++ [v], S.off, S.tot⟩ : Spr).lv.dropLast = l0 from List.dropLast_concat] at this
      · rw [popS_snoc, if_neg hw] at epop
        have hT : takeS S x n = wider ⟨l0 ++ [v], S.off, S.tot⟩ v x n := by
          unfold takeS
          rw [if_neg h, ← epop, List.getLast?_concat]
        refine fld hp1 SP.cl SP.nL (sf_levels _ _ _) ?_
        refine ⟨_, truL (SqL.of hl1), ?_⟩
        rw [if_pos hne2]
        refine meth hp1 (sf_none _ _ _ (by decide +kernel) (by decide +kernel) (by decide +kernel)) ?_
        (try simp only [x_asg, x_mkV, x_value, x_lcR1, x_lcL, List.map_cons, List.map_nil, x_yes, x_wipe0, x_wipeS, x_rs, x_callS, x_callKS, x_fld, x_sfld, x_meth, x_make, x_fldaug, x_BM0, x_rAdd, x_retN, x_name, x_sub, x_ret, x_next, x_ifS, x_ite, x_iteN, x_T, x_F, x_tT, x_tF, x_op, x_un, x_var0, x_varS, x_c, x_I0, x_I, x_rU, x_nil, x_cons, x_test, x_B, x_bl, x_call, x_CB, x_tup, x_lst, x_not, x_Eq, x_Ne, x_eqII, x_eqSS, x_eqBB,  x_and, x_or, x_andV, x_orV, x_notV, x_if, x_par, x_two, x_drop, x_BM, x_set0, x_setS, x_gcons, x_gnil, x_forL, x_forT, x_forR1, x_forR2, x_forE, x_ref, x_int1, x_oneI, x_oneB, x_noBI, x_twoI, false_or, x_sl, x_noP, x_part, true_and, List.append_nil, cxK, cxKn]; try simp only [V.str.injEq, V.int.injEq, V.bl.injEq])
        refine ⟨p, l, ⟨l0 ++ [v], S.off, S.tot⟩, v, x, n, rfl, ⟨dx1, xs1, hp1, hl1, hX1⟩, List.getLast?_concat, hF v (hsub v (by simp)), ⟨by show (l0 ++ [v]).length < 1000; omega, fun v' hv' => hrl v' (hsub v' hv')⟩, n0, hb, fun H2 hS2 B2 => ?_⟩
        exact q H2 (by rw [hT]; exact hS2) (B1.trans B2)
end

abbrev s_check_chain : Stmt := topS 5
theorem sc_check_chain : FnScope ["chain", "index", "word", "amount"] ["chain"] (defScope s_check_chain) := ⟨rfl, rfl, rfl, by decide +kernel, rfl, by decide +kernel, by decide +kernel⟩
section
variable {P : Program} {w : World} {K : PySem.W.Frag} {mg : Str → Option Value} {base : Heap} {CS fS : Addr} {fdS : FuncData}
def firstBad (c : Ch) : Option Nat := c.findIdx? fun s => !okS s
/-- an exception's dict with its value -/
def XdAt (H : Hp) (d : Addr) (v : V) : Prop := H d = some (.xd [("value", v)])
def spCheckX (K : PySem.W.Frag) (CS : Addr) : Sp := fun vs H Q E => ∃ (a : Addr) (c : Ch), vs = [.ref a] ∧ ChAt K H a c ∧ (firstBad c = none → ∀ H', Same H H' → Q .non H') ∧
  ∀ i, firstBad c = some i → ∀ d H', Same H H' → XdAt H' d (.int (i : Nat)) → E (.ref CS) (some d) H'
theorem firstBad_some {c : Ch} {i : Nat} {s : Str × Int} (h : c[i]? = some s) (hb : okS s = false) (hp : ∀ j, j < i → ∀ s, c[j]? = some s → okS s = true) : firstBad c = some i := by
  unfold firstBad
  rw [List.findIdx?_eq_some_iff_getElem]
  obtain ⟨hi, e⟩ := List.getElem?_eq_some_iff.mp h
  refine ⟨hi, by rw [e, hb]; rfl, fun j hj => ?_⟩
  have := hp j hj _ (List.getElem?_eq_getElem (Nat.lt_trans hj hi))
  simp [this]
theorem firstBad_none {c : Ch} (hp : ∀ j, j < c.length → ∀ s, c[j]? = some s → okS s = true) : firstBad c = none := by
  unfold firstBad
  rw [List.findIdx?_eq_none_iff]
  intro s hs
  obtain ⟨j, hj, e⟩ := List.getElem_of_mem hs
  have := hp j hj s (by rw [List.getElem?_eq_getElem hj, e])
  simp [this]
theorem p_check_chainX (T : Tx K mg "check_chain" s_check_chain) (XS : XC K mg "InvalidStep" CS fS) (iS : FnOk P w K mg base CX0 1 fS fdS ["self", "value"] (spInit K CS)) (bS : Binds K fdS ["self", "value"] []) (m_enumerate : mg "enumerate" = none)
    (h_is_cast : Pr P w K mg base CX0 1 "is_cast" ["word", "width"] spIsCast) : Pr P w K mg base (L2.CX P w) 3 "check_chain" ["chain"] (spCheckX K CS) := by
  refine mkPX T sc_check_chain (fun _ _ _ _ _ _ us hl => match us, hl with | [_], _ => rfl) (fun vs H Q E h => ?_) (fun f cdv A outer s H vs Q E hG hr h => ?_)
  · obtain ⟨_, _, rfl, _⟩ := h
    rfl
  · obtain ⟨a, c, rfl, ⟨xs, hL, hS⟩, q, qE⟩ := h
    have nd := sc_check_chain.nd
    refine ⟨_, (pss_one (ps_for (passes_of rfl) rfl (pi_enum (by rfl) m_enumerate (pa_cons (pv 0) pa_nil)) (pg_tup rfl (pgs_cons (pg_name (i := 1) nd rfl (.inl rfl)) (pgs_cons (pg_tup rfl (pgs_cons (pg_name (i := 2) nd rfl (.inl rfl)) (pgs_cons (pg_name (i := 3) nd rfl (.inl rfl)) pgs_nil))) pgs_nil))) (pss_one (ps_if (PW.pt (pw_and (pt_cmpR op_ne (pv 2) pe_str (nomark _)) (pw_and1 (pt_not (pt_val (pe_P h_is_cast hr hG (by rfl) (pa_cons (pv 2) (pa_cons (pv 3) pa_nil)))))))) (pss_one (ps_rs rfl (takes_of rfl rfl rfl rfl) (pmk_ex XS iS (hr.mono (by decide)) bS (by rfl) (pa_cons (pv 1) pa_nil)))) pss_nil)))), ?_⟩
    show (tFor _ _ _) _ [some (V.ref a), none, none, none] H
    (try simp only [x_asg, x_mkV, x_value, x_lcR1, x_lcL, List.map_cons, List.map_nil, x_yes, x_wipe0, x_wipeS, x_rs, x_callS, x_callKS, x_fld, x_sfld, x_meth, x_make, x_fldaug, x_BM0, x_rAdd, x_retN, x_name, x_sub, x_ret, x_next, x_ifS, x_ite, x_iteN, x_T, x_F, x_tT, x_tF, x_op, x_un, x_var0, x_varS, x_c, x_I0, x_I, x_rU, x_nil, x_cons, x_test, x_B, x_bl, x_call, x_CB, x_tup, x_lst, x_not, x_Eq, x_Ne, x_eqII, x_eqSS, x_eqBB,  x_and, x_or, x_andV, x_orV, x_notV, x_if, x_par, x_two, x_drop, x_BM, x_set0, x_setS, x_gcons, x_gnil, x_forL, x_forT, x_forR1, x_forR2, x_forE, x_ref, x_int1, x_oneI, x_oneB, x_noBI, x_twoI, false_or, x_sl, x_noP, x_part, true_and, List.append_nil, cxK, cxKn]; try simp only [V.str.injEq, V.int.injEq, V.bl.injEq])
    refine ⟨a, xs, rfl, hL, ?_⟩
    refine lpE (xs := xs) (fun i σ H' => (∃ y1 y2 y3, σ = [some (.ref a), y1, y2, y3]) ∧ Same H H' ∧ ∀ j, j < i → ∀ s, c[j]? = some s → okS s = true) ⟨⟨_, _, _, rfl⟩, Same.refl _, fun j hj => absurd hj (Nat.not_lt_zero _)⟩ (fun i σ H' _ h => h.2.1.seq hL) (fun i x σ H' T' hx h nT => ?_)
      (fun σ H' h => q (firstBad_none fun j hj => h.2.2 j (by rw [hS.len]; exact hj)) H' h.2.1)
    obtain ⟨⟨y1, y2, y3, rfl⟩, hH, hp⟩ := h
    obtain ⟨t, w', n, rfl, hc, hT⟩ := hS.get hx
    have more : okS (w', n) = true → ∀ j, j < i + 1 → ∀ s, c[j]? = some s → okS s = true := fun ok j hj s hs => by
      rcases Nat.lt_succ_iff_lt_or_eq.mp hj with h | h
      · exact hp j h s hs
      · subst h
        rw [hc] at hs
        cases hs
        exact ok
    refine x_gtup (SqT.of upd_same) rfl ?_
    (try simp only [x_asg, x_mkV, x_value, x_lcR1, x_lcL, List.map_cons, List.map_nil, x_yes, x_wipe0, x_wipeS, x_rs, x_callS, x_callKS, x_fld, x_sfld, x_meth, x_make, x_fldaug, x_BM0, x_rAdd, x_retN, x_name, x_sub, x_ret, x_next, x_ifS, x_ite, x_iteN, x_T, x_F, x_tT, x_tF, x_op, x_un, x_var0, x_varS, x_c, x_I0, x_I, x_rU, x_nil, x_cons, x_test, x_B, x_bl, x_call, x_CB, x_tup, x_lst, x_not, x_Eq, x_Ne, x_eqII, x_eqSS, x_eqBB,  x_and, x_or, x_andV, x_orV, x_notV, x_if, x_par, x_two, x_drop, x_BM, x_set0, x_setS, x_gcons, x_gnil, x_forL, x_forT, x_forR1, x_forR2, x_forE, x_ref, x_int1, x_oneI, x_oneB, x_noBI, x_twoI, false_or, x_sl, x_noP, x_part, true_and, List.append_nil, cxK, cxKn]; try simp only [V.str.injEq, V.int.injEq, V.bl.injEq])
    refine x_gtup (Same.tup (hH.trans (same_new nT)) hT) rfl ?_
    (try simp only [x_asg, x_mkV, x_value, x_lcR1, x_lcL, List.map_cons, List.map_nil, x_yes, x_wipe0, x_wipeS, x_rs, x_callS, x_callKS, x_fld, x_sfld, x_meth, x_make, x_fldaug, x_BM0, x_rAdd, x_retN, x_name, x_sub, x_ret, x_next, x_ifS, x_ite, x_iteN, x_T, x_F, x_tT, x_tF, x_op, x_un, x_var0, x_varS, x_c, x_I0, x_I, x_rU, x_nil, x_cons, x_test, x_B, x_bl, x_call, x_CB, x_tup, x_lst, x_not, x_Eq, x_Ne, x_eqII, x_eqSS, x_eqBB,  x_and, x_or, x_andV, x_orV, x_notV, x_if, x_par, x_two, x_drop, x_BM, x_set0, x_setS, x_gcons, x_gnil, x_forL, x_forT, x_forR1, x_forR2, x_forE, x_ref, x_int1, x_oneI, x_oneB, x_noBI, x_twoI, false_or, x_sl, x_noP, x_part, true_and, List.append_nil, cxK, cxKn]; try simp only [V.str.injEq, V.int.injEq, V.bl.injEq])
    refine ⟨fun h => ?_, fun h => ⟨⟨_, _, _, rfl⟩, hH.trans (same_new nT), more (by unfold okS; simp [show w' = "add" from h])⟩⟩
    refine ⟨_, _, rfl, fun H2 s2 => ?_⟩
    have sH := (hH.trans (same_new nT)).trans s2
    (try simp only [x_asg, x_mkV, x_value, x_lcR1, x_lcL, List.map_cons, List.map_nil, x_yes, x_wipe0, x_wipeS, x_rs, x_callS, x_callKS, x_fld, x_sfld, x_meth, x_make, x_fldaug, x_BM0, x_rAdd, x_retN, x_name, x_sub, x_ret, x_next, x_ifS, x_ite, x_iteN, x_T, x_F, x_tT, x_tF, x_op, x_un, x_var0, x_varS, x_c, x_I0, x_I, x_rU, x_nil, x_cons, x_test, x_B, x_bl, x_call, x_CB, x_tup, x_lst, x_not, x_Eq, x_Ne, x_eqII, x_eqSS, x_eqBB,  x_and, x_or, x_andV, x_orV, x_notV, x_if, x_par, x_two, x_drop, x_BM, x_set0, x_setS, x_gcons, x_gnil, x_forL, x_forT, x_forR1, x_forR2, x_forE, x_ref, x_int1, x_oneI, x_oneB, x_noBI, x_twoI, false_or, x_sl, x_noP, x_part, true_and, List.append_nil, cxK, cxKn]; try simp only [V.str.injEq, V.int.injEq, V.bl.injEq])
    cases e : isC w' n with
    | true =>
      (try simp only [x_asg, x_mkV, x_value, x_lcR1, x_lcL, List.map_cons, List.map_nil, x_yes, x_wipe0, x_wipeS, x_rs, x_callS, x_callKS, x_fld, x_sfld, x_meth, x_make, x_fldaug, x_BM0, x_rAdd, x_retN, x_name, x_sub, x_ret, x_next, x_ifS, x_ite, x_iteN, x_T, x_F, x_tT, x_tF, x_op, x_un, x_var0, x_varS, x_c, x_I0, x_I, x_rU, x_nil, x_cons, x_test, x_B, x_bl, x_call, x_CB, x_tup, x_lst, x_not, x_Eq, x_Ne, x_eqII, x_eqSS, x_eqBB,  x_and, x_or, x_andV, x_orV, x_notV, x_if, x_par, x_two, x_drop, x_BM, x_set0, x_setS, x_gcons, x_gnil, x_forL, x_forT, x_forR1, x_forR2, x_forE, x_ref, x_int1, x_oneI, x_oneB, x_noBI, x_twoI, false_or, x_sl, x_noP, x_part, true_and, List.append_nil, cxK, cxKn]; try simp only [V.str.injEq, V.int.injEq, V.bl.injEq])
      exact ⟨⟨_, _, _, rfl⟩, sH, more (by unfold okS; rw [e]; simp)⟩
    | false =>
      (try simp only [x_asg, x_mkV, x_value, x_lcR1, x_lcL, List.map_cons, List.map_nil, x_yes, x_wipe0, x_wipeS, x_rs, x_callS, x_callKS, x_fld, x_sfld, x_meth, x_make, x_fldaug, x_BM0, x_rAdd, x_retN, x_name, x_sub, x_ret, x_next, x_ifS, x_ite, x_iteN, x_T, x_F, x_tT, x_tF, x_op, x_un, x_var0, x_varS, x_c, x_I0, x_I, x_rU, x_nil, x_cons, x_test, x_B, x_bl, x_call, x_CB, x_tup, x_lst, x_not, x_Eq, x_Ne, x_eqII, x_eqSS, x_eqBB,  x_and, x_or, x_andV, x_orV, x_notV, x_if, x_par, x_two, x_drop, x_BM, x_set0, x_setS, x_gcons, x_gnil, x_forL, x_forT, x_forR1, x_forR2, x_forE, x_ref, x_int1, x_oneI, x_oneB, x_noBI, x_twoI, false_or, x_sl, x_noP, x_part, true_and, List.append_nil, cxK, cxKn]; try simp only [V.str.injEq, V.int.injEq, V.bl.injEq])
      refine mkR1 fun d nd => ?_
      refine qE i (firstBad_some hc (by unfold okS; rw [e]; simp [h]) hp) d _ (sH.trans (same_new nd)) upd_same
end

abbrev s_spread_of : Stmt := topS 13
theorem sc_spread_of : FnScope ["chain", "spread", "word", "amount"] ["chain"] (defScope s_spread_of) := ⟨rfl, rfl, rfl, by decide +kernel, rfl, by decide +kernel, by decide +kernel⟩
section
variable {P : Program} {w : World} {K : PySem.W.Frag} {mg : Str → Option Value} {base : Heap} {C CS fS fI : Addr} {fdS fdI : FuncData}
def periodS (S : Spr) : Option Int := S.lv.head?.map fun v => 2 ^ v.w.toNat
def spPeriod (K : PySem.W.Frag) (C : Addr) : Sp := fun vs H Q _ => ∃ (p l : Addr) (S : Spr) (k : Nat), vs = [.ref p] ∧ SpAt K C H p l S ∧ Sok k S ∧ Q (vOpt (periodS S)) H
theorem Lvs.head {H : Hp} {l : Addr} {xs : List V} {lv : List Lv} {v : Lv} (h : Lvs K H l xs lv) (e : lv.head? = some v) : ∃ t q, xs[0]? = some (.ref t) ∧ SqT K H t [.int v.w, .int v.cut, .ref q] ∧ q ≠ l ∧ RgAt K H q v.rs := by
  cases h with
  | nil => cases e
  | cons a b c d =>
    cases e
    exact ⟨_, _, rfl, a, b, c⟩
theorem p_period (T : MTx K C "period" "Spread.period" s_Spread_period) (SP : SpC K mg C) : MPr P w K mg base CX0 1 C "period" ["self"] (spPeriod K C) := by
  refine mkM T sc_Spread_period (fun _ _ _ _ _ _ us hl => match us, hl with | [_], _ => rfl) (fun vs H Q E h => ?_) (fun f cdv A outer s H vs Q E hG hr h => ?_)
  · obtain ⟨_, _, _, _, rfl, _⟩ := h
    rfl
  · obtain ⟨p, l, S, k, rfl, ⟨dx, xs, hp, hl, hX⟩, hk, q⟩ := h
    have nd := sc_Spread_period.nd
    refine ⟨_, (pss_cons (ps_if (pt_not (pt_truth (pe_fld (pv 0) rfl) (by intro _; rfl))) (pss_one (ps_ret pe_non)) pss_nil) (pss_one (ps_ret (pe_op op_shl pe_int (pe_ix ix_tup (pe_ix ix_list (pe_fld (pv 0) rfl) pe_int (fun _ _ => rfl)) pe_int (fun _ _ => rfl)))))), ?_⟩
    show (tSeq _ _) _ [some (V.ref p)] H
    refine x_seq.mpr ?_
    (try simp only [x_asg, x_mkV, x_value, x_lcR1, x_lcL, List.map_cons, List.map_nil, x_yes, x_wipe0, x_wipeS, x_rs, x_callS, x_callKS, x_fld, x_sfld, x_meth, x_make, x_fldaug, x_BM0, x_rAdd, x_retN, x_name, x_sub, x_ret, x_next, x_ifS, x_ite, x_iteN, x_T, x_F, x_tT, x_tF, x_op, x_un, x_var0, x_varS, x_c, x_I0, x_I, x_rU, x_nil, x_cons, x_test, x_B, x_bl, x_call, x_CB, x_tup, x_lst, x_not, x_Eq, x_Ne, x_eqII, x_eqSS, x_eqBB,  x_and, x_or, x_andV, x_orV, x_notV, x_if, x_par, x_two, x_drop, x_BM, x_set0, x_setS, x_gcons, x_gnil, x_forL, x_forT, x_forR1, x_forR2, x_forE, x_ref, x_int1, x_oneI, x_oneB, x_noBI, x_twoI, false_or, x_sl, x_noP, x_part, true_and, List.append_nil, cxK, cxKn]; try simp only [V.str.injEq, V.int.injEq, V.bl.injEq])
    refine fld hp SP.cl SP.nL (sf_levels _ _ _) ?_
    refine ⟨_, truL (SqL.of hl), ?_⟩
    unfold periodS at q
    cases hX' : S.lv with
    | nil =>
      rw [hX'] at hX q
      cases hX
      exact q
    | cons v lv =>
      have hv := hk.lvl v (by rw [hX']; simp)
      obtain ⟨t, q', hx0, hT, _, _⟩ := hX.head (v := v) (by rw [hX']; rfl)
      rw [hX'] at q
      have hne : (!xs.isEmpty) = true := by cases xs with | nil => cases hx0 | cons => rfl
      rw [hne]
      (try simp only [x_asg, x_mkV, x_value, x_lcR1, x_lcL, List.map_cons, List.map_nil, x_yes, x_wipe0, x_wipeS, x_rs, x_callS, x_callKS, x_fld, x_sfld, x_meth, x_make, x_fldaug, x_BM0, x_rAdd, x_retN, x_name, x_sub, x_ret, x_next, x_ifS, x_ite, x_iteN, x_T, x_F, x_tT, x_tF, x_op, x_un, x_var0, x_varS, x_c, x_I0, x_I, x_rU, x_nil, x_cons, x_test, x_B, x_bl, x_call, x_CB, x_tup, x_lst, x_not, x_Eq, x_Ne, x_eqII, x_eqSS, x_eqBB,  x_and, x_or, x_andV, x_orV, x_notV, x_if, x_par, x_two, x_drop, x_BM, x_set0, x_setS, x_gcons, x_gnil, x_forL, x_forT, x_forR1, x_forR2, x_forE, x_ref, x_int1, x_oneI, x_oneB, x_noBI, x_twoI, false_or, x_sl, x_noP, x_part, true_and, List.append_nil, cxK, cxKn]; try simp only [V.str.injEq, V.int.injEq, V.bl.injEq])
      refine fld hp SP.cl SP.nL (sf_levels _ _ _) ?_
      refine x_ixL (SqL.of hl) (atI_nat (j := 0) hx0) ?_
      refine x_ixT hT rfl ?_
      have b := hv.2.2.2.1
      unfold big at b
      (try simp only [x_asg, x_mkV, x_value, x_lcR1, x_lcL, List.map_cons, List.map_nil, x_yes, x_wipe0, x_wipeS, x_rs, x_callS, x_callKS, x_fld, x_sfld, x_meth, x_make, x_fldaug, x_BM0, x_rAdd, x_retN, x_name, x_sub, x_ret, x_next, x_ifS, x_ite, x_iteN, x_T, x_F, x_tT, x_tF, x_op, x_un, x_var0, x_varS, x_c, x_I0, x_I, x_rU, x_nil, x_cons, x_test, x_B, x_bl, x_call, x_CB, x_tup, x_lst, x_not, x_Eq, x_Ne, x_eqII, x_eqSS, x_eqBB,  x_and, x_or, x_andV, x_orV, x_notV, x_if, x_par, x_two, x_drop, x_BM, x_set0, x_setS, x_gcons, x_gnil, x_forL, x_forT, x_forR1, x_forR2, x_forE, x_ref, x_int1, x_oneI, x_oneB, x_noBI, x_twoI, false_or, x_sl, x_noP, x_part, true_and, List.append_nil, cxK, cxKn]; try simp only [V.str.injEq, V.int.injEq, V.bl.injEq])
      refine ⟨⟨by have := hv.2.2.1; omega, by omega, by decide⟩, ?_⟩
      rw [Int.one_mul]
      exact q
def spValR (K : PySem.W.Frag) (C : Addr) : Sp := fun vs H Q _ => ∃ (p l : Addr) (S : Spr) (k : Nat), vs = [.ref p] ∧ SpAt K C H p l S ∧ Sok k S ∧ k ≤ 900 ∧ (S.lv = [] → Q .non H) ∧ ∀ v, S.lv.getLast? = some v → ∀ r H', H r = none → Same H H' → RgAt K H' r (movR v.rs S.off) → Q (.ref r) H'
def spreadS (c : Ch) : Spr := c.foldl (fun S s => takeS S s.1 s.2) Spr.new
def bndC (c : Ch) : Prop := c.length ≤ 900 ∧ ∀ s ∈ c, s.2 ≤ (if s.1 = "add" then s.2 else big)
theorem spreadS_take {c : Ch} {i : Nat} {x : Str} {n : Int} (h : c[i]? = some (x, n)) : spreadS (c.take (i + 1)) = takeS (spreadS (c.take i)) x n := by
  unfold spreadS
  rw [List.take_add_one, h, List.foldl_append]
  rfl
theorem spreadS_ok {c : Ch} (ok : firstBad c = none) (hb : bndC c) : ∀ i, i ≤ c.length → Sok i (spreadS (c.take i)) := by
  intro i
  induction i with
  | zero => intro _; rw [List.take_zero]; exact Sok.new
  | succ i ih =>
    intro hi
    obtain ⟨s, hs⟩ : ∃ s, c[i]? = some s := ⟨_, List.getElem?_eq_getElem hi⟩
    obtain ⟨x, n⟩ := s
    rw [spreadS_take hs]
    have hm := List.mem_of_getElem? hs
    refine takeS_ok (ih (by omega)) ?_ (hb.2 _ hm)
    unfold firstBad at ok
    rw [List.findIdx?_eq_none_iff] at ok
    have := ok _ hm
    simpa using this
def spSpread (K : PySem.W.Frag) (C CS : Addr) : Sp := fun vs H Q E => ∃ (a : Addr) (c : Ch), vs = [.ref a] ∧ ChAt K H a c ∧ bndC c ∧ (firstBad c = none → ∀ p l H', H p = none → H l = none → Same H H' → SpAt K C H' p l (spreadS c) → Q (.ref p) H') ∧
  ∀ i, firstBad c = some i → ∀ d H', Same H H' → XdAt H' d (.int (i : Nat)) → E (.ref CS) (some d) H'
theorem p_spread_of (T : Tx K mg "spread_of" s_spread_of) (SP : SpC K mg C) (MS : Mk K C fI) (GS : FnOk P w K mg base CX0 1 fI fdI ["self"] (spInitS K C)) (bS0 : Binds K fdI ["self"] [])
    (h_check_chain : Pr P w K mg base (L2.CX P w) 3 "check_chain" ["chain"] (spCheckX K CS)) (h_take : MPr P w K mg base CX0 4 C "take" ["self", "word", "amount"] (spTake K C)) :
    Pr P w K mg base (L2.CX P w) 5 "spread_of" ["chain"] (spSpread K C CS) := by
  refine mkPX T sc_spread_of (fun _ _ _ _ _ _ us hl => match us, hl with | [_], _ => rfl) (fun vs H Q E h => ?_) (fun f cdv A outer s H vs Q E hG hr h => ?_)
  · obtain ⟨_, _, rfl, _⟩ := h
    rfl
  · obtain ⟨a, c, rfl, hC, hb, q, qE⟩ := h
    have nd := sc_spread_of.nd
    refine ⟨_, (pss_cons (ps_expr (pe_PX h_check_chain hr hG (by rfl) (takes_of rfl rfl rfl rfl) (pa_cons (pv 0) pa_nil))) (pss_cons (ps_set (i := 1) nd rfl (.inl rfl) (pe_make0 MS GS (hr.mono (by decide)) (by rfl) SP.mgC bS0 .nil pass0)) (pss_cons (ps_for (passes_of rfl) rfl (pi_list (pv 0)) (pg_tup rfl (pgs_cons (pg_name (i := 2) nd rfl (.inl rfl)) (pgs_cons (pg_name (i := 3) nd rfl (.inl rfl)) pgs_nil))) (pss_one (ps_expr (pe_MP (pv 1) SP.cl h_take hr hG (pa_cons (pv 2) (pa_cons (pv 3) pa_nil)))))) (pss_one (ps_ret (pv 1)))))), ?_⟩
    show (tSeq _ _) _ [some (V.ref a), none, none, none] H
    refine x_seq.mpr ?_
    (try simp only [x_asg, x_mkV, x_value, x_lcR1, x_lcL, List.map_cons, List.map_nil, x_yes, x_wipe0, x_wipeS, x_rs, x_callS, x_callKS, x_fld, x_sfld, x_meth, x_make, x_fldaug, x_BM0, x_rAdd, x_retN, x_name, x_sub, x_ret, x_next, x_ifS, x_ite, x_iteN, x_T, x_F, x_tT, x_tF, x_op, x_un, x_var0, x_varS, x_c, x_I0, x_I, x_rU, x_nil, x_cons, x_test, x_B, x_bl, x_call, x_CB, x_tup, x_lst, x_not, x_Eq, x_Ne, x_eqII, x_eqSS, x_eqBB,  x_and, x_or, x_andV, x_orV, x_notV, x_if, x_par, x_two, x_drop, x_BM, x_set0, x_setS, x_gcons, x_gnil, x_forL, x_forT, x_forR1, x_forR2, x_forE, x_ref, x_int1, x_oneI, x_oneB, x_noBI, x_twoI, false_or, x_sl, x_noP, x_part, true_and, List.append_nil, cxK, cxKn]; try simp only [V.str.injEq, V.int.injEq, V.bl.injEq])
    refine ⟨a, c, rfl, hC, fun ok H1 s1 => ?_, fun i hi d H' s' hd => qE i hi d H' s' hd⟩
    refine x_seq.mpr ?_
    (try simp only [x_asg, x_mkV, x_value, x_lcR1, x_lcL, List.map_cons, List.map_nil, x_yes, x_wipe0, x_wipeS, x_rs, x_callS, x_callKS, x_fld, x_sfld, x_meth, x_make, x_fldaug, x_BM0, x_rAdd, x_retN, x_name, x_sub, x_ret, x_next, x_ifS, x_ite, x_iteN, x_T, x_F, x_tT, x_tF, x_op, x_un, x_var0, x_varS, x_c, x_I0, x_I, x_rU, x_nil, x_cons, x_test, x_B, x_bl, x_call, x_CB, x_tup, x_lst, x_not, x_Eq, x_Ne, x_eqII, x_eqSS, x_eqBB,  x_and, x_or, x_andV, x_orV, x_notV, x_if, x_par, x_two, x_drop, x_BM, x_set0, x_setS, x_gcons, x_gnil, x_forL, x_forT, x_forR1, x_forR2, x_forE, x_ref, x_int1, x_oneI, x_oneB, x_noBI, x_twoI, false_or, x_sl, x_noP, x_part, true_and, List.append_nil, cxK, cxKn]; try simp only [V.str.injEq, V.int.injEq, V.bl.injEq])
    intro p dx np ndx hne
    have s2 : Same H1 (upd (upd H1 dx (.own p)) p (.ins C dx [])) := fun b o e => by
      rw [upd_ne (ne_of_none e np), upd_ne (ne_of_none e ndx)]
      exact e
    refine ⟨p, dx, rfl, upd_same, fun l H3 nl hS B => ⟨rfl, ?_⟩⟩
    have nl1 : H1 l = none := s2.free nl
    have s3 : Same H1 H3 := fun b o e => B b o (fun z => by rw [z, np] at e; cases e) (fun z => by rw [z, nl1] at e; cases e) (s2 _ _ e)
    refine x_seq.mpr ?_
    obtain ⟨xs, hL, hSt⟩ := (hC.same s1)
    (try simp only [x_asg, x_mkV, x_value, x_lcR1, x_lcL, List.map_cons, List.map_nil, x_yes, x_wipe0, x_wipeS, x_rs, x_callS, x_callKS, x_fld, x_sfld, x_meth, x_make, x_fldaug, x_BM0, x_rAdd, x_retN, x_name, x_sub, x_ret, x_next, x_ifS, x_ite, x_iteN, x_T, x_F, x_tT, x_tF, x_op, x_un, x_var0, x_varS, x_c, x_I0, x_I, x_rU, x_nil, x_cons, x_test, x_B, x_bl, x_call, x_CB, x_tup, x_lst, x_not, x_Eq, x_Ne, x_eqII, x_eqSS, x_eqBB,  x_and, x_or, x_andV, x_orV, x_notV, x_if, x_par, x_two, x_drop, x_BM, x_set0, x_setS, x_gcons, x_gnil, x_forL, x_forT, x_forR1, x_forR2, x_forE, x_ref, x_int1, x_oneI, x_oneB, x_noBI, x_twoI, false_or, x_sl, x_noP, x_part, true_and, List.append_nil, cxK, cxKn]; try simp only [V.str.injEq, V.int.injEq, V.bl.injEq])
    refine ⟨⟨_, s3.seq hL⟩, ?_⟩
    refine lpL (xs := xs) (fun i σ H' => (∃ y2 y3, σ = [some (.ref a), some (.ref p), y2, y3]) ∧ SpAt K C H' p l (spreadS (c.take i)) ∧ Same H1 H') ⟨⟨_, _, rfl⟩, by rw [List.take_zero]; exact hS, s3⟩ (fun i σ H' _ h => h.2.2.seq hL) (fun i x σ H' hx h => ?_) (fun σ H' h => ?_)
    · obtain ⟨⟨y2, y3, rfl⟩, hS', sH⟩ := h
      obtain ⟨t, x', n, rfl, hc, hT⟩ := hSt.get hx
      have hi := (List.getElem?_eq_some_iff.mp hc).1
      have hm := List.mem_of_getElem? hc
      have hk := spreadS_ok ok hb i (Nat.le_of_lt hi)
      have hl9 := hb.1
      obtain ⟨dx', xs', hp', hl', hX'⟩ := id hS'
      refine x_gtup2 (Same.tup sH hT) ?_
      (try simp only [x_asg, x_mkV, x_value, x_lcR1, x_lcL, List.map_cons, List.map_nil, x_yes, x_wipe0, x_wipeS, x_rs, x_callS, x_callKS, x_fld, x_sfld, x_meth, x_make, x_fldaug, x_BM0, x_rAdd, x_retN, x_name, x_sub, x_ret, x_next, x_ifS, x_ite, x_iteN, x_T, x_F, x_tT, x_tF, x_op, x_un, x_var0, x_varS, x_c, x_I0, x_I, x_rU, x_nil, x_cons, x_test, x_B, x_bl, x_call, x_CB, x_tup, x_lst, x_not, x_Eq, x_Ne, x_eqII, x_eqSS, x_eqBB,  x_and, x_or, x_andV, x_orV, x_notV, x_if, x_par, x_two, x_drop, x_BM, x_set0, x_setS, x_gcons, x_gnil, x_forL, x_forT, x_forR1, x_forR2, x_forE, x_ref, x_int1, x_oneI, x_oneB, x_noBI, x_twoI, false_or, x_sl, x_noP, x_part, true_and, List.append_nil, cxK, cxKn]; try simp only [V.str.injEq, V.int.injEq, V.bl.injEq])
      refine meth hp' (sf_none _ _ _ (by decide +kernel) (by decide +kernel) (by decide +kernel)) ?_
      (try simp only [x_asg, x_mkV, x_value, x_lcR1, x_lcL, List.map_cons, List.map_nil, x_yes, x_wipe0, x_wipeS, x_rs, x_callS, x_callKS, x_fld, x_sfld, x_meth, x_make, x_fldaug, x_BM0, x_rAdd, x_retN, x_name, x_sub, x_ret, x_next, x_ifS, x_ite, x_iteN, x_T, x_F, x_tT, x_tF, x_op, x_un, x_var0, x_varS, x_c, x_I0, x_I, x_rU, x_nil, x_cons, x_test, x_B, x_bl, x_call, x_CB, x_tup, x_lst, x_not, x_Eq, x_Ne, x_eqII, x_eqSS, x_eqBB,  x_and, x_or, x_andV, x_orV, x_notV, x_if, x_par, x_two, x_drop, x_BM, x_set0, x_setS, x_gcons, x_gnil, x_forL, x_forT, x_forR1, x_forR2, x_forE, x_ref, x_int1, x_oneI, x_oneB, x_noBI, x_twoI, false_or, x_sl, x_noP, x_part, true_and, List.append_nil, cxK, cxKn]; try simp only [V.str.injEq, V.int.injEq, V.bl.injEq])
      refine ⟨p, l, _, x', n, rfl, hS', fun v hv => (hk.lvl v hv).2.1, ⟨by have := hk.len; omega, fun v hv => by have := (hk.lvl v hv).1; omega⟩, ?_, hb.2 _ hm, fun H4 h4 B4 => ?_⟩
      · have ok' := ok
        unfold firstBad at ok'
        rw [List.findIdx?_eq_none_iff] at ok'
        have := ok' _ hm
        simpa using this
      · refine ⟨⟨_, _, rfl⟩, by rw [spreadS_take hc]; exact h4, fun b o e => B4 b o (fun z => ?_) (fun z => ?_) (sH _ _ e)⟩
        · rw [z, np] at e; cases e
        · rw [z, nl1] at e; cases e
    · obtain ⟨⟨y2, y3, rfl⟩, hS', sH⟩ := h
      (try simp only [x_asg, x_mkV, x_value, x_lcR1, x_lcL, List.map_cons, List.map_nil, x_yes, x_wipe0, x_wipeS, x_rs, x_callS, x_callKS, x_fld, x_sfld, x_meth, x_make, x_fldaug, x_BM0, x_rAdd, x_retN, x_name, x_sub, x_ret, x_next, x_ifS, x_ite, x_iteN, x_T, x_F, x_tT, x_tF, x_op, x_un, x_var0, x_varS, x_c, x_I0, x_I, x_rU, x_nil, x_cons, x_test, x_B, x_bl, x_call, x_CB, x_tup, x_lst, x_not, x_Eq, x_Ne, x_eqII, x_eqSS, x_eqBB,  x_and, x_or, x_andV, x_orV, x_notV, x_if, x_par, x_two, x_drop, x_BM, x_set0, x_setS, x_gcons, x_gnil, x_forL, x_forT, x_forR1, x_forR2, x_forE, x_ref, x_int1, x_oneI, x_oneB, x_noBI, x_twoI, false_or, x_sl, x_noP, x_part, true_and, List.append_nil, cxK, cxKn]; try simp only [V.str.injEq, V.int.injEq, V.bl.injEq])
      rw [hSt.len, List.take_length] at hS'
      exact q ok p l H' (s1.free np) (s1.free nl1) (s1.trans sH) hS'
end

section
variable {P : Program} {w : World} {K : PySem.W.Frag} {mg : Str → Option Value} {base : Heap} {C CS fS fI : Addr} {fdS fdI : FuncData}
theorem p_value_ranges (T : MTx K C "value_ranges" "Spread.value_ranges" s_Spread_value_ranges) (SP : SpC K mg C) (h_moved : Pr P w K mg base CX0 1 "moved" ["ranges", "distance"] (spMoved K)) : MPr P w K mg base CX0 2 C "value_ranges" ["self"] (spValR K C) := by
  refine mkM T sc_Spread_value_ranges (fun _ _ _ _ _ _ us hl => match us, hl with | [_], _ => rfl) (fun vs H Q E h => ?_) (fun f cdv A outer s H vs Q E hG hr h => ?_)
  · obtain ⟨_, _, _, _, rfl, _⟩ := h
    rfl
  · obtain ⟨p, l, S, k, rfl, ⟨dx, xs, hp, hl, hX⟩, hk, hk9, q0, q⟩ := h
    have nd := sc_Spread_value_ranges.nd
    refine ⟨_, (pss_cons (ps_if (pt_not (pt_truth (pe_fld (pv 0) rfl) (by intro _; rfl))) (pss_one (ps_ret pe_non)) pss_nil) (pss_one (ps_ret (pe_P h_moved hr hG (by rfl) (pa_cons (pe_ix ix_tup (pe_ix ix_list (pe_fld (pv 0) rfl) (pe_un un_neg pe_int) (fun _ _ => rfl)) pe_int (fun _ _ => rfl)) (pa_cons (pe_fld (pv 0) rfl) pa_nil)))))), ?_⟩
    show (tSeq _ _) _ [some (V.ref p)] H
    refine x_seq.mpr ?_
    (try simp only [x_asg, x_mkV, x_value, x_lcR1, x_lcL, List.map_cons, List.map_nil, x_yes, x_wipe0, x_wipeS, x_rs, x_callS, x_callKS, x_fld, x_sfld, x_meth, x_make, x_fldaug, x_BM0, x_rAdd, x_retN, x_name, x_sub, x_ret, x_next, x_ifS, x_ite, x_iteN, x_T, x_F, x_tT, x_tF, x_op, x_un, x_var0, x_varS, x_c, x_I0, x_I, x_rU, x_nil, x_cons, x_test, x_B, x_bl, x_call, x_CB, x_tup, x_lst, x_not, x_Eq, x_Ne, x_eqII, x_eqSS, x_eqBB,  x_and, x_or, x_andV, x_orV, x_notV, x_if, x_par, x_two, x_drop, x_BM, x_set0, x_setS, x_gcons, x_gnil, x_forL, x_forT, x_forR1, x_forR2, x_forE, x_ref, x_int1, x_oneI, x_oneB, x_noBI, x_twoI, false_or, x_sl, x_noP, x_part, true_and, List.append_nil, cxK, cxKn]; try simp only [V.str.injEq, V.int.injEq, V.bl.injEq])
    refine fld hp SP.cl SP.nL (sf_levels _ _ _) ?_
    refine ⟨_, truL (SqL.of hl), ?_⟩
    cases hX' : S.lv.getLast? with
    | none =>
      have e : S.lv = [] := List.getLast?_eq_none_iff.mp hX'
      have := hX.len
      rw [e] at this
      have ex : xs = [] := List.length_eq_zero_iff.mp this
      rw [ex]
      exact q0 e
    | some v =>
      obtain ⟨t, q', hx0, hT, _, hR⟩ := hX.last hX'
      have hne : (!xs.isEmpty) = true := by cases xs with | nil => cases hx0 | cons => rfl
      rw [hne]
      (try simp only [x_asg, x_mkV, x_value, x_lcR1, x_lcL, List.map_cons, List.map_nil, x_yes, x_wipe0, x_wipeS, x_rs, x_callS, x_callKS, x_fld, x_sfld, x_meth, x_make, x_fldaug, x_BM0, x_rAdd, x_retN, x_name, x_sub, x_ret, x_next, x_ifS, x_ite, x_iteN, x_T, x_F, x_tT, x_tF, x_op, x_un, x_var0, x_varS, x_c, x_I0, x_I, x_rU, x_nil, x_cons, x_test, x_B, x_bl, x_call, x_CB, x_tup, x_lst, x_not, x_Eq, x_Ne, x_eqII, x_eqSS, x_eqBB,  x_and, x_or, x_andV, x_orV, x_notV, x_if, x_par, x_two, x_drop, x_BM, x_set0, x_setS, x_gcons, x_gnil, x_forL, x_forT, x_forR1, x_forR2, x_forE, x_ref, x_int1, x_oneI, x_oneB, x_noBI, x_twoI, false_or, x_sl, x_noP, x_part, true_and, List.append_nil, cxK, cxKn]; try simp only [V.str.injEq, V.int.injEq, V.bl.injEq])
      refine fld hp SP.cl SP.nL (sf_levels _ _ _) ?_
      refine x_ixL (SqL.of hl) (atI_last hx0) ?_
      refine x_ixT hT rfl ?_
      (try simp only [x_asg, x_mkV, x_value, x_lcR1, x_lcL, List.map_cons, List.map_nil, x_yes, x_wipe0, x_wipeS, x_rs, x_callS, x_callKS, x_fld, x_sfld, x_meth, x_make, x_fldaug, x_BM0, x_rAdd, x_retN, x_name, x_sub, x_ret, x_next, x_ifS, x_ite, x_iteN, x_T, x_F, x_tT, x_tF, x_op, x_un, x_var0, x_varS, x_c, x_I0, x_I, x_rU, x_nil, x_cons, x_test, x_B, x_bl, x_call, x_CB, x_tup, x_lst, x_not, x_Eq, x_Ne, x_eqII, x_eqSS, x_eqBB,  x_and, x_or, x_andV, x_orV, x_notV, x_if, x_par, x_two, x_drop, x_BM, x_set0, x_setS, x_gcons, x_gnil, x_forL, x_forT, x_forR1, x_forR2, x_forE, x_ref, x_int1, x_oneI, x_oneB, x_noBI, x_twoI, false_or, x_sl, x_noP, x_part, true_and, List.append_nil, cxK, cxKn]; try simp only [V.str.injEq, V.int.injEq, V.bl.injEq])
      refine fld hp SP.cl SP.nO (sf_offset _ _ _) ?_
      have b := (hk.lvl v (List.mem_of_getLast? hX')).1
      exact ⟨_, _, _, rfl, hR, by omega, fun r H' nr s' hr' => q v hX' r H' nr s' hr'⟩
end

abbrev s_form : Stmt := topS 15
theorem sc_form : FnScope ["chain", "spread", "widths", "cuts", "least", "level"] ["chain"] (defScope s_form) := ⟨rfl, rfl, rfl, by decide +kernel, rfl, by decide +kernel, by decide +kernel⟩
abbrev s_same_function : Stmt := topS 16
theorem sc_same_function : FnScope ["first", "second"] ["first", "second"] (defScope s_same_function) := ⟨rfl, rfl, rfl, by decide +kernel, rfl, by decide +kernel, by decide +kernel⟩
section
variable {P : Program} {w : World} {K : PySem.W.Frag} {mg : Str → Option Value} {base : Heap} {C CS : Addr}
structure Fm where
  shift : Int
  ws : List Int
  cs : List Int
  least : Option Int
def dOpt : Option Int → PyData
  | none => .none
  | some i => .int i
def fmD (F : Fm) : PyData := .tuple [.int F.shift, .tuple (F.ws.map PyData.int), .tuple (F.cs.map PyData.int), dOpt F.least]
def formS (S : Spr) : Fm := match S.lv, S.lv.getLast? with
  | u :: r, some v => ⟨S.tot % 2 ^ u.w.toNat, S.lv.map (·.w), r.map (·.cut), some (lowOf v.rs + S.off)⟩
  | _, _ => ⟨S.tot, [], [], none⟩
theorem dpInts {H : Hp} : ∀ ns : List Int, DpAll K H (ns.map V.int) (ns.map PyData.int)
  | [] => .nil
  | n :: ns => .cons (.int n) (dpInts ns)
def spForm (K : PySem.W.Frag) (CS : Addr) : Sp := fun vs H Q E => ∃ (a : Addr) (c : Ch), vs = [.ref a] ∧ ChAt K H a c ∧ bndC c ∧ (firstBad c = none → ∀ p H', H p = none → Same H H' → Dp K H' (.ref p) (fmD (formS (spreadS c))) → Q (.ref p) H') ∧
  ∀ i, firstBad c = some i → ∀ d H', Same H H' → XdAt H' d (.int (i : Nat)) → E (.ref CS) (some d) H'
theorem x_tupleL {H : Hp} {Q : VK} {p : Addr} {ys : List V} (h : SqL K H p ys) (q : ∀ l, H l = none → Q (.ref l) (upd H l (.tup ys))) : (fun (xs : List V) (H : Hp) (Q : VK) => ∃ p ys, xs = [V.ref p] ∧ (SqL K H p ys ∧ (∀ l, H l = none → Q (.ref l) (upd H l (.tup ys))) ∨ SqT K H p ys ∧ Q (.ref p) H)) [.ref p] H Q := ⟨p, ys, rfl, .inl ⟨h, q⟩⟩
theorem p_form (T : Tx K mg "form" s_form) (SP : SpC K mg C) (m_tuple : mg "tuple" = none) (h_spread_of : Pr P w K mg base (L2.CX P w) 5 "spread_of" ["chain"] (spSpread K C CS))
    (h_period : MPr P w K mg base CX0 1 C "period" ["self"] (spPeriod K C)) (h_value_ranges : MPr P w K mg base CX0 2 C "value_ranges" ["self"] (spValR K C)) : Pr P w K mg base (L2.CX P w) 6 "form" ["chain"] (spForm K CS) := by
  refine mkPX T sc_form (fun _ _ _ _ _ _ us hl => match us, hl with | [_], _ => rfl) (fun vs H Q E h => ?_) (fun f cdv A outer s H vs Q E hG hr h => ?_)
  · obtain ⟨_, _, rfl, _⟩ := h
    rfl
  · obtain ⟨a, c, rfl, hC, hb, q, qE⟩ := h
    have nd := sc_form.nd
    refine ⟨_, (pss_cons (ps_set (i := 1) nd rfl (.inl rfl) (pe_PX h_spread_of hr hG (by rfl) (takes_of rfl rfl rfl rfl) (pa_cons (pv 0) pa_nil))) (pss_cons (ps_if (pt_not (pt_truth (pe_fld (pv 1) rfl) (by intro _; rfl))) (pss_one (ps_ret (pe_tup (pa_cons (pe_fld (pv 1) rfl) (pa_cons (pe_tup pa_nil) (pa_cons (pe_tup pa_nil) (pa_cons pe_non pa_nil))))))) pss_nil) (pss_cons (ps_set (i := 2) nd rfl (.inl rfl) (pe_callTy call_tuple_of (by rfl) m_tuple (by decide +kernel) (pa_cons (pe_lc (own := [("level", 5)]) (g := gName 5) (by rfl) nd (pi_list (pe_fld (pv 1) rfl)) (blkOk_by (own := [("level", 5)]) (N := ["chain", "spread", "widths", "cuts", "least", "level"]) (sc := defScope s_form) (by decide +kernel)) (fun _ _ _ _ _ => (pg_name (i := 5) nd rfl (.inl rfl))) (fun _ _ _ _ _ => pts_nil) (fun _ _ _ _ _ => (pe_ix (ixTK (K := K) rfl) (pv 5) pe_int (fun _ _ => rfl)))) pa_nil))) (pss_cons (ps_set (i := 3) nd rfl (.inl rfl) (pe_callTy call_tuple_of (by rfl) m_tuple (by decide +kernel) (pa_cons (pe_lc (own := [("level", 5)]) (g := gName 5) (by rfl) nd (pi_list (pe_slice sl_list (pe_fld (pv 1) rfl) (po_some pe_int) po_none)) (blkOk_by (own := [("level", 5)]) (N := ["chain", "spread", "widths", "cuts", "least", "level"]) (sc := defScope s_form) (by decide +kernel)) (fun _ _ _ _ _ => (pg_name (i := 5) nd rfl (.inl rfl))) (fun _ _ _ _ _ => pts_nil) (fun _ _ _ _ _ => (pe_ix (ixTK (K := K) rfl) (pv 5) pe_int (fun _ _ => rfl)))) pa_nil))) (pss_cons (ps_set (i := 4) nd rfl (.inl rfl) (pe_ix ix_tup (pe_ix ix_list (pe_MP0 (pv 1) SP.cl h_value_ranges hr hG) pe_int (fun _ _ => rfl)) pe_int (fun _ _ => rfl))) (pss_one (ps_ret (pe_tup (pa_cons (pe_op op_mod (pe_fld (pv 1) rfl) (pe_MP0 (pv 1) SP.cl h_period hr hG)) (pa_cons (pv 2) (pa_cons (pv 3) (pa_cons (pv 4) pa_nil)))))))))))), ?_⟩
    show (tSeq _ _) _ [some (V.ref a), none, none, none, none, none] H
    refine x_seq.mpr ?_
    (try simp only [x_asg, x_mkV, x_value, x_lcR1, x_lcL, List.map_cons, List.map_nil, x_yes, x_wipe0, x_wipeS, x_rs, x_callS, x_callKS, x_fld, x_sfld, x_meth, x_make, x_fldaug, x_BM0, x_rAdd, x_retN, x_name, x_sub, x_ret, x_next, x_ifS, x_ite, x_iteN, x_T, x_F, x_tT, x_tF, x_op, x_un, x_var0, x_varS, x_c, x_I0, x_I, x_rU, x_nil, x_cons, x_test, x_B, x_bl, x_call, x_CB, x_tup, x_lst, x_not, x_Eq, x_Ne, x_eqII, x_eqSS, x_eqBB,  x_and, x_or, x_andV, x_orV, x_notV, x_if, x_par, x_two, x_drop, x_BM, x_set0, x_setS, x_gcons, x_gnil, x_forL, x_forT, x_forR1, x_forR2, x_forE, x_ref, x_int1, x_oneI, x_oneB, x_noBI, x_twoI, false_or, x_sl, x_noP, x_part, true_and, List.append_nil, cxK, cxKn]; try simp only [V.str.injEq, V.int.injEq, V.bl.injEq])
    refine ⟨a, c, rfl, hC, hb, fun ok p l H1 np nl s1 hS => ?_, fun i hi d H' s' hd => qE i hi d H' s' hd⟩
    have hk := spreadS_ok ok hb c.length (Nat.le_refl _)
    rw [List.take_length] at hk
    have q := q ok
    generalize spreadS c = S at hS hk q
    obtain ⟨dx, xs, hp, hl, hX⟩ := id hS
    refine x_seq.mpr ?_
    (try simp only [x_asg, x_mkV, x_value, x_lcR1, x_lcL, List.map_cons, List.map_nil, x_yes, x_wipe0, x_wipeS, x_rs, x_callS, x_callKS, x_fld, x_sfld, x_meth, x_make, x_fldaug, x_BM0, x_rAdd, x_retN, x_name, x_sub, x_ret, x_next, x_ifS, x_ite, x_iteN, x_T, x_F, x_tT, x_tF, x_op, x_un, x_var0, x_varS, x_c, x_I0, x_I, x_rU, x_nil, x_cons, x_test, x_B, x_bl, x_call, x_CB, x_tup, x_lst, x_not, x_Eq, x_Ne, x_eqII, x_eqSS, x_eqBB,  x_and, x_or, x_andV, x_orV, x_notV, x_if, x_par, x_two, x_drop, x_BM, x_set0, x_setS, x_gcons, x_gnil, x_forL, x_forT, x_forR1, x_forR2, x_forE, x_ref, x_int1, x_oneI, x_oneB, x_noBI, x_twoI, false_or, x_sl, x_noP, x_part, true_and, List.append_nil, cxK, cxKn]; try simp only [V.str.injEq, V.int.injEq, V.bl.injEq])
    refine fld hp SP.cl SP.nL (sf_levels _ _ _) ?_
    refine ⟨_, truL (SqL.of hl), ?_⟩
    have hk9 := hb.1
    cases hlv : S.lv with
    | nil =>
      have q := q
      unfold formS at q
      rw [hlv] at hX q
      cases hX
      rw [if_pos (show (!(!([] : List V).isEmpty)) = true from rfl)]
      (try simp only [x_asg, x_mkV, x_value, x_lcR1, x_lcL, List.map_cons, List.map_nil, x_yes, x_wipe0, x_wipeS, x_rs, x_callS, x_callKS, x_fld, x_sfld, x_meth, x_make, x_fldaug, x_BM0, x_rAdd, x_retN, x_name, x_sub, x_ret, x_next, x_ifS, x_ite, x_iteN, x_T, x_F, x_tT, x_tF, x_op, x_un, x_var0, x_varS, x_c, x_I0, x_I, x_rU, x_nil, x_cons, x_test, x_B, x_bl, x_call, x_CB, x_tup, x_lst, x_not, x_Eq, x_Ne, x_eqII, x_eqSS, x_eqBB,  x_and, x_or, x_andV, x_orV, x_notV, x_if, x_par, x_two, x_drop, x_BM, x_set0, x_setS, x_gcons, x_gnil, x_forL, x_forT, x_forR1, x_forR2, x_forE, x_ref, x_int1, x_oneI, x_oneB, x_noBI, x_twoI, false_or, x_sl, x_noP, x_part, true_and, List.append_nil, cxK, cxKn]; try simp only [V.str.injEq, V.int.injEq, V.bl.injEq])
      refine fld hp SP.cl SP.nT (sf_total _ _ _) ?_
      refine ⟨by show 0 ≤ sizeLine; decide, fun p1 n1 => ⟨by show 0 ≤ sizeLine; decide, fun p2 n2 => ⟨by show 4 ≤ sizeLine; decide, fun p3 n3 => ?_⟩⟩⟩
      have t1 := same_new (o := .tup []) n1
      have t2 := same_new (o := .tup []) n2
      have t3 := same_new (o := .tup [.int S.tot, .ref p1, .ref p2, .non]) n3
      refine q p3 _ (((s1.trans t1).trans t2).free n3) (((s1.trans t1).trans t2).trans t3) ?_
      refine .tup (SqT.of upd_same) (.cons (.int _) (.cons (.tup (SqT.of (t3 _ _ (t2 _ _ upd_same))) .nil) (.cons (.tup (SqT.of (t3 _ _ upd_same)) .nil) (.cons .non .nil))))
    | cons u r =>
      obtain ⟨v, hv⟩ : ∃ v, S.lv.getLast? = some v := by
        rw [hlv]
        exact ⟨_, List.getLast?_cons⟩
      have q := q
      have e : formS S = ⟨S.tot % 2 ^ u.w.toNat, S.lv.map (·.w), r.map (·.cut), some (lowOf v.rs + S.off)⟩ := by
        unfold formS
        rw [hv]
        rw [hlv]
      rw [e] at q
      have hx0 := hX.len
      rw [hlv] at hx0
      have hne : (!xs.isEmpty) = true := by
        cases xs with | nil => cases hx0 | cons => rfl
      rw [hne]
      have hlen := hk.len
      (try simp only [x_asg, x_mkV, x_value, x_lcR1, x_lcL, List.map_cons, List.map_nil, x_yes, x_wipe0, x_wipeS, x_rs, x_callS, x_callKS, x_fld, x_sfld, x_meth, x_make, x_fldaug, x_BM0, x_rAdd, x_retN, x_name, x_sub, x_ret, x_next, x_ifS, x_ite, x_iteN, x_T, x_F, x_tT, x_tF, x_op, x_un, x_var0, x_varS, x_c, x_I0, x_I, x_rU, x_nil, x_cons, x_test, x_B, x_bl, x_call, x_CB, x_tup, x_lst, x_not, x_Eq, x_Ne, x_eqII, x_eqSS, x_eqBB,  x_and, x_or, x_andV, x_orV, x_notV, x_if, x_par, x_two, x_drop, x_BM, x_set0, x_setS, x_gcons, x_gnil, x_forL, x_forT, x_forR1, x_forR2, x_forE, x_ref, x_int1, x_oneI, x_oneB, x_noBI, x_twoI, false_or, x_sl, x_noP, x_part, true_and, List.append_nil, cxK, cxKn]; try simp only [V.str.injEq, V.int.injEq, V.bl.injEq])
      refine x_seq.mpr ?_
      (try simp only [x_asg, x_mkV, x_value, x_lcR1, x_lcL, List.map_cons, List.map_nil, x_yes, x_wipe0, x_wipeS, x_rs, x_callS, x_callKS, x_fld, x_sfld, x_meth, x_make, x_fldaug, x_BM0, x_rAdd, x_retN, x_name, x_sub, x_ret, x_next, x_ifS, x_ite, x_iteN, x_T, x_F, x_tT, x_tF, x_op, x_un, x_var0, x_varS, x_c, x_I0, x_I, x_rU, x_nil, x_cons, x_test, x_B, x_bl, x_call, x_CB, x_tup, x_lst, x_not, x_Eq, x_Ne, x_eqII, x_eqSS, x_eqBB,  x_and, x_or, x_andV, x_orV, x_notV, x_if, x_par, x_two, x_drop, x_BM, x_set0, x_setS, x_gcons, x_gnil, x_forL, x_forT, x_forR1, x_forR2, x_forE, x_ref, x_int1, x_oneI, x_oneB, x_noBI, x_twoI, false_or, x_sl, x_noP, x_part, true_and, List.append_nil, cxK, cxKn]; try simp only [V.str.injEq, V.int.injEq, V.bl.injEq])
      refine fld hp SP.cl SP.nL (sf_levels _ _ _) ?_
      refine ⟨l, rfl, ⟨_, SqL.of hl⟩, fun D nD => ?_⟩
      refine lcL (xs := xs) (fun i H' => H' D = some (.lst (((S.lv.take i).map (·.w)).map V.int)) ∧ Same H1 H') ⟨by rw [List.take_zero]; exact upd_same, same_new nD⟩ (fun i H' _ h => .of (h.2 _ _ hl)) (fun i x H' hx h => ?_) (fun H2 h => ?_)
      · obtain ⟨hD, sH⟩ := h
        obtain ⟨t, q', v', rfl, hv', hT, _⟩ := hX.get hx
        have hi := (List.getElem?_eq_some_iff.mp hv').1
        (try simp only [x_asg, x_mkV, x_value, x_lcR1, x_lcL, List.map_cons, List.map_nil, x_yes, x_wipe0, x_wipeS, x_rs, x_callS, x_callKS, x_fld, x_sfld, x_meth, x_make, x_fldaug, x_BM0, x_rAdd, x_retN, x_name, x_sub, x_ret, x_next, x_ifS, x_ite, x_iteN, x_T, x_F, x_tT, x_tF, x_op, x_un, x_var0, x_varS, x_c, x_I0, x_I, x_rU, x_nil, x_cons, x_test, x_B, x_bl, x_call, x_CB, x_tup, x_lst, x_not, x_Eq, x_Ne, x_eqII, x_eqSS, x_eqBB,  x_and, x_or, x_andV, x_orV, x_notV, x_if, x_par, x_two, x_drop, x_BM, x_set0, x_setS, x_gcons, x_gnil, x_forL, x_forT, x_forR1, x_forR2, x_forE, x_ref, x_int1, x_oneI, x_oneB, x_noBI, x_twoI, false_or, x_sl, x_noP, x_part, true_and, List.append_nil, cxK, cxKn]; try simp only [V.str.injEq, V.int.injEq, V.bl.injEq])
        rw [if_pos trivial]
        refine x_ixT (Same.tup sH hT) rfl ?_
        refine ⟨_, hD, ?_, ?_, same_mut sH nD⟩
        · rw [List.length_map, List.length_map, List.length_take, sizeLine_eq]
          omega
        · rw [upd_same, List.take_add_one, hv']
          simp
      obtain ⟨hD, s2⟩ := h
      rw [hX.len, List.take_length] at hD
      refine ⟨D, _, rfl, .inl ⟨SqL.of hD, fun p1 n1 => ?_⟩⟩
      have t1 := same_new (o := .tup ((S.lv.map (·.w)).map V.int)) n1
      have g1 : upd H2 p1 (.tup ((S.lv.map (·.w)).map V.int)) p1 = some (.tup ((S.lv.map (·.w)).map V.int)) := upd_same
      have s3 := s2.trans t1
      generalize upd H2 p1 (.tup ((S.lv.map (·.w)).map V.int)) = H3 at g1 s3 ⊢
      refine x_seq.mpr ?_
      (try simp only [x_asg, x_mkV, x_value, x_lcR1, x_lcL, List.map_cons, List.map_nil, x_yes, x_wipe0, x_wipeS, x_rs, x_callS, x_callKS, x_fld, x_sfld, x_meth, x_make, x_fldaug, x_BM0, x_rAdd, x_retN, x_name, x_sub, x_ret, x_next, x_ifS, x_ite, x_iteN, x_T, x_F, x_tT, x_tF, x_op, x_un, x_var0, x_varS, x_c, x_I0, x_I, x_rU, x_nil, x_cons, x_test, x_B, x_bl, x_call, x_CB, x_tup, x_lst, x_not, x_Eq, x_Ne, x_eqII, x_eqSS, x_eqBB,  x_and, x_or, x_andV, x_orV, x_notV, x_if, x_par, x_two, x_drop, x_BM, x_set0, x_setS, x_gcons, x_gnil, x_forL, x_forT, x_forR1, x_forR2, x_forE, x_ref, x_int1, x_oneI, x_oneB, x_noBI, x_twoI, false_or, x_sl, x_noP, x_part, true_and, List.append_nil, cxK, cxKn]; try simp only [V.str.injEq, V.int.injEq, V.bl.injEq])
      refine fld (s3 _ _ hp) SP.cl SP.nL (sf_levels _ _ _) ?_
      (try simp only [x_asg, x_mkV, x_value, x_lcR1, x_lcL, List.map_cons, List.map_nil, x_yes, x_wipe0, x_wipeS, x_rs, x_callS, x_callKS, x_fld, x_sfld, x_meth, x_make, x_fldaug, x_BM0, x_rAdd, x_retN, x_name, x_sub, x_ret, x_next, x_ifS, x_ite, x_iteN, x_T, x_F, x_tT, x_tF, x_op, x_un, x_var0, x_varS, x_c, x_I0, x_I, x_rU, x_nil, x_cons, x_test, x_B, x_bl, x_call, x_CB, x_tup, x_lst, x_not, x_Eq, x_Ne, x_eqII, x_eqSS, x_eqBB,  x_and, x_or, x_andV, x_orV, x_notV, x_if, x_par, x_two, x_drop, x_BM, x_set0, x_setS, x_gcons, x_gnil, x_forL, x_forT, x_forR1, x_forR2, x_forE, x_ref, x_int1, x_oneI, x_oneB, x_noBI, x_twoI, false_or, x_sl, x_noP, x_part, true_and, List.append_nil, cxK, cxKn]; try simp only [V.str.injEq, V.int.injEq, V.bl.injEq])
      refine x_slL (SqL.of (s3 _ _ hl)) fun p2 n2 => ?_
      have hx1 : 1 ≤ xs.length := by rw [hx0]; simp
      have hcut : cutV xs (some 1) none = xs.drop 1 := by
        unfold cutV
        rw [HT.sIx_none, show HT.sIx xs.length 0 (some 1) = min 1 xs.length from HT.sIx_nat _ _ 1, Nat.min_eq_left hx1]
        exact List.take_of_length_le (by rw [List.length_drop]; omega)
      rw [hcut]
      have t2 := same_new (o := .lst (xs.drop 1)) n2
      have g2 : upd H3 p2 (.lst (xs.drop 1)) p2 = some (.lst (xs.drop 1)) := upd_same
      have s4 := s3.trans t2
      have g1' := t2 _ _ g1
      generalize upd H3 p2 (.lst (xs.drop 1)) = H4 at g2 s4 g1' t2 ⊢
      (try simp only [x_asg, x_mkV, x_value, x_lcR1, x_lcL, List.map_cons, List.map_nil, x_yes, x_wipe0, x_wipeS, x_rs, x_callS, x_callKS, x_fld, x_sfld, x_meth, x_make, x_fldaug, x_BM0, x_rAdd, x_retN, x_name, x_sub, x_ret, x_next, x_ifS, x_ite, x_iteN, x_T, x_F, x_tT, x_tF, x_op, x_un, x_var0, x_varS, x_c, x_I0, x_I, x_rU, x_nil, x_cons, x_test, x_B, x_bl, x_call, x_CB, x_tup, x_lst, x_not, x_Eq, x_Ne, x_eqII, x_eqSS, x_eqBB,  x_and, x_or, x_andV, x_orV, x_notV, x_if, x_par, x_two, x_drop, x_BM, x_set0, x_setS, x_gcons, x_gnil, x_forL, x_forT, x_forR1, x_forR2, x_forE, x_ref, x_int1, x_oneI, x_oneB, x_noBI, x_twoI, false_or, x_sl, x_noP, x_part, true_and, List.append_nil, cxK, cxKn]; try simp only [V.str.injEq, V.int.injEq, V.bl.injEq])
      refine ⟨⟨_, SqL.of g2⟩, fun D2 nD2 => ?_⟩
      have hXr : ∀ {H' : Hp}, Same H1 H' → Lvs K H' l (xs.drop 1) r := fun {H'} e => by
        have h := hX.same e
        rw [hlv] at h
        cases h with
        | cons _ _ _ d => exact d
      refine lcL (xs := xs.drop 1) (fun i H' => H' D2 = some (.lst (((r.take i).map (·.cut)).map V.int)) ∧ Same H4 H') ⟨by rw [List.take_zero]; exact upd_same, same_new nD2⟩ (fun i H' _ h => .of (h.2 _ _ g2)) (fun i x H' hx h => ?_) (fun H5 h => ?_)
      · obtain ⟨hD, sH⟩ := h
        obtain ⟨t, q', v', rfl, hv', hT, _⟩ := (hXr (s4.trans sH)).get hx
        have hi := (List.getElem?_eq_some_iff.mp hv').1
        (try simp only [x_asg, x_mkV, x_value, x_lcR1, x_lcL, List.map_cons, List.map_nil, x_yes, x_wipe0, x_wipeS, x_rs, x_callS, x_callKS, x_fld, x_sfld, x_meth, x_make, x_fldaug, x_BM0, x_rAdd, x_retN, x_name, x_sub, x_ret, x_next, x_ifS, x_ite, x_iteN, x_T, x_F, x_tT, x_tF, x_op, x_un, x_var0, x_varS, x_c, x_I0, x_I, x_rU, x_nil, x_cons, x_test, x_B, x_bl, x_call, x_CB, x_tup, x_lst, x_not, x_Eq, x_Ne, x_eqII, x_eqSS, x_eqBB,  x_and, x_or, x_andV, x_orV, x_notV, x_if, x_par, x_two, x_drop, x_BM, x_set0, x_setS, x_gcons, x_gnil, x_forL, x_forT, x_forR1, x_forR2, x_forE, x_ref, x_int1, x_oneI, x_oneB, x_noBI, x_twoI, false_or, x_sl, x_noP, x_part, true_and, List.append_nil, cxK, cxKn]; try simp only [V.str.injEq, V.int.injEq, V.bl.injEq])
        rw [if_pos trivial]
        refine x_ixT hT rfl ?_
        refine ⟨_, hD, ?_, ?_, same_mut sH nD2⟩
        · rw [List.length_map, List.length_map, List.length_take, sizeLine_eq]
          rw [hlv] at hlen
          simp only [List.length_cons] at hlen
          omega
        · rw [upd_same, List.take_add_one, hv']
          simp
      obtain ⟨hD, s5⟩ := h
      rw [(hXr s4).len, List.take_length] at hD
      refine ⟨D2, _, rfl, .inl ⟨SqL.of hD, fun p3 n3 => ?_⟩⟩
      have t3 := same_new (o := .tup ((r.map (·.cut)).map V.int)) n3
      have g3 : upd H5 p3 (.tup ((r.map (·.cut)).map V.int)) p3 = some (.tup ((r.map (·.cut)).map V.int)) := upd_same
      have s6 := s4.trans (s5.trans t3)
      have g1'' := t3 _ _ (s5 _ _ g1')
      generalize upd H5 p3 (.tup ((r.map (·.cut)).map V.int)) = H6 at g3 s6 g1'' ⊢
      refine x_seq.mpr ?_
      (try simp only [x_asg, x_mkV, x_value, x_lcR1, x_lcL, List.map_cons, List.map_nil, x_yes, x_wipe0, x_wipeS, x_rs, x_callS, x_callKS, x_fld, x_sfld, x_meth, x_make, x_fldaug, x_BM0, x_rAdd, x_retN, x_name, x_sub, x_ret, x_next, x_ifS, x_ite, x_iteN, x_T, x_F, x_tT, x_tF, x_op, x_un, x_var0, x_varS, x_c, x_I0, x_I, x_rU, x_nil, x_cons, x_test, x_B, x_bl, x_call, x_CB, x_tup, x_lst, x_not, x_Eq, x_Ne, x_eqII, x_eqSS, x_eqBB,  x_and, x_or, x_andV, x_orV, x_notV, x_if, x_par, x_two, x_drop, x_BM, x_set0, x_setS, x_gcons, x_gnil, x_forL, x_forT, x_forR1, x_forR2, x_forE, x_ref, x_int1, x_oneI, x_oneB, x_noBI, x_twoI, false_or, x_sl, x_noP, x_part, true_and, List.append_nil, cxK, cxKn]; try simp only [V.str.injEq, V.int.injEq, V.bl.injEq])
      refine meth (s6 _ _ hp) (sf_none _ _ _ (by decide +kernel) (by decide +kernel) (by decide +kernel)) ?_
      (try simp only [x_asg, x_mkV, x_value, x_lcR1, x_lcL, List.map_cons, List.map_nil, x_yes, x_wipe0, x_wipeS, x_rs, x_callS, x_callKS, x_fld, x_sfld, x_meth, x_make, x_fldaug, x_BM0, x_rAdd, x_retN, x_name, x_sub, x_ret, x_next, x_ifS, x_ite, x_iteN, x_T, x_F, x_tT, x_tF, x_op, x_un, x_var0, x_varS, x_c, x_I0, x_I, x_rU, x_nil, x_cons, x_test, x_B, x_bl, x_call, x_CB, x_tup, x_lst, x_not, x_Eq, x_Ne, x_eqII, x_eqSS, x_eqBB,  x_and, x_or, x_andV, x_orV, x_notV, x_if, x_par, x_two, x_drop, x_BM, x_set0, x_setS, x_gcons, x_gnil, x_forL, x_forT, x_forR1, x_forR2, x_forE, x_ref, x_int1, x_oneI, x_oneB, x_noBI, x_twoI, false_or, x_sl, x_noP, x_part, true_and, List.append_nil, cxK, cxKn]; try simp only [V.str.injEq, V.int.injEq, V.bl.injEq])
      refine ⟨p, l, S, c.length, rfl, hS.same s6, hk, hk9, fun e => absurd e (by rw [hlv]; simp), fun v' hv' pr H7 npr s7 hR => ?_⟩
      have ev : v' = v := by
        rw [hv] at hv'
        exact (Option.some.inj hv').symm
      subst ev
      have hne' := (hk.lvl v' (List.mem_of_getLast? hv)).2.1
      obtain ⟨zs, hzs, hRs⟩ := hR
      obtain ⟨⟨a0, b0⟩, rest, hrs⟩ : ∃ ab rest, v'.rs = ab :: rest := by
        cases hr : v'.rs with
        | nil => exact absurd hr hne'
        | cons a b => exact ⟨a, b, rfl⟩
      have hz0 : 0 < zs.length := by
        rw [hRs.len]
        unfold movR
        rw [hrs]
        exact Nat.succ_pos _
      obtain ⟨t, a1, b1, ez, hab, hT⟩ := hRs.get (List.getElem?_eq_getElem hz0)
      have hab' : a1 = lowOf v'.rs + S.off := by
        unfold movR at hab
        rw [hrs] at hab ⊢
        cases hab
        rfl
      (try simp only [x_asg, x_mkV, x_value, x_lcR1, x_lcL, List.map_cons, List.map_nil, x_yes, x_wipe0, x_wipeS, x_rs, x_callS, x_callKS, x_fld, x_sfld, x_meth, x_make, x_fldaug, x_BM0, x_rAdd, x_retN, x_name, x_sub, x_ret, x_next, x_ifS, x_ite, x_iteN, x_T, x_F, x_tT, x_tF, x_op, x_un, x_var0, x_varS, x_c, x_I0, x_I, x_rU, x_nil, x_cons, x_test, x_B, x_bl, x_call, x_CB, x_tup, x_lst, x_not, x_Eq, x_Ne, x_eqII, x_eqSS, x_eqBB,  x_and, x_or, x_andV, x_orV, x_notV, x_if, x_par, x_two, x_drop, x_BM, x_set0, x_setS, x_gcons, x_gnil, x_forL, x_forT, x_forR1, x_forR2, x_forE, x_ref, x_int1, x_oneI, x_oneB, x_noBI, x_twoI, false_or, x_sl, x_noP, x_part, true_and, List.append_nil, cxK, cxKn]; try simp only [V.str.injEq, V.int.injEq, V.bl.injEq])
      refine x_ixL (SqL.of hzs) (atI_nat (j := 0) (List.getElem?_eq_getElem hz0)) ?_
      rw [ez]
      refine x_ixT hT rfl ?_
      (try simp only [x_asg, x_mkV, x_value, x_lcR1, x_lcL, List.map_cons, List.map_nil, x_yes, x_wipe0, x_wipeS, x_rs, x_callS, x_callKS, x_fld, x_sfld, x_meth, x_make, x_fldaug, x_BM0, x_rAdd, x_retN, x_name, x_sub, x_ret, x_next, x_ifS, x_ite, x_iteN, x_T, x_F, x_tT, x_tF, x_op, x_un, x_var0, x_varS, x_c, x_I0, x_I, x_rU, x_nil, x_cons, x_test, x_B, x_bl, x_call, x_CB, x_tup, x_lst, x_not, x_Eq, x_Ne, x_eqII, x_eqSS, x_eqBB,  x_and, x_or, x_andV, x_orV, x_notV, x_if, x_par, x_two, x_drop, x_BM, x_set0, x_setS, x_gcons, x_gnil, x_forL, x_forT, x_forR1, x_forR2, x_forE, x_ref, x_int1, x_oneI, x_oneB, x_noBI, x_twoI, false_or, x_sl, x_noP, x_part, true_and, List.append_nil, cxK, cxKn]; try simp only [V.str.injEq, V.int.injEq, V.bl.injEq])
      refine fld (s7 _ _ (s6 _ _ hp)) SP.cl SP.nT (sf_total _ _ _) ?_
      refine meth (s7 _ _ (s6 _ _ hp)) (sf_none _ _ _ (by decide +kernel) (by decide +kernel) (by decide +kernel)) ?_
      (try simp only [x_asg, x_mkV, x_value, x_lcR1, x_lcL, List.map_cons, List.map_nil, x_yes, x_wipe0, x_wipeS, x_rs, x_callS, x_callKS, x_fld, x_sfld, x_meth, x_make, x_fldaug, x_BM0, x_rAdd, x_retN, x_name, x_sub, x_ret, x_next, x_ifS, x_ite, x_iteN, x_T, x_F, x_tT, x_tF, x_op, x_un, x_var0, x_varS, x_c, x_I0, x_I, x_rU, x_nil, x_cons, x_test, x_B, x_bl, x_call, x_CB, x_tup, x_lst, x_not, x_Eq, x_Ne, x_eqII, x_eqSS, x_eqBB,  x_and, x_or, x_andV, x_orV, x_notV, x_if, x_par, x_two, x_drop, x_BM, x_set0, x_setS, x_gcons, x_gnil, x_forL, x_forT, x_forR1, x_forR2, x_forE, x_ref, x_int1, x_oneI, x_oneB, x_noBI, x_twoI, false_or, x_sl, x_noP, x_part, true_and, List.append_nil, cxK, cxKn]; try simp only [V.str.injEq, V.int.injEq, V.bl.injEq])
      refine ⟨p, l, S, c.length, rfl, (hS.same s6).same s7, hk, ?_⟩
      unfold periodS
      rw [hlv]
      show rI _ _ (.int S.tot) (.int (2 ^ u.w.toNat)) _ _
      (try simp only [x_asg, x_mkV, x_value, x_lcR1, x_lcL, List.map_cons, List.map_nil, x_yes, x_wipe0, x_wipeS, x_rs, x_callS, x_callKS, x_fld, x_sfld, x_meth, x_make, x_fldaug, x_BM0, x_rAdd, x_retN, x_name, x_sub, x_ret, x_next, x_ifS, x_ite, x_iteN, x_T, x_F, x_tT, x_tF, x_op, x_un, x_var0, x_varS, x_c, x_I0, x_I, x_rU, x_nil, x_cons, x_test, x_B, x_bl, x_call, x_CB, x_tup, x_lst, x_not, x_Eq, x_Ne, x_eqII, x_eqSS, x_eqBB,  x_and, x_or, x_andV, x_orV, x_notV, x_if, x_par, x_two, x_drop, x_BM, x_set0, x_setS, x_gcons, x_gnil, x_forL, x_forT, x_forR1, x_forR2, x_forE, x_ref, x_int1, x_oneI, x_oneB, x_noBI, x_twoI, false_or, x_sl, x_noP, x_part, true_and, List.append_nil, cxK, cxKn]; try simp only [V.str.injEq, V.int.injEq, V.bl.injEq])
      refine ⟨two_pos _, by show 4 ≤ sizeLine; decide, fun p4 n4 => ?_⟩
      have t4 := same_new (o := .tup [.int (S.tot % 2 ^ u.w.toNat), .ref p1, .ref p3, .int a1]) n4
      refine q p4 _ (((s1.trans s6).trans s7).free n4) (((s1.trans s6).trans s7).trans t4) ?_
      rw [← hab']
      exact .tup (SqT.of upd_same) (.cons (.int _) (.cons (.tup (SqT.of (t4 _ _ (s7 _ _ g1''))) (dpInts _)) (.cons (.tup (SqT.of (t4 _ _ (s7 _ _ g3))) (dpInts _)) (.cons (.int _) .nil))))
end

def nameOf (_ : Nat) : Str := "InvalidStep"
/-- the seven classes with their __init__s, and CastError -/
structure Cls (P : Program) (w : World) (K : PySem.W.Frag) (mg : Str → Option Value) (base : Heap) (C fI : Nat → Addr) (fd : Nat → FuncData) (C0 : Addr) : Prop where
  cls : ∀ i : Nat, XC K mg (nameOf i) (C i) (fI i)
  ini : ∀ i : Nat, FnOk P w K mg base CX0 1 (fI i) (fd i) ["self", "value"] (spInit K (C i))
  bi : ∀ i : Nat, Binds K (fd i) ["self", "value"] []
  kw : ∀ i : Nat, ∀ (s : Shared) (u v : Value), BindsTo s (fd i) ⟨[u], [("value", v)]⟩ [("self", u), ("value", v)]
  g0 : mg "CastError" = some (.ref C0)
  kit : ∀ i j : Nat, i < 1 → j < 1 → PySem.W.kitOne K (.ref (C i)) (.ref (C j)) = some (decide (i = j))
  kit0 : ∀ i : Nat, i < 1 → PySem.W.kitOne K (.ref (C i)) (.ref C0) = some true
  kitV : ∀ i : Nat, i < 1 → PySem.W.kitOne K (.ref (C i)) (.type "ValueError") = some true
section
variable {P : Program} {w : World} {K : PySem.W.Frag} {mg : Str → Option Value} {base : Heap} {C fI : Nat → Addr} {fd : Nat → FuncData} {C0 : Addr}
def ErrAt (K : PySem.W.Frag) (H : Hp) (a C : Addr) (v : V) : Prop := ∃ d, H a = some (exT a (.ref C) (some d)) ∧ H d = some (.xd [("value", v)])
theorem ErrAt.same {H H' : Hp} {a C : Addr} {v : V} (e : Same H H') (h : ErrAt K H a C v) : ErrAt K H' a C v := by
  obtain ⟨d, h1, h2⟩ := h
  exact ⟨d, e _ _ h1, e _ _ h2⟩
theorem x_isX {H : Hp} {Q : VK} {a c : Addr} {v : V} {b : Bool} (Y : Cls P w K mg base C fI fd C0) {i : Nat} (h : ErrAt K H a (C i) v) (k : PySem.W.kitOne K (.ref (C i)) (.ref c) = some b) (q : Q (.bl b) H) : rIsX K [.ref a, .ref c] H Q := by
  obtain ⟨d, h1, h2⟩ := h
  exact ⟨a, C i, d, _, .ref c, .ref c, b, rfl, h1, h2, (Y.cls i).I, .own c, k, q⟩
theorem x_isV {H : Hp} {Q : VK} {a : Addr} {v : V} {b : Bool} {n : String} (Y : Cls P w K mg base C fI fd C0) {i : Nat} (h : ErrAt K H a (C i) v) (k : PySem.W.kitOne K (.ref (C i)) (.type n) = some b) (q : Q (.bl b) H) : rIsX K [.ref a, .ty n] H Q := by
  obtain ⟨d, h1, h2⟩ := h
  exact ⟨a, C i, d, _, .ty n, .type n, b, rfl, h1, h2, (Y.cls i).I, .ty n, k, q⟩
end

end Cc

set_option Elab.async false
set_option linter.all false
set_option maxRecDepth 100000
set_option maxHeartbeats 4000000
namespace Cc
open PySem PySem.Spec PyProof.Rows L2
section
variable {K : PySem.W.Frag}
theorem nu_ : ¬ (("u" : Str) = "add") := by decide +kernel
theorem okA {n : Int} : okS ("add", n) = true := by
  unfold okS
  simp
theorem Sts.imp {H H' : Hp} (e : ∀ {t : Addr} {xs : List V}, SqT K H t xs → SqT K H' t xs) {xs : List V} {c : Ch} (h : Sts K H xs c) : Sts K H' xs c := by
  induction h with
  | nil => exact .nil
  | cons a _ ih => exact .cons (e a) ih
theorem Sts.app {H : Hp} {xs ys : List V} {c d : Ch} (h : Sts K H xs c) (h2 : Sts K H ys d) : Sts K H (xs ++ ys) (c ++ d) := by
  induction h with
  | nil => exact h2
  | cons a _ ih => exact .cons a ih
theorem tupLst {H : Hp} {c t : Addr} {zs xs : List V} {o : HO} (hc : H c = some (.lst zs)) (h : SqT K H t xs) : SqT K (upd H c o) t xs := by
  rcases h with (h1 | ⟨u, h1⟩) | h1
  · exact .inl (.inl (by show upd H c o _ = _; rw [upd_ne (fun z => by rw [z, hc] at h1; cases h1)]; exact h1))
  · exact .inl (.inr ⟨u, by show upd H c o _ = _; rw [upd_ne (fun z => by rw [z, hc] at h1; cases h1)]; exact h1⟩)
  · exact .inr h1
end

abbrev s_law_pool : Stmt := topS 18
theorem sc_law_pool : FnScope ["script", "at", "cell"] ["script", "at"] (defScope s_law_pool) := ⟨rfl, rfl, rfl, by decide +kernel, rfl, by decide +kernel, by decide +kernel⟩
abbrev s_law_draw : Stmt := topS 19
theorem sc_law_draw : FnScope ["pool", "many", "drawn", "mixed"] ["pool", "many"] (defScope s_law_draw) := ⟨rfl, rfl, rfl, by decide +kernel, rfl, by decide +kernel, by decide +kernel⟩
abbrev s_law_power : Stmt := topS 20
theorem sc_law_power : FnScope ["many"] ["many"] (defScope s_law_power) := ⟨rfl, rfl, rfl, by decide +kernel, rfl, by decide +kernel, by decide +kernel⟩
abbrev s_law_constant : Stmt := topS 22
theorem sc_law_constant : FnScope ["pool", "far", "sign", "near"] ["pool", "far"] (defScope s_law_constant) := ⟨rfl, rfl, rfl, by decide +kernel, rfl, by decide +kernel, by decide +kernel⟩
section
variable {P : Program} {w : World} {K : PySem.W.Frag} {mg : Str → Option Value} {base : Heap}
/-- the draws' list at r: what is left of the digits, the seed, how many draws were made (at most n) -/
def RngAt (H : Hp) (r : Addr) (n : Nat) : Prop := ∃ d s c : Int, H r = some (.lst [.int d, .int s, .int c]) ∧ 0 ≤ d ∧ 0 ≤ s ∧ s < 2305843009213693951 + 1000000000000 ∧ 0 ≤ c ∧ c ≤ n
/-- all but r stands -/
def Oth (r : Addr) (H H' : Hp) : Prop := ∀ b o, b ≠ r → H b = some o → H' b = some o
theorem Oth.refl (r : Addr) (H : Hp) : Oth r H H := fun _ _ _ e => e
theorem Oth.trans {r : Addr} {H H1 H2 : Hp} (a : Oth r H H1) (b : Oth r H1 H2) : Oth r H H2 := fun c o hc e => b c o hc (a c o hc e)
theorem Oth.same {r : Addr} {H H' : Hp} (e : Same H H') : Oth r H H' := fun b o _ h => e b o h
theorem RngAt.same {H H' : Hp} {r : Addr} {n : Nat} (R : RngAt H r n) (e : Same H H') : RngAt H' r n := by
  obtain ⟨d, s, c, h, q⟩ := R
  exact ⟨d, s, c, e _ _ h, q⟩
theorem RngAt.ne {H : Hp} {r p : Addr} {n : Nat} (R : RngAt H r n) (h : H p = none) : p ≠ r := fun e => by
  obtain ⟨d, s, c, q, _⟩ := R
  rw [e, q] at h
  cases h
theorem RngAt.mut {H : Hp} {r p : Addr} {o : HO} {n : Nat} (R : RngAt H r n) (h : p ≠ r) : RngAt (upd H p o) r n := by
  obtain ⟨d, s, c, q, z⟩ := R
  exact ⟨d, s, c, by rw [upd_ne (Ne.symm h)]; exact q, z⟩
theorem RngAt.up {H : Hp} {r : Addr} {m n : Nat} (R : RngAt H r m) (h : m ≤ n) : RngAt H r n := by
  obtain ⟨d, s, c, q, a1, a2, a3, a4, a5⟩ := R
  exact ⟨d, s, c, q, a1, a2, a3, a4, by omega⟩
theorem Oth.free {r : Addr} {H H' : Hp} {n : Nat} (a : Oth r H H') (R : RngAt H' r n) {p : Addr} (h : H' p = none) : H p = none := by
  cases q : H p with
  | none => rfl
  | some o =>
    rw [a p o (R.ne h) q] at h
    cases h
theorem Oth.mut {r : Addr} {H H' : Hp} {p : Addr} {o : HO} (a : Oth r H H') (h : H p = none) : Oth r H (L2.upd H' p o) := fun b u hb e => by
  show (upd H' p o) b = some u
  rw [upd_ne (ne_of_none e h)]
  exact a b u hb e
theorem Oth.upd {H : Hp} (r : Addr) (o : HO) : Oth r H (upd H r o) := fun b u hb e => by rw [upd_ne hb]; exact e
theorem pow_ok {i : Int} (h0 : 0 ≤ i) (h : i < 2 ^ 200) : i.natAbs < 2 ^ 4000 := by
  have h1 : i.natAbs < 2 ^ 200 := by omega
  exact Nat.lt_of_lt_of_le h1 (Nat.pow_le_pow_right (by omega) (by omega))
def spDraw : Sp := fun vs H Q _ => ∃ (r : Addr) (lim : Int) (n : Nat), vs = [.ref r, .int lim] ∧ RngAt H r n ∧ n < 100000000 ∧ 1 ≤ lim ∧ lim < 2 ^ 1000 ∧ ∀ v H', 0 ≤ v → v < lim → RngAt H' r (n + 1) → Oth r H H' → Q (.int v) H'
theorem p_draw (T : Tx K mg "_law_draw" s_law_draw) : Pr P w K mg base CX0 1 "_law_draw" ["pool", "many"] spDraw := by
  refine mkP T sc_law_draw (fun _ _ _ _ _ _ us hl => match us, hl with | [_, _], _ => rfl) (fun vs H Q E h => ?_) (fun f cdv A outer s H vs Q E hG hr h => ?_)
  · obtain ⟨_, _, _, rfl, _⟩ := h
    rfl
  · obtain ⟨r, lim, n, rfl, ⟨d, sd, c, e, d0, s0, s1, c0, c1⟩, hn, l0, l1, q⟩ := h
    have nd := sc_law_draw.nd
    refine ⟨_, (pss_cons (ps_if (pt_cmpR op_gt (pe_ix ix_list (pv 0) pe_int (fun _ _ => rfl)) pe_int (nomark _)) (pss_cons (ps_set (i := 2) nd rfl (.inl rfl) (pe_op op_mod (pe_ix ix_list (pv 0) pe_int (fun _ _ => rfl)) (pv 1))) (pss_cons (ps_asg (pe_op op_fdivW (pe_ix ix_list (pv 0) pe_int (fun _ _ => rfl)) (pv 1)) (pg_sub (pv 0) pe_int set_list)) (pss_one (ps_ret (pv 2))))) pss_nil) (pss_cons (ps_asg (pe_op op_add (pe_ix ix_list (pv 0) pe_int (fun _ _ => rfl)) pe_int) (pg_sub (pv 0) pe_int set_list)) (pss_cons (ps_set (i := 3) nd rfl (.inl rfl) (pe_op op_mod (pe_op op_powX (pe_op op_add (pe_ix ix_list (pv 0) pe_int (fun _ _ => rfl)) (pe_op op_mulW pe_int (pe_ix ix_list (pv 0) pe_int (fun _ _ => rfl)))) pe_int) pe_int)) (pss_cons (ps_set (i := 3) nd rfl (.inl rfl) (pe_op op_mod (pe_op op_powX (pe_op op_add (pv 3) (pe_op op_mulW pe_int (pe_ix ix_list (pv 0) pe_int (fun _ _ => rfl)))) pe_int) pe_int)) (pss_one (ps_ret (pe_op op_mod (pe_op op_fdivW (pv 3) pe_int) (pv 1)))))))), ?_⟩
    show (tSeq _ _) _ [some (V.ref r), some (V.int lim), none, none] H
    refine x_seq.mpr ?_
    (try simp only [x_asg, x_mkV, x_value, x_lcR1, x_lcL, List.map_cons, List.map_nil, x_yes, x_wipe0, x_wipeS, x_rs, x_callS, x_callKS, x_fld, x_sfld, x_meth, x_make, x_fldaug, x_BM0, x_rAdd, x_retN, x_name, x_sub, x_ret, x_next, x_ifS, x_ite, x_iteN, x_T, x_F, x_tT, x_tF, x_op, x_un, x_var0, x_varS, x_c, x_I0, x_I, x_rU, x_nil, x_cons, x_test, x_B, x_bl, x_call, x_CB, x_tup, x_lst, x_not, x_Eq, x_Ne, x_eqII, x_eqSS, x_eqBB,  x_and, x_or, x_andV, x_orV, x_notV, x_if, x_par, x_two, x_drop, x_BM, x_set0, x_setS, x_gcons, x_gnil, x_forL, x_forT, x_forR1, x_forR2, x_forE, x_ref, x_int1, x_oneI, x_oneB, x_noBI, x_twoI, false_or, x_sl, x_noP, x_part, true_and, List.append_nil, cxK, cxKn]; try simp only [V.str.injEq, V.int.injEq, V.bl.injEq])
    refine x_ixL (SqL.of e) rfl ?_
    (try simp only [x_asg, x_mkV, x_value, x_lcR1, x_lcL, List.map_cons, List.map_nil, x_yes, x_wipe0, x_wipeS, x_rs, x_callS, x_callKS, x_fld, x_sfld, x_meth, x_make, x_fldaug, x_BM0, x_rAdd, x_retN, x_name, x_sub, x_ret, x_next, x_ifS, x_ite, x_iteN, x_T, x_F, x_tT, x_tF, x_op, x_un, x_var0, x_varS, x_c, x_I0, x_I, x_rU, x_nil, x_cons, x_test, x_B, x_bl, x_call, x_CB, x_tup, x_lst, x_not, x_Eq, x_Ne, x_eqII, x_eqSS, x_eqBB,  x_and, x_or, x_andV, x_orV, x_notV, x_if, x_par, x_two, x_drop, x_BM, x_set0, x_setS, x_gcons, x_gnil, x_forL, x_forT, x_forR1, x_forR2, x_forE, x_ref, x_int1, x_oneI, x_oneB, x_noBI, x_twoI, false_or, x_sl, x_noP, x_part, true_and, List.append_nil, cxK, cxKn]; try simp only [V.str.injEq, V.int.injEq, V.bl.injEq])
    refine ⟨fun hd => ?_, fun hd => ?_⟩
    · refine x_seq.mpr ?_
      (try simp only [x_asg, x_mkV, x_value, x_lcR1, x_lcL, List.map_cons, List.map_nil, x_yes, x_wipe0, x_wipeS, x_rs, x_callS, x_callKS, x_fld, x_sfld, x_meth, x_make, x_fldaug, x_BM0, x_rAdd, x_retN, x_name, x_sub, x_ret, x_next, x_ifS, x_ite, x_iteN, x_T, x_F, x_tT, x_tF, x_op, x_un, x_var0, x_varS, x_c, x_I0, x_I, x_rU, x_nil, x_cons, x_test, x_B, x_bl, x_call, x_CB, x_tup, x_lst, x_not, x_Eq, x_Ne, x_eqII, x_eqSS, x_eqBB,  x_and, x_or, x_andV, x_orV, x_notV, x_if, x_par, x_two, x_drop, x_BM, x_set0, x_setS, x_gcons, x_gnil, x_forL, x_forT, x_forR1, x_forR2, x_forE, x_ref, x_int1, x_oneI, x_oneB, x_noBI, x_twoI, false_or, x_sl, x_noP, x_part, true_and, List.append_nil, cxK, cxKn]; try simp only [V.str.injEq, V.int.injEq, V.bl.injEq])
      refine x_ixL (SqL.of e) rfl ?_
      (try simp only [x_asg, x_mkV, x_value, x_lcR1, x_lcL, List.map_cons, List.map_nil, x_yes, x_wipe0, x_wipeS, x_rs, x_callS, x_callKS, x_fld, x_sfld, x_meth, x_make, x_fldaug, x_BM0, x_rAdd, x_retN, x_name, x_sub, x_ret, x_next, x_ifS, x_ite, x_iteN, x_T, x_F, x_tT, x_tF, x_op, x_un, x_var0, x_varS, x_c, x_I0, x_I, x_rU, x_nil, x_cons, x_test, x_B, x_bl, x_call, x_CB, x_tup, x_lst, x_not, x_Eq, x_Ne, x_eqII, x_eqSS, x_eqBB,  x_and, x_or, x_andV, x_orV, x_notV, x_if, x_par, x_two, x_drop, x_BM, x_set0, x_setS, x_gcons, x_gnil, x_forL, x_forT, x_forR1, x_forR2, x_forE, x_ref, x_int1, x_oneI, x_oneB, x_noBI, x_twoI, false_or, x_sl, x_noP, x_part, true_and, List.append_nil, cxK, cxKn]; try simp only [V.str.injEq, V.int.injEq, V.bl.injEq])
      refine ⟨by omega, ?_⟩
      refine x_seq.mpr ?_
      (try simp only [x_asg, x_mkV, x_value, x_lcR1, x_lcL, List.map_cons, List.map_nil, x_yes, x_wipe0, x_wipeS, x_rs, x_callS, x_callKS, x_fld, x_sfld, x_meth, x_make, x_fldaug, x_BM0, x_rAdd, x_retN, x_name, x_sub, x_ret, x_next, x_ifS, x_ite, x_iteN, x_T, x_F, x_tT, x_tF, x_op, x_un, x_var0, x_varS, x_c, x_I0, x_I, x_rU, x_nil, x_cons, x_test, x_B, x_bl, x_call, x_CB, x_tup, x_lst, x_not, x_Eq, x_Ne, x_eqII, x_eqSS, x_eqBB,  x_and, x_or, x_andV, x_orV, x_notV, x_if, x_par, x_two, x_drop, x_BM, x_set0, x_setS, x_gcons, x_gnil, x_forL, x_forT, x_forR1, x_forR2, x_forE, x_ref, x_int1, x_oneI, x_oneB, x_noBI, x_twoI, false_or, x_sl, x_noP, x_part, true_and, List.append_nil, cxK, cxKn]; try simp only [V.str.injEq, V.int.injEq, V.bl.injEq])
      refine x_ixL (SqL.of e) rfl ?_
      (try simp only [x_asg, x_mkV, x_value, x_lcR1, x_lcL, List.map_cons, List.map_nil, x_yes, x_wipe0, x_wipeS, x_rs, x_callS, x_callKS, x_fld, x_sfld, x_meth, x_make, x_fldaug, x_BM0, x_rAdd, x_retN, x_name, x_sub, x_ret, x_next, x_ifS, x_ite, x_iteN, x_T, x_F, x_tT, x_tF, x_op, x_un, x_var0, x_varS, x_c, x_I0, x_I, x_rU, x_nil, x_cons, x_test, x_B, x_bl, x_call, x_CB, x_tup, x_lst, x_not, x_Eq, x_Ne, x_eqII, x_eqSS, x_eqBB,  x_and, x_or, x_andV, x_orV, x_notV, x_if, x_par, x_two, x_drop, x_BM, x_set0, x_setS, x_gcons, x_gnil, x_forL, x_forT, x_forR1, x_forR2, x_forE, x_ref, x_int1, x_oneI, x_oneB, x_noBI, x_twoI, false_or, x_sl, x_noP, x_part, true_and, List.append_nil, cxK, cxKn]; try simp only [V.str.injEq, V.int.injEq, V.bl.injEq])
      refine ⟨⟨by omega, Nat.lt_of_lt_of_le (PySem.Flt.log2_lt_of (k := 1000) (by omega) (by omega)) (by decide)⟩, x_setL e (j := 0) rfl ?_⟩
      exact q _ _ (Int.emod_nonneg _ (by omega)) (Int.emod_lt_of_pos _ (by omega)) ⟨d / lim, sd, c, upd_same, Int.ediv_nonneg d0 (by omega), s0, s1, c0, by omega⟩ (Oth.upd r _)
    · refine x_seq.mpr ?_
      (try simp only [x_asg, x_mkV, x_value, x_lcR1, x_lcL, List.map_cons, List.map_nil, x_yes, x_wipe0, x_wipeS, x_rs, x_callS, x_callKS, x_fld, x_sfld, x_meth, x_make, x_fldaug, x_BM0, x_rAdd, x_retN, x_name, x_sub, x_ret, x_next, x_ifS, x_ite, x_iteN, x_T, x_F, x_tT, x_tF, x_op, x_un, x_var0, x_varS, x_c, x_I0, x_I, x_rU, x_nil, x_cons, x_test, x_B, x_bl, x_call, x_CB, x_tup, x_lst, x_not, x_Eq, x_Ne, x_eqII, x_eqSS, x_eqBB,  x_and, x_or, x_andV, x_orV, x_notV, x_if, x_par, x_two, x_drop, x_BM, x_set0, x_setS, x_gcons, x_gnil, x_forL, x_forT, x_forR1, x_forR2, x_forE, x_ref, x_int1, x_oneI, x_oneB, x_noBI, x_twoI, false_or, x_sl, x_noP, x_part, true_and, List.append_nil, cxK, cxKn]; try simp only [V.str.injEq, V.int.injEq, V.bl.injEq])
      refine x_ixL (SqL.of e) rfl ?_
      (try simp only [x_asg, x_mkV, x_value, x_lcR1, x_lcL, List.map_cons, List.map_nil, x_yes, x_wipe0, x_wipeS, x_rs, x_callS, x_callKS, x_fld, x_sfld, x_meth, x_make, x_fldaug, x_BM0, x_rAdd, x_retN, x_name, x_sub, x_ret, x_next, x_ifS, x_ite, x_iteN, x_T, x_F, x_tT, x_tF, x_op, x_un, x_var0, x_varS, x_c, x_I0, x_I, x_rU, x_nil, x_cons, x_test, x_B, x_bl, x_call, x_CB, x_tup, x_lst, x_not, x_Eq, x_Ne, x_eqII, x_eqSS, x_eqBB,  x_and, x_or, x_andV, x_orV, x_notV, x_if, x_par, x_two, x_drop, x_BM, x_set0, x_setS, x_gcons, x_gnil, x_forL, x_forT, x_forR1, x_forR2, x_forE, x_ref, x_int1, x_oneI, x_oneB, x_noBI, x_twoI, false_or, x_sl, x_noP, x_part, true_and, List.append_nil, cxK, cxKn]; try simp only [V.str.injEq, V.int.injEq, V.bl.injEq])
      refine x_setL e (j := 2) rfl ?_
      have e1 : upd H r (.lst [.int d, .int sd, .int (c + 1)]) r = some (.lst [.int d, .int sd, .int (c + 1)]) := upd_same
      refine x_seq.mpr ?_
      (try simp only [x_asg, x_mkV, x_value, x_lcR1, x_lcL, List.map_cons, List.map_nil, x_yes, x_wipe0, x_wipeS, x_rs, x_callS, x_callKS, x_fld, x_sfld, x_meth, x_make, x_fldaug, x_BM0, x_rAdd, x_retN, x_name, x_sub, x_ret, x_next, x_ifS, x_ite, x_iteN, x_T, x_F, x_tT, x_tF, x_op, x_un, x_var0, x_varS, x_c, x_I0, x_I, x_rU, x_nil, x_cons, x_test, x_B, x_bl, x_call, x_CB, x_tup, x_lst, x_not, x_Eq, x_Ne, x_eqII, x_eqSS, x_eqBB,  x_and, x_or, x_andV, x_orV, x_notV, x_if, x_par, x_two, x_drop, x_BM, x_set0, x_setS, x_gcons, x_gnil, x_forL, x_forT, x_forR1, x_forR2, x_forE, x_ref, x_int1, x_oneI, x_oneB, x_noBI, x_twoI, false_or, x_sl, x_noP, x_part, true_and, List.append_nil, cxK, cxKn]; try simp only [V.str.injEq, V.int.injEq, V.bl.injEq])
      refine x_ixL (SqL.of e1) rfl ?_
      (try simp only [x_asg, x_mkV, x_value, x_lcR1, x_lcL, List.map_cons, List.map_nil, x_yes, x_wipe0, x_wipeS, x_rs, x_callS, x_callKS, x_fld, x_sfld, x_meth, x_make, x_fldaug, x_BM0, x_rAdd, x_retN, x_name, x_sub, x_ret, x_next, x_ifS, x_ite, x_iteN, x_T, x_F, x_tT, x_tF, x_op, x_un, x_var0, x_varS, x_c, x_I0, x_I, x_rU, x_nil, x_cons, x_test, x_B, x_bl, x_call, x_CB, x_tup, x_lst, x_not, x_Eq, x_Ne, x_eqII, x_eqSS, x_eqBB,  x_and, x_or, x_andV, x_orV, x_notV, x_if, x_par, x_two, x_drop, x_BM, x_set0, x_setS, x_gcons, x_gnil, x_forL, x_forT, x_forR1, x_forR2, x_forE, x_ref, x_int1, x_oneI, x_oneB, x_noBI, x_twoI, false_or, x_sl, x_noP, x_part, true_and, List.append_nil, cxK, cxKn]; try simp only [V.str.injEq, V.int.injEq, V.bl.injEq])
      refine x_ixL (SqL.of e1) rfl ?_
      (try simp only [x_asg, x_mkV, x_value, x_lcR1, x_lcL, List.map_cons, List.map_nil, x_yes, x_wipe0, x_wipeS, x_rs, x_callS, x_callKS, x_fld, x_sfld, x_meth, x_make, x_fldaug, x_BM0, x_rAdd, x_retN, x_name, x_sub, x_ret, x_next, x_ifS, x_ite, x_iteN, x_T, x_F, x_tT, x_tF, x_op, x_un, x_var0, x_varS, x_c, x_I0, x_I, x_rU, x_nil, x_cons, x_test, x_B, x_bl, x_call, x_CB, x_tup, x_lst, x_not, x_Eq, x_Ne, x_eqII, x_eqSS, x_eqBB,  x_and, x_or, x_andV, x_orV, x_notV, x_if, x_par, x_two, x_drop, x_BM, x_set0, x_setS, x_gcons, x_gnil, x_forL, x_forT, x_forR1, x_forR2, x_forE, x_ref, x_int1, x_oneI, x_oneB, x_noBI, x_twoI, false_or, x_sl, x_noP, x_part, true_and, List.append_nil, cxK, cxKn]; try simp only [V.str.injEq, V.int.injEq, V.bl.injEq])
      refine ⟨wide_mul (a := 64) (b := 64) (by omega) (by omega) (by omega) (by omega) (by omega), ⟨by omega, by omega, pow_ok (by omega) (by omega)⟩, by omega, ?_⟩
      refine x_seq.mpr ?_
      (try simp only [x_asg, x_mkV, x_value, x_lcR1, x_lcL, List.map_cons, List.map_nil, x_yes, x_wipe0, x_wipeS, x_rs, x_callS, x_callKS, x_fld, x_sfld, x_meth, x_make, x_fldaug, x_BM0, x_rAdd, x_retN, x_name, x_sub, x_ret, x_next, x_ifS, x_ite, x_iteN, x_T, x_F, x_tT, x_tF, x_op, x_un, x_var0, x_varS, x_c, x_I0, x_I, x_rU, x_nil, x_cons, x_test, x_B, x_bl, x_call, x_CB, x_tup, x_lst, x_not, x_Eq, x_Ne, x_eqII, x_eqSS, x_eqBB,  x_and, x_or, x_andV, x_orV, x_notV, x_if, x_par, x_two, x_drop, x_BM, x_set0, x_setS, x_gcons, x_gnil, x_forL, x_forT, x_forR1, x_forR2, x_forE, x_ref, x_int1, x_oneI, x_oneB, x_noBI, x_twoI, false_or, x_sl, x_noP, x_part, true_and, List.append_nil, cxK, cxKn]; try simp only [V.str.injEq, V.int.injEq, V.bl.injEq])
      refine x_ixL (SqL.of e1) rfl ?_
      (try simp only [x_asg, x_mkV, x_value, x_lcR1, x_lcL, List.map_cons, List.map_nil, x_yes, x_wipe0, x_wipeS, x_rs, x_callS, x_callKS, x_fld, x_sfld, x_meth, x_make, x_fldaug, x_BM0, x_rAdd, x_retN, x_name, x_sub, x_ret, x_next, x_ifS, x_ite, x_iteN, x_T, x_F, x_tT, x_tF, x_op, x_un, x_var0, x_varS, x_c, x_I0, x_I, x_rU, x_nil, x_cons, x_test, x_B, x_bl, x_call, x_CB, x_tup, x_lst, x_not, x_Eq, x_Ne, x_eqII, x_eqSS, x_eqBB,  x_and, x_or, x_andV, x_orV, x_notV, x_if, x_par, x_two, x_drop, x_BM, x_set0, x_setS, x_gcons, x_gnil, x_forL, x_forT, x_forR1, x_forR2, x_forE, x_ref, x_int1, x_oneI, x_oneB, x_noBI, x_twoI, false_or, x_sl, x_noP, x_part, true_and, List.append_nil, cxK, cxKn]; try simp only [V.str.injEq, V.int.injEq, V.bl.injEq])
      have m0 := Int.emod_nonneg ((sd + 15494833 * (c + 1)) ^ (3 : Int).toNat) (show (162259276829213363391578010288127 : Int) ≠ 0 by omega)
      have m1 := Int.emod_lt_of_pos ((sd + 15494833 * (c + 1)) ^ (3 : Int).toNat) (show (0 : Int) < 162259276829213363391578010288127 by omega)
      refine ⟨wide_mul (a := 64) (b := 64) (by omega) (by omega) (by omega) (by omega) (by omega), ⟨by omega, by omega, pow_ok (by omega) (by omega)⟩, by omega, ?_⟩
      refine ⟨⟨by omega, by decide +kernel⟩, by omega, ?_⟩
      exact q _ _ (Int.emod_nonneg _ (by omega)) (Int.emod_lt_of_pos _ (by omega)) ⟨d, sd, c + 1, e1, d0, s0, s1, by omega, by omega⟩ (Oth.upd r _)
def spPool (K : PySem.W.Frag) : Sp := fun vs H Q _ => ∃ (a : Addr) (ns : List Int) (i : Int), vs = [.ref a, .int i] ∧ SqL K H a (ns.map V.int) ∧ 0 ≤ i ∧ i ≤ 63 ∧ ∀ r H', H r = none → RngAt H' r 0 → Same H H' → Q (.ref r) H'
theorem p_pool (T : Tx K mg "_law_pool" s_law_pool) (m_len : mg "len" = none) (m_max : mg "max" = none) (m_abs : mg "abs" = none) : Pr P w K mg base CX0 1 "_law_pool" ["script", "at"] (spPool K) := by
  refine mkP T sc_law_pool (fun _ _ _ _ _ _ us hl => match us, hl with | [_, _], _ => rfl) (fun vs H Q E h => ?_) (fun f cdv A outer s H vs Q E hG hr h => ?_)
  · obtain ⟨_, _, _, rfl, _⟩ := h
    rfl
  · obtain ⟨a, ns, i, rfl, hS, i0, i1, q⟩ := h
    have nd := sc_law_pool.nd
    refine ⟨_, (pss_cons (ps_set (i := 2) nd rfl (.inl rfl) pe_int) (pss_cons (ps_if (pt_cmpR op_lt (pv 1) (pe_callB call_len_seq (by rfl) m_len (by decide +kernel) (pa_cons (pv 0) pa_nil)) (nomark _)) (pss_one (ps_set (i := 2) nd rfl (.inl rfl) (pe_ix ix_list (pv 0) (pv 1) (fun _ _ => rfl)))) pss_nil) (pss_one (ps_ret (pe_lst (pa_cons (pe_callB (call_max2 rfl) (by rfl) m_max (by decide +kernel) (pa_cons pe_int (pa_cons (pe_op op_sub (pe_callB call_abs (by rfl) m_abs (by decide +kernel) (pa_cons (pv 2) pa_nil)) (pe_op op_powX pe_int pe_int)) pa_nil))) (pa_cons (pe_op op_add (pe_op op_mod (pv 2) pe_int) (pe_op op_mulW pe_int (pe_op op_add (pv 1) pe_int))) (pa_cons pe_int pa_nil)))))))), ?_⟩
    show (tSeq _ _) _ [some (V.ref a), some (V.int i), none] H
    refine x_seq.mpr ?_
    (try simp only [x_asg, x_mkV, x_value, x_lcR1, x_lcL, List.map_cons, List.map_nil, x_yes, x_wipe0, x_wipeS, x_rs, x_callS, x_callKS, x_fld, x_sfld, x_meth, x_make, x_fldaug, x_BM0, x_rAdd, x_retN, x_name, x_sub, x_ret, x_next, x_ifS, x_ite, x_iteN, x_T, x_F, x_tT, x_tF, x_op, x_un, x_var0, x_varS, x_c, x_I0, x_I, x_rU, x_nil, x_cons, x_test, x_B, x_bl, x_call, x_CB, x_tup, x_lst, x_not, x_Eq, x_Ne, x_eqII, x_eqSS, x_eqBB,  x_and, x_or, x_andV, x_orV, x_notV, x_if, x_par, x_two, x_drop, x_BM, x_set0, x_setS, x_gcons, x_gnil, x_forL, x_forT, x_forR1, x_forR2, x_forE, x_ref, x_int1, x_oneI, x_oneB, x_noBI, x_twoI, false_or, x_sl, x_noP, x_part, true_and, List.append_nil, cxK, cxKn]; try simp only [V.str.injEq, V.int.injEq, V.bl.injEq])
    refine x_seq.mpr ?_
    (try simp only [x_asg, x_mkV, x_value, x_lcR1, x_lcL, List.map_cons, List.map_nil, x_yes, x_wipe0, x_wipeS, x_rs, x_callS, x_callKS, x_fld, x_sfld, x_meth, x_make, x_fldaug, x_BM0, x_rAdd, x_retN, x_name, x_sub, x_ret, x_next, x_ifS, x_ite, x_iteN, x_T, x_F, x_tT, x_tF, x_op, x_un, x_var0, x_varS, x_c, x_I0, x_I, x_rU, x_nil, x_cons, x_test, x_B, x_bl, x_call, x_CB, x_tup, x_lst, x_not, x_Eq, x_Ne, x_eqII, x_eqSS, x_eqBB,  x_and, x_or, x_andV, x_orV, x_notV, x_if, x_par, x_two, x_drop, x_BM, x_set0, x_setS, x_gcons, x_gnil, x_forL, x_forT, x_forR1, x_forR2, x_forE, x_ref, x_int1, x_oneI, x_oneB, x_noBI, x_twoI, false_or, x_sl, x_noP, x_part, true_and, List.append_nil, cxK, cxKn]; try simp only [V.str.injEq, V.int.injEq, V.bl.injEq])
    refine ⟨a, _, rfl, .inl hS, ?_⟩
    have pos : ∀ x : Int, 0 ≤ (if x > 0 then x else 0) := fun x => by split <;> omega
    have mul : CMulW 2860486313 (i + 1) := wide_mul (a := 64) (b := 64) (by omega) (by omega) (by omega) (by omega) (by omega)
    refine ⟨fun hi => ?_, fun hi => ?_⟩
    · have hl : i.toNat < ns.length := by
        rw [List.length_map] at hi
        omega
      have hg : (ns.map V.int)[i.toNat]? = some (.int ns[i.toNat]) := by rw [List.getElem?_map, List.getElem?_eq_getElem hl]; rfl
      have ha := atI_nat hg
      rw [Int.toNat_of_nonneg i0] at ha
      refine x_ixL hS ha ?_
      (try simp only [x_asg, x_mkV, x_value, x_lcR1, x_lcL, List.map_cons, List.map_nil, x_yes, x_wipe0, x_wipeS, x_rs, x_callS, x_callKS, x_fld, x_sfld, x_meth, x_make, x_fldaug, x_BM0, x_rAdd, x_retN, x_name, x_sub, x_ret, x_next, x_ifS, x_ite, x_iteN, x_T, x_F, x_tT, x_tF, x_op, x_un, x_var0, x_varS, x_c, x_I0, x_I, x_rU, x_nil, x_cons, x_test, x_B, x_bl, x_call, x_CB, x_tup, x_lst, x_not, x_Eq, x_Ne, x_eqII, x_eqSS, x_eqBB,  x_and, x_or, x_andV, x_orV, x_notV, x_if, x_par, x_two, x_drop, x_BM, x_set0, x_setS, x_gcons, x_gnil, x_forL, x_forT, x_forR1, x_forR2, x_forE, x_ref, x_int1, x_oneI, x_oneB, x_noBI, x_twoI, false_or, x_sl, x_noP, x_part, true_and, List.append_nil, cxK, cxKn]; try simp only [V.str.injEq, V.int.injEq, V.bl.injEq])
      refine ⟨⟨by omega, by omega, pow_ok (by omega) (by omega)⟩, by omega, mul, by show 3 ≤ sizeLine; decide, fun p np => ?_⟩
      have m0 := Int.emod_nonneg ns[i.toNat] (show (2305843009213693951 : Int) ≠ 0 by omega)
      have m1 := Int.emod_lt_of_pos ns[i.toNat] (show (0 : Int) < 2305843009213693951 by omega)
      exact q p _ np ⟨_, _, _, upd_same, pos _, by omega, by omega, by omega, by omega⟩ (same_new np)
    · refine ⟨⟨by omega, by omega, pow_ok (by omega) (by omega)⟩, by omega, mul, by show 3 ≤ sizeLine; decide, fun p np => ?_⟩
      exact q p _ np ⟨_, _, _, upd_same, pos _, by omega, by omega, by omega, by omega⟩ (same_new np)
def spPower : Sp := fun vs H Q _ => ∃ m : Int, vs = [.int m] ∧ 0 ≤ m ∧ m ≤ 5000 ∧ Q (.int (2 ^ m.toNat)) H
theorem p_power (T : Tx K mg "_law_power" s_law_power) : Pr P w K mg base CX0 1 "_law_power" ["many"] spPower := by
  refine mkP T sc_law_power (fun _ _ _ _ _ _ us hl => match us, hl with | [_], _ => rfl) (fun vs H Q E h => ?_) (fun f cdv A outer s H vs Q E hG hr h => ?_)
  · obtain ⟨_, rfl, _⟩ := h
    rfl
  · obtain ⟨m, rfl, m0, m1, q⟩ := h
    have nd := sc_law_power.nd
    refine ⟨_, (pss_one (ps_ret (pe_op op_shl pe_int (pv 0)))), ?_⟩
    show (tRet _) _ [some (V.int m)] H
    (try simp only [x_asg, x_mkV, x_value, x_lcR1, x_lcL, List.map_cons, List.map_nil, x_yes, x_wipe0, x_wipeS, x_rs, x_callS, x_callKS, x_fld, x_sfld, x_meth, x_make, x_fldaug, x_BM0, x_rAdd, x_retN, x_name, x_sub, x_ret, x_next, x_ifS, x_ite, x_iteN, x_T, x_F, x_tT, x_tF, x_op, x_un, x_var0, x_varS, x_c, x_I0, x_I, x_rU, x_nil, x_cons, x_test, x_B, x_bl, x_call, x_CB, x_tup, x_lst, x_not, x_Eq, x_Ne, x_eqII, x_eqSS, x_eqBB,  x_and, x_or, x_andV, x_orV, x_notV, x_if, x_par, x_two, x_drop, x_BM, x_set0, x_setS, x_gcons, x_gnil, x_forL, x_forT, x_forR1, x_forR2, x_forE, x_ref, x_int1, x_oneI, x_oneB, x_noBI, x_twoI, false_or, x_sl, x_noP, x_part, true_and, List.append_nil, cxK, cxKn]; try simp only [V.str.injEq, V.int.injEq, V.bl.injEq])
    refine ⟨⟨by omega, by omega, by decide⟩, ?_⟩
    rw [Int.one_mul]
    exact q
def spConst : Sp := fun vs H Q _ => ∃ (r : Addr) (far : Int) (n : Nat), vs = [.ref r, .int far] ∧ RngAt H r n ∧ n < 90000000 ∧ 1 ≤ far ∧ far ≤ 10 ^ 30 ∧ ∀ v H', -(10 ^ 30) ≤ v → v ≤ 10 ^ 30 → RngAt H' r (n + 6) → Oth r H H' → Q (.int v) H'
theorem p_constant (T : Tx K mg "_law_constant" s_law_constant) (h__law_draw : Pr P w K mg base CX0 1 "_law_draw" ["pool", "many"] spDraw) (h__law_power : Pr P w K mg base CX0 1 "_law_power" ["many"] spPower) : Pr P w K mg base CX0 2 "_law_constant" ["pool", "far"] spConst := by
  refine mkP T sc_law_constant (fun _ _ _ _ _ _ us hl => match us, hl with | [_, _], _ => rfl) (fun vs H Q E h => ?_) (fun f cdv A outer s H vs Q E hG hr h => ?_)
  · obtain ⟨_, _, _, rfl, _⟩ := h
    rfl
  · obtain ⟨r, far, n, rfl, R, hn, f0, f1, q⟩ := h
    have nd := sc_law_constant.nd
    have f2 : far < 2 ^ 1000 := Int.lt_of_le_of_lt f1 (by decide)
    refine ⟨_, (pss_cons (ps_set (i := 2) nd rfl (.inl rfl) (pe_ix ix_list (pe_lst (pa_cons pe_int (pa_cons (pe_un un_neg pe_int) pa_nil))) (pe_P h__law_draw hr hG (by rfl) (pa_cons (pv 0) (pa_cons pe_int pa_nil))) (fun _ _ => rfl))) (pss_cons (ps_set (i := 3) nd rfl (.inl rfl) (pe_op op_sub (pe_op op_add (pe_P h__law_power hr hG (by rfl) (pa_cons (pe_P h__law_draw hr hG (by rfl) (pa_cons (pv 0) (pa_cons pe_int pa_nil))) pa_nil)) (pe_P h__law_draw hr hG (by rfl) (pa_cons (pv 0) (pa_cons pe_int pa_nil)))) pe_int)) (pss_one (ps_ret (pe_op op_mulW (pv 2) (pe_ix ix_list (pe_lst (pa_cons pe_int (pa_cons (pe_op op_add pe_int (pe_P h__law_draw hr hG (by rfl) (pa_cons (pv 0) (pa_cons pe_int pa_nil)))) (pa_cons (pv 3) (pa_cons (pe_P h__law_draw hr hG (by rfl) (pa_cons (pv 0) (pa_cons (pv 1) pa_nil))) pa_nil))))) (pe_P h__law_draw hr hG (by rfl) (pa_cons (pv 0) (pa_cons pe_int pa_nil))) (fun _ _ => rfl))))))), ?_⟩
    show (tSeq _ _) _ [some (V.ref r), some (V.int far), none, none] H
    refine x_seq.mpr ?_
    (try simp only [x_asg, x_mkV, x_value, x_lcR1, x_lcL, List.map_cons, List.map_nil, x_yes, x_wipe0, x_wipeS, x_rs, x_callS, x_callKS, x_fld, x_sfld, x_meth, x_make, x_fldaug, x_BM0, x_rAdd, x_retN, x_name, x_sub, x_ret, x_next, x_ifS, x_ite, x_iteN, x_T, x_F, x_tT, x_tF, x_op, x_un, x_var0, x_varS, x_c, x_I0, x_I, x_rU, x_nil, x_cons, x_test, x_B, x_bl, x_call, x_CB, x_tup, x_lst, x_not, x_Eq, x_Ne, x_eqII, x_eqSS, x_eqBB,  x_and, x_or, x_andV, x_orV, x_notV, x_if, x_par, x_two, x_drop, x_BM, x_set0, x_setS, x_gcons, x_gnil, x_forL, x_forT, x_forR1, x_forR2, x_forE, x_ref, x_int1, x_oneI, x_oneB, x_noBI, x_twoI, false_or, x_sl, x_noP, x_part, true_and, List.append_nil, cxK, cxKn]; try simp only [V.str.injEq, V.int.injEq, V.bl.injEq])
    refine ⟨by show 2 ≤ sizeLine; decide, fun p1 n1 => ?_⟩
    refine ⟨r, 2, n, rfl, R.same (same_new n1), by omega, by omega, by decide, fun a H1 a0 a1 R1 o1 => ?_⟩
    have h1 : H1 p1 = some (.lst [.int 1, .int (-1)]) := o1 _ _ (R.ne n1) upd_same
    have O1 : Oth r H H1 := (Oth.same (same_new (o := .lst [.int 1, .int (-1)]) n1)).trans o1
    obtain ⟨sg, hsg, hsm⟩ := atI_in (xs := [V.int 1, .int (-1)]) (i := a) a0 (by simpa using a1)
    refine x_ixL (SqL.of h1) hsg ?_
    obtain ⟨sv, rfl, sv1⟩ : ∃ sv : Int, sg = .int sv ∧ (sv = 1 ∨ sv = -1) := by
      simp only [List.mem_cons, List.not_mem_nil, or_false] at hsm
      rcases hsm with rfl | rfl
      · exact ⟨_, rfl, .inl rfl⟩
      · exact ⟨_, rfl, .inr rfl⟩
    refine x_seq.mpr ?_
    (try simp only [x_asg, x_mkV, x_value, x_lcR1, x_lcL, List.map_cons, List.map_nil, x_yes, x_wipe0, x_wipeS, x_rs, x_callS, x_callKS, x_fld, x_sfld, x_meth, x_make, x_fldaug, x_BM0, x_rAdd, x_retN, x_name, x_sub, x_ret, x_next, x_ifS, x_ite, x_iteN, x_T, x_F, x_tT, x_tF, x_op, x_un, x_var0, x_varS, x_c, x_I0, x_I, x_rU, x_nil, x_cons, x_test, x_B, x_bl, x_call, x_CB, x_tup, x_lst, x_not, x_Eq, x_Ne, x_eqII, x_eqSS, x_eqBB,  x_and, x_or, x_andV, x_orV, x_notV, x_if, x_par, x_two, x_drop, x_BM, x_set0, x_setS, x_gcons, x_gnil, x_forL, x_forT, x_forR1, x_forR2, x_forE, x_ref, x_int1, x_oneI, x_oneB, x_noBI, x_twoI, false_or, x_sl, x_noP, x_part, true_and, List.append_nil, cxK, cxKn]; try simp only [V.str.injEq, V.int.injEq, V.bl.injEq])
    refine ⟨r, 8, _, rfl, R1, by omega, by omega, by decide, fun b H2 b0 b1 R2 o2 => ?_⟩
    (try simp only [x_asg, x_mkV, x_value, x_lcR1, x_lcL, List.map_cons, List.map_nil, x_yes, x_wipe0, x_wipeS, x_rs, x_callS, x_callKS, x_fld, x_sfld, x_meth, x_make, x_fldaug, x_BM0, x_rAdd, x_retN, x_name, x_sub, x_ret, x_next, x_ifS, x_ite, x_iteN, x_T, x_F, x_tT, x_tF, x_op, x_un, x_var0, x_varS, x_c, x_I0, x_I, x_rU, x_nil, x_cons, x_test, x_B, x_bl, x_call, x_CB, x_tup, x_lst, x_not, x_Eq, x_Ne, x_eqII, x_eqSS, x_eqBB,  x_and, x_or, x_andV, x_orV, x_notV, x_if, x_par, x_two, x_drop, x_BM, x_set0, x_setS, x_gcons, x_gnil, x_forL, x_forT, x_forR1, x_forR2, x_forE, x_ref, x_int1, x_oneI, x_oneB, x_noBI, x_twoI, false_or, x_sl, x_noP, x_part, true_and, List.append_nil, cxK, cxKn]; try simp only [V.str.injEq, V.int.injEq, V.bl.injEq])
    refine ⟨b, rfl, b0, by omega, ?_⟩
    (try simp only [x_asg, x_mkV, x_value, x_lcR1, x_lcL, List.map_cons, List.map_nil, x_yes, x_wipe0, x_wipeS, x_rs, x_callS, x_callKS, x_fld, x_sfld, x_meth, x_make, x_fldaug, x_BM0, x_rAdd, x_retN, x_name, x_sub, x_ret, x_next, x_ifS, x_ite, x_iteN, x_T, x_F, x_tT, x_tF, x_op, x_un, x_var0, x_varS, x_c, x_I0, x_I, x_rU, x_nil, x_cons, x_test, x_B, x_bl, x_call, x_CB, x_tup, x_lst, x_not, x_Eq, x_Ne, x_eqII, x_eqSS, x_eqBB,  x_and, x_or, x_andV, x_orV, x_notV, x_if, x_par, x_two, x_drop, x_BM, x_set0, x_setS, x_gcons, x_gnil, x_forL, x_forT, x_forR1, x_forR2, x_forE, x_ref, x_int1, x_oneI, x_oneB, x_noBI, x_twoI, false_or, x_sl, x_noP, x_part, true_and, List.append_nil, cxK, cxKn]; try simp only [V.str.injEq, V.int.injEq, V.bl.injEq])
    refine ⟨r, 5, _, rfl, R2, by omega, by omega, by decide, fun c H3 c0 c1 R3 o3 => ?_⟩
    have ub := two_mono (show b ≤ 7 by omega)
    have lb := two_pos b.toNat
    have e7 : (2 : Int) ^ (7 : Int).toNat = 128 := by decide
    (try simp only [x_asg, x_mkV, x_value, x_lcR1, x_lcL, List.map_cons, List.map_nil, x_yes, x_wipe0, x_wipeS, x_rs, x_callS, x_callKS, x_fld, x_sfld, x_meth, x_make, x_fldaug, x_BM0, x_rAdd, x_retN, x_name, x_sub, x_ret, x_next, x_ifS, x_ite, x_iteN, x_T, x_F, x_tT, x_tF, x_op, x_un, x_var0, x_varS, x_c, x_I0, x_I, x_rU, x_nil, x_cons, x_test, x_B, x_bl, x_call, x_CB, x_tup, x_lst, x_not, x_Eq, x_Ne, x_eqII, x_eqSS, x_eqBB,  x_and, x_or, x_andV, x_orV, x_notV, x_if, x_par, x_two, x_drop, x_BM, x_set0, x_setS, x_gcons, x_gnil, x_forL, x_forT, x_forR1, x_forR2, x_forE, x_ref, x_int1, x_oneI, x_oneB, x_noBI, x_twoI, false_or, x_sl, x_noP, x_part, true_and, List.append_nil, cxK, cxKn]; try simp only [V.str.injEq, V.int.injEq, V.bl.injEq])
    have near0 : -2 ≤ (2 : Int) ^ b.toNat + c - 2 ∧ (2 : Int) ^ b.toNat + c - 2 ≤ 200 := by omega
    generalize (2 : Int) ^ b.toNat + c - 2 = near at near0 ⊢
    refine ⟨r, 9, _, rfl, R3, by omega, by omega, by decide, fun d H4 d0 d1 R4 o4 => ?_⟩
    (try simp only [x_asg, x_mkV, x_value, x_lcR1, x_lcL, List.map_cons, List.map_nil, x_yes, x_wipe0, x_wipeS, x_rs, x_callS, x_callKS, x_fld, x_sfld, x_meth, x_make, x_fldaug, x_BM0, x_rAdd, x_retN, x_name, x_sub, x_ret, x_next, x_ifS, x_ite, x_iteN, x_T, x_F, x_tT, x_tF, x_op, x_un, x_var0, x_varS, x_c, x_I0, x_I, x_rU, x_nil, x_cons, x_test, x_B, x_bl, x_call, x_CB, x_tup, x_lst, x_not, x_Eq, x_Ne, x_eqII, x_eqSS, x_eqBB,  x_and, x_or, x_andV, x_orV, x_notV, x_if, x_par, x_two, x_drop, x_BM, x_set0, x_setS, x_gcons, x_gnil, x_forL, x_forT, x_forR1, x_forR2, x_forE, x_ref, x_int1, x_oneI, x_oneB, x_noBI, x_twoI, false_or, x_sl, x_noP, x_part, true_and, List.append_nil, cxK, cxKn]; try simp only [V.str.injEq, V.int.injEq, V.bl.injEq])
    refine ⟨r, far, _, rfl, R4, by omega, f0, f2, fun e H5 e0 e1 R5 o5 => ?_⟩
    (try simp only [x_asg, x_mkV, x_value, x_lcR1, x_lcL, List.map_cons, List.map_nil, x_yes, x_wipe0, x_wipeS, x_rs, x_callS, x_callKS, x_fld, x_sfld, x_meth, x_make, x_fldaug, x_BM0, x_rAdd, x_retN, x_name, x_sub, x_ret, x_next, x_ifS, x_ite, x_iteN, x_T, x_F, x_tT, x_tF, x_op, x_un, x_var0, x_varS, x_c, x_I0, x_I, x_rU, x_nil, x_cons, x_test, x_B, x_bl, x_call, x_CB, x_tup, x_lst, x_not, x_Eq, x_Ne, x_eqII, x_eqSS, x_eqBB,  x_and, x_or, x_andV, x_orV, x_notV, x_if, x_par, x_two, x_drop, x_BM, x_set0, x_setS, x_gcons, x_gnil, x_forL, x_forT, x_forR1, x_forR2, x_forE, x_ref, x_int1, x_oneI, x_oneB, x_noBI, x_twoI, false_or, x_sl, x_noP, x_part, true_and, List.append_nil, cxK, cxKn]; try simp only [V.str.injEq, V.int.injEq, V.bl.injEq])
    refine ⟨by show 4 ≤ sizeLine; decide, fun p2 n2 => ?_⟩
    refine ⟨r, 4, _, rfl, R5.same (same_new n2), by omega, by omega, by decide, fun g H6 g0 g1 R6 o6 => ?_⟩
    have h2 : H6 p2 = some (.lst [.int 0, .int (1 + d), .int near, .int e]) := o6 _ _ (R5.ne n2) upd_same
    obtain ⟨x, hx, hxm⟩ := atI_in (xs := [V.int 0, .int (1 + d), .int near, .int e]) (i := g) g0 (by simpa using g1)
    refine x_ixL (SqL.of h2) hx ?_
    have p30 : (10 : Int) ^ 30 = 1000000000000000000000000000000 := by decide
    obtain ⟨xv, rfl, x0, x1⟩ : ∃ xv : Int, x = .int xv ∧ -(10 ^ 30) ≤ xv ∧ xv ≤ 10 ^ 30 := by
      simp only [List.mem_cons, List.not_mem_nil, or_false] at hxm
      rcases hxm with rfl | rfl | rfl | rfl
      · exact ⟨_, rfl, by omega, by omega⟩
      · exact ⟨_, rfl, by omega, by omega⟩
      · exact ⟨_, rfl, by omega, by omega⟩
      · exact ⟨_, rfl, by omega, by omega⟩
    (try simp only [x_asg, x_mkV, x_value, x_lcR1, x_lcL, List.map_cons, List.map_nil, x_yes, x_wipe0, x_wipeS, x_rs, x_callS, x_callKS, x_fld, x_sfld, x_meth, x_make, x_fldaug, x_BM0, x_rAdd, x_retN, x_name, x_sub, x_ret, x_next, x_ifS, x_ite, x_iteN, x_T, x_F, x_tT, x_tF, x_op, x_un, x_var0, x_varS, x_c, x_I0, x_I, x_rU, x_nil, x_cons, x_test, x_B, x_bl, x_call, x_CB, x_tup, x_lst, x_not, x_Eq, x_Ne, x_eqII, x_eqSS, x_eqBB,  x_and, x_or, x_andV, x_orV, x_notV, x_if, x_par, x_two, x_drop, x_BM, x_set0, x_setS, x_gcons, x_gnil, x_forL, x_forT, x_forR1, x_forR2, x_forE, x_ref, x_int1, x_oneI, x_oneB, x_noBI, x_twoI, false_or, x_sl, x_noP, x_part, true_and, List.append_nil, cxK, cxKn]; try simp only [V.str.injEq, V.int.injEq, V.bl.injEq])
    refine ⟨wide_mul (a := 8) (b := 200) (by rcases sv1 with rfl | rfl <;> decide) (by omega) (by omega) (by omega) (by omega), ?_⟩
    have O6 := (((((O1.trans o2).trans o3).trans o4).trans o5).trans (Oth.same (same_new (o := .lst [.int 0, .int (1 + d), .int near, .int e]) n2))).trans o6
    refine q _ _ ?_ ?_ (R6.up (by omega)) O6
    · rcases sv1 with rfl | rfl <;> omega
    · rcases sv1 with rfl | rfl <;> omega
end

abbrev s_law_steps : Stmt := topS 23
theorem sc_law_steps : FnScope ["pool", "most", "bits", "far", "found", "low", "turn", "wide"] ["pool", "most", "bits", "far"] (defScope s_law_steps) := ⟨rfl, rfl, rfl, by decide +kernel, rfl, by decide +kernel, by decide +kernel⟩
section
variable {P : Program} {w : World} {K : PySem.W.Frag} {mg : Str → Option Value} {base : Heap}
theorem Sts.grow {H : Hp} {l t : Addr} {ys : List V} {c : Ch} {x : Str} {n : Int} (hl : H l = some (.lst ys)) (nt : H t = none) (h : Sts K H ys c) :
    Sts K (upd (upd H t (.tup [.str x, .int n])) l (.lst (ys ++ [.ref t]))) (ys ++ [.ref t]) (c ++ ([(x, n)] : Ch)) := by
  have hl' := (same_new (o := .tup [.str x, .int n]) nt) _ _ hl
  have ht : t ≠ l := fun z => by rw [z, hl] at nt; cases nt
  refine Sts.app ((h.same (same_new (o := .tup [.str x, .int n]) nt)).imp fun h => tupLst hl' h) (.cons (SqT.of ?_) .nil)
  rw [upd_ne ht, upd_same]
theorem Oth.tup {H H' : Hp} {r t : Addr} {n : Nat} {xs : List V} (o : Oth r H H') (R : RngAt H r n) (h : SqT K H t xs) : SqT K H' t xs := by
  obtain ⟨d, s, c, e, _⟩ := R
  rcases h with (h | ⟨u, h⟩) | h
  · exact .inl (.inl (o _ _ (fun z => by rw [z, e] at h; cases h) h))
  · exact .inl (.inr ⟨u, o _ _ (fun z => by rw [z, e] at h; cases h) h⟩)
  · exact .inr h
def chainOkB (m : Nat) (b : Int) (c : Ch) : Prop := c.length ≤ m ∧ ∀ s ∈ c, okS s = true ∧ (if s.1 = "add" then -(10 ^ 30) ≤ s.2 ∧ s.2 ≤ 10 ^ 30 else s.2 ≤ b)
def spSteps (K : PySem.W.Frag) : Sp := fun vs H Q _ => ∃ (r : Addr) (most bits far : Int) (n : Nat), vs = [.ref r, .int most, .int bits, .int far] ∧ RngAt H r n ∧ n < 80000000 ∧ 0 ≤ most ∧ most ≤ 1000 ∧ 1 ≤ bits ∧ bits ≤ 5000 ∧ 1 ≤ far ∧ far ≤ 10 ^ 30 ∧
  ∀ l ys c H', H l = none → H' l = some (.lst ys) → Sts K H' ys c → chainOkB most.toNat bits c → RngAt H' r (n + 10000) → Oth r H H' → Q (.ref l) H'
theorem p_steps (T : Tx K mg "_law_steps" s_law_steps) (m_range : mg "range" = none) (m_min : mg "min" = none) (m_max : mg "max" = none) (h__law_draw : Pr P w K mg base CX0 1 "_law_draw" ["pool", "many"] spDraw) (h__law_constant : Pr P w K mg base CX0 2 "_law_constant" ["pool", "far"] spConst) :
    Pr P w K mg base CX0 3 "_law_steps" ["pool", "most", "bits", "far"] (spSteps K) := by
  refine mkP T sc_law_steps (fun _ _ _ _ _ _ us hl => match us, hl with | [_, _, _, _], _ => rfl) (fun vs H Q E h => ?_) (fun f cdv A outer s H vs Q E hG hr h => ?_)
  · obtain ⟨_, _, _, _, _, rfl, _⟩ := h
    rfl
  · obtain ⟨r, most, bits, far, n, rfl, R, hn, m0, m1, b0, b1, f0, f1, q⟩ := h
    have nd := sc_law_steps.nd
    refine ⟨_, (pss_cons (ps_par (i := 4) (j := 5) (by rfl) nd rfl rfl (by decide) rfl rfl (pa_cons (pe_lst pa_nil) (pa_cons pe_int pa_nil)) (by rfl)) (pss_cons (ps_for PassesOwn.never rfl (pi_range1 rfl m_range (pa_cons (pe_P h__law_draw hr hG (by rfl) (pa_cons (pv 0) (pa_cons (pe_op op_add (pv 1) pe_int) pa_nil))) pa_nil)) (pg_name (i := 6) nd rfl (.inl rfl)) (pss_one (ps_if (pt_cmpR op_lt (pe_P h__law_draw hr hG (by rfl) (pa_cons (pv 0) (pa_cons pe_int pa_nil))) pe_int (nomark _)) (pss_one (ps_expr (pe_bm PySem.F.plainAttrs_list PySem.F.slot_list_append PySem.F.type_list_append mt_append (pv 4) (pa_cons (pe_tup (pa_cons pe_str (pa_cons (pe_P h__law_constant hr hG (by rfl) (pa_cons (pv 0) (pa_cons (pv 3) pa_nil))) pa_nil))) pa_nil)))) (pss_cons (ps_set (i := 7) nd rfl (.inl rfl) (pe_op op_add pe_int (pe_P h__law_draw hr hG (by rfl) (pa_cons (pv 0) (pa_cons (pv 2) pa_nil))))) (pss_cons (ps_if (pt_cmpR op_gt (pe_P h__law_draw hr hG (by rfl) (pa_cons (pv 0) (pa_cons pe_int pa_nil))) pe_int (nomark _)) (pss_one (ps_set (i := 7) nd rfl (.inl rfl) (pe_callB (call_min2 rfl) (by rfl) m_min (by decide +kernel) (pa_cons (pv 2) (pa_cons (pe_op op_add (pe_op op_add (pv 5) pe_int) (pe_P h__law_draw hr hG (by rfl) (pa_cons (pv 0) (pa_cons pe_int pa_nil)))) pa_nil))))) pss_nil) (pss_cons (ps_set (i := 5) nd rfl (.inl rfl) (pe_callB (call_max2 rfl) (by rfl) m_max (by decide +kernel) (pa_cons (pv 5) (pa_cons (pv 7) pa_nil)))) (pss_one (ps_expr (pe_bm PySem.F.plainAttrs_list PySem.F.slot_list_append PySem.F.type_list_append mt_append (pv 4) (pa_cons (pe_tup (pa_cons (pe_ix ix_list (pe_lst (pa_cons pe_str (pa_cons pe_str pa_nil))) (pe_P h__law_draw hr hG (by rfl) (pa_cons (pv 0) (pa_cons pe_int pa_nil))) (fun _ _ => rfl)) (pa_cons (pv 7) pa_nil))) pa_nil)))))))))) (pss_one (ps_ret (pv 4))))), ?_⟩
    show (tSeq _ _) _ [some (V.ref r), some (V.int most), some (V.int bits), some (V.int far), none, none, none, none] H
    refine x_seq.mpr ?_
    (try simp only [x_asg, x_mkV, x_value, x_lcR1, x_lcL, List.map_cons, List.map_nil, x_yes, x_wipe0, x_wipeS, x_rs, x_callS, x_callKS, x_fld, x_sfld, x_meth, x_make, x_fldaug, x_BM0, x_rAdd, x_retN, x_name, x_sub, x_ret, x_next, x_ifS, x_ite, x_iteN, x_T, x_F, x_tT, x_tF, x_op, x_un, x_var0, x_varS, x_c, x_I0, x_I, x_rU, x_nil, x_cons, x_test, x_B, x_bl, x_call, x_CB, x_tup, x_lst, x_not, x_Eq, x_Ne, x_eqII, x_eqSS, x_eqBB,  x_and, x_or, x_andV, x_orV, x_notV, x_if, x_par, x_two, x_drop, x_BM, x_set0, x_setS, x_gcons, x_gnil, x_forL, x_forT, x_forR1, x_forR2, x_forE, x_ref, x_int1, x_oneI, x_oneB, x_noBI, x_twoI, false_or, x_sl, x_noP, x_part, true_and, List.append_nil, cxK, cxKn]; try simp only [V.str.injEq, V.int.injEq, V.bl.injEq])
    refine ⟨by show 0 ≤ sizeLine; decide, fun l nl => ?_⟩
    have hlr : l ≠ r := R.ne nl
    refine x_seq.mpr ?_
    (try simp only [x_asg, x_mkV, x_value, x_lcR1, x_lcL, List.map_cons, List.map_nil, x_yes, x_wipe0, x_wipeS, x_rs, x_callS, x_callKS, x_fld, x_sfld, x_meth, x_make, x_fldaug, x_BM0, x_rAdd, x_retN, x_name, x_sub, x_ret, x_next, x_ifS, x_ite, x_iteN, x_T, x_F, x_tT, x_tF, x_op, x_un, x_var0, x_varS, x_c, x_I0, x_I, x_rU, x_nil, x_cons, x_test, x_B, x_bl, x_call, x_CB, x_tup, x_lst, x_not, x_Eq, x_Ne, x_eqII, x_eqSS, x_eqBB,  x_and, x_or, x_andV, x_orV, x_notV, x_if, x_par, x_two, x_drop, x_BM, x_set0, x_setS, x_gcons, x_gnil, x_forL, x_forT, x_forR1, x_forR2, x_forE, x_ref, x_int1, x_oneI, x_oneB, x_noBI, x_twoI, false_or, x_sl, x_noP, x_part, true_and, List.append_nil, cxK, cxKn]; try simp only [V.str.injEq, V.int.injEq, V.bl.injEq])
    refine ⟨r, most + 1, n, rfl, R.same (same_new nl), by omega, by omega, Int.lt_of_le_of_lt (show most + 1 ≤ 1001 by omega) (by decide), fun tn H1 t0 t1 R1 o1 => ?_⟩
    refine ⟨tn, rfl, by omega, by omega, ?_⟩
    have hl1 : H1 l = some (.lst []) := o1 _ _ hlr upd_same
    have O1 : Oth r H H1 := (Oth.same (same_new (o := .lst []) nl)).trans o1
    refine lpR (fun i σ H' => ∃ (low : Int) (ys : List V) (c : Ch) (y6 y7 : Option V), σ = [some (.ref r), some (.int most), some (.int bits), some (.int far), some (.ref l), some (.int low), y6, y7] ∧ H' l = some (.lst ys) ∧ Sts K H' ys c ∧ chainOkB i bits c ∧
      RngAt H' r (n + 1 + i * 9) ∧ Oth r H H' ∧ 0 ≤ low ∧ low ≤ bits) ⟨0, [], [], none, none, rfl, hl1, .nil, ⟨Nat.le_refl _, fun _ h => (nomatch h)⟩, R1, O1, by omega, by omega⟩ (fun i σ H' hi h => ?_) (fun σ H' h => ?_)
    · obtain ⟨low, ys, c, y6, y7, rfl, hl, hSt, hc, R, O, w0, w1⟩ := h
      have hi' : i < 1001 := by omega
      have hlen : ys.length ≤ i := by rw [hSt.len]; exact hc.1
      have more : ∀ {s : Str × Int}, okS s = true → (if s.1 = "add" then -(10 ^ 30) ≤ s.2 ∧ s.2 ≤ 10 ^ 30 else s.2 ≤ bits) → chainOkB (i + 1) bits (c ++ ([s] : Ch)) := fun {s} h1 h2 => by
        refine ⟨by rw [List.length_append]; have := hc.1; simp only [List.length_cons, List.length_nil]; omega, fun s' hs => ?_⟩
        rcases List.mem_append.mp hs with hs | hs
        · exact hc.2 s' hs
        · rw [List.mem_singleton] at hs
          rw [hs]
          exact ⟨h1, h2⟩
      (try simp only [x_asg, x_mkV, x_value, x_lcR1, x_lcL, List.map_cons, List.map_nil, x_yes, x_wipe0, x_wipeS, x_rs, x_callS, x_callKS, x_fld, x_sfld, x_meth, x_make, x_fldaug, x_BM0, x_rAdd, x_retN, x_name, x_sub, x_ret, x_next, x_ifS, x_ite, x_iteN, x_T, x_F, x_tT, x_tF, x_op, x_un, x_var0, x_varS, x_c, x_I0, x_I, x_rU, x_nil, x_cons, x_test, x_B, x_bl, x_call, x_CB, x_tup, x_lst, x_not, x_Eq, x_Ne, x_eqII, x_eqSS, x_eqBB,  x_and, x_or, x_andV, x_orV, x_notV, x_if, x_par, x_two, x_drop, x_BM, x_set0, x_setS, x_gcons, x_gnil, x_forL, x_forT, x_forR1, x_forR2, x_forE, x_ref, x_int1, x_oneI, x_oneB, x_noBI, x_twoI, false_or, x_sl, x_noP, x_part, true_and, List.append_nil, cxK, cxKn]; try simp only [V.str.injEq, V.int.injEq, V.bl.injEq])
      refine ⟨r, 5, _, rfl, R, by omega, by omega, by decide, fun a H2 a0 a1 R2 o2 => ?_⟩
      (try simp only [x_asg, x_mkV, x_value, x_lcR1, x_lcL, List.map_cons, List.map_nil, x_yes, x_wipe0, x_wipeS, x_rs, x_callS, x_callKS, x_fld, x_sfld, x_meth, x_make, x_fldaug, x_BM0, x_rAdd, x_retN, x_name, x_sub, x_ret, x_next, x_ifS, x_ite, x_iteN, x_T, x_F, x_tT, x_tF, x_op, x_un, x_var0, x_varS, x_c, x_I0, x_I, x_rU, x_nil, x_cons, x_test, x_B, x_bl, x_call, x_CB, x_tup, x_lst, x_not, x_Eq, x_Ne, x_eqII, x_eqSS, x_eqBB,  x_and, x_or, x_andV, x_orV, x_notV, x_if, x_par, x_two, x_drop, x_BM, x_set0, x_setS, x_gcons, x_gnil, x_forL, x_forT, x_forR1, x_forR2, x_forE, x_ref, x_int1, x_oneI, x_oneB, x_noBI, x_twoI, false_or, x_sl, x_noP, x_part, true_and, List.append_nil, cxK, cxKn]; try simp only [V.str.injEq, V.int.injEq, V.bl.injEq])
      refine ⟨fun ha => ?_, fun ha => ?_⟩
      · refine ⟨x_tyL (SqL.of (o2 _ _ hlr hl)), ?_⟩
        (try simp only [x_asg, x_mkV, x_value, x_lcR1, x_lcL, List.map_cons, List.map_nil, x_yes, x_wipe0, x_wipeS, x_rs, x_callS, x_callKS, x_fld, x_sfld, x_meth, x_make, x_fldaug, x_BM0, x_rAdd, x_retN, x_name, x_sub, x_ret, x_next, x_ifS, x_ite, x_iteN, x_T, x_F, x_tT, x_tF, x_op, x_un, x_var0, x_varS, x_c, x_I0, x_I, x_rU, x_nil, x_cons, x_test, x_B, x_bl, x_call, x_CB, x_tup, x_lst, x_not, x_Eq, x_Ne, x_eqII, x_eqSS, x_eqBB,  x_and, x_or, x_andV, x_orV, x_notV, x_if, x_par, x_two, x_drop, x_BM, x_set0, x_setS, x_gcons, x_gnil, x_forL, x_forT, x_forR1, x_forR2, x_forE, x_ref, x_int1, x_oneI, x_oneB, x_noBI, x_twoI, false_or, x_sl, x_noP, x_part, true_and, List.append_nil, cxK, cxKn]; try simp only [V.str.injEq, V.int.injEq, V.bl.injEq])
        refine ⟨r, far, _, rfl, R2, by omega, f0, f1, fun v H3 v0 v1 R3 o3 => ?_⟩
        (try simp only [x_asg, x_mkV, x_value, x_lcR1, x_lcL, List.map_cons, List.map_nil, x_yes, x_wipe0, x_wipeS, x_rs, x_callS, x_callKS, x_fld, x_sfld, x_meth, x_make, x_fldaug, x_BM0, x_rAdd, x_retN, x_name, x_sub, x_ret, x_next, x_ifS, x_ite, x_iteN, x_T, x_F, x_tT, x_tF, x_op, x_un, x_var0, x_varS, x_c, x_I0, x_I, x_rU, x_nil, x_cons, x_test, x_B, x_bl, x_call, x_CB, x_tup, x_lst, x_not, x_Eq, x_Ne, x_eqII, x_eqSS, x_eqBB,  x_and, x_or, x_andV, x_orV, x_notV, x_if, x_par, x_two, x_drop, x_BM, x_set0, x_setS, x_gcons, x_gnil, x_forL, x_forT, x_forR1, x_forR2, x_forE, x_ref, x_int1, x_oneI, x_oneB, x_noBI, x_twoI, false_or, x_sl, x_noP, x_part, true_and, List.append_nil, cxK, cxKn]; try simp only [V.str.injEq, V.int.injEq, V.bl.injEq])
        refine ⟨by show 2 ≤ sizeLine; decide, fun t nt => ?_⟩
        have hl3 := o3 _ _ hlr (o2 _ _ hlr hl)
        have hSt3 : Sts K H3 ys c := hSt.imp fun h => Oth.tup o3 R2 (Oth.tup o2 R h)
        refine x_app ((same_new nt) _ _ hl3) (by rw [sizeLine_eq]; omega) ?_
        refine ⟨low, _, _, _, _, rfl, upd_same, Sts.grow hl3 nt hSt3, more okA (by rw [if_pos rfl]; exact ⟨v0, v1⟩), ((R3.same (same_new nt)).mut hlr).up (by omega), ((((O.trans o2).trans o3).trans (Oth.same (same_new nt))).mut nl), w0, w1⟩
      · refine x_seq.mpr ?_
        (try simp only [x_asg, x_mkV, x_value, x_lcR1, x_lcL, List.map_cons, List.map_nil, x_yes, x_wipe0, x_wipeS, x_rs, x_callS, x_callKS, x_fld, x_sfld, x_meth, x_make, x_fldaug, x_BM0, x_rAdd, x_retN, x_name, x_sub, x_ret, x_next, x_ifS, x_ite, x_iteN, x_T, x_F, x_tT, x_tF, x_op, x_un, x_var0, x_varS, x_c, x_I0, x_I, x_rU, x_nil, x_cons, x_test, x_B, x_bl, x_call, x_CB, x_tup, x_lst, x_not, x_Eq, x_Ne, x_eqII, x_eqSS, x_eqBB,  x_and, x_or, x_andV, x_orV, x_notV, x_if, x_par, x_two, x_drop, x_BM, x_set0, x_setS, x_gcons, x_gnil, x_forL, x_forT, x_forR1, x_forR2, x_forE, x_ref, x_int1, x_oneI, x_oneB, x_noBI, x_twoI, false_or, x_sl, x_noP, x_part, true_and, List.append_nil, cxK, cxKn]; try simp only [V.str.injEq, V.int.injEq, V.bl.injEq])
        refine ⟨r, bits, _, rfl, R2, by omega, b0, Int.lt_of_le_of_lt b1 (by decide), fun b H3 c0 c1 R3 o3 => ?_⟩
        (try simp only [x_asg, x_mkV, x_value, x_lcR1, x_lcL, List.map_cons, List.map_nil, x_yes, x_wipe0, x_wipeS, x_rs, x_callS, x_callKS, x_fld, x_sfld, x_meth, x_make, x_fldaug, x_BM0, x_rAdd, x_retN, x_name, x_sub, x_ret, x_next, x_ifS, x_ite, x_iteN, x_T, x_F, x_tT, x_tF, x_op, x_un, x_var0, x_varS, x_c, x_I0, x_I, x_rU, x_nil, x_cons, x_test, x_B, x_bl, x_call, x_CB, x_tup, x_lst, x_not, x_Eq, x_Ne, x_eqII, x_eqSS, x_eqBB,  x_and, x_or, x_andV, x_orV, x_notV, x_if, x_par, x_two, x_drop, x_BM, x_set0, x_setS, x_gcons, x_gnil, x_forL, x_forT, x_forR1, x_forR2, x_forE, x_ref, x_int1, x_oneI, x_oneB, x_noBI, x_twoI, false_or, x_sl, x_noP, x_part, true_and, List.append_nil, cxK, cxKn]; try simp only [V.str.injEq, V.int.injEq, V.bl.injEq])
        refine x_seq.mpr ?_
        (try simp only [x_asg, x_mkV, x_value, x_lcR1, x_lcL, List.map_cons, List.map_nil, x_yes, x_wipe0, x_wipeS, x_rs, x_callS, x_callKS, x_fld, x_sfld, x_meth, x_make, x_fldaug, x_BM0, x_rAdd, x_retN, x_name, x_sub, x_ret, x_next, x_ifS, x_ite, x_iteN, x_T, x_F, x_tT, x_tF, x_op, x_un, x_var0, x_varS, x_c, x_I0, x_I, x_rU, x_nil, x_cons, x_test, x_B, x_bl, x_call, x_CB, x_tup, x_lst, x_not, x_Eq, x_Ne, x_eqII, x_eqSS, x_eqBB,  x_and, x_or, x_andV, x_orV, x_notV, x_if, x_par, x_two, x_drop, x_BM, x_set0, x_setS, x_gcons, x_gnil, x_forL, x_forT, x_forR1, x_forR2, x_forE, x_ref, x_int1, x_oneI, x_oneB, x_noBI, x_twoI, false_or, x_sl, x_noP, x_part, true_and, List.append_nil, cxK, cxKn]; try simp only [V.str.injEq, V.int.injEq, V.bl.injEq])
        refine ⟨r, 3, _, rfl, R3, by omega, by omega, by decide, fun d H4 d0 d1 R4 o4 => ?_⟩
        (try simp only [x_asg, x_mkV, x_value, x_lcR1, x_lcL, List.map_cons, List.map_nil, x_yes, x_wipe0, x_wipeS, x_rs, x_callS, x_callKS, x_fld, x_sfld, x_meth, x_make, x_fldaug, x_BM0, x_rAdd, x_retN, x_name, x_sub, x_ret, x_next, x_ifS, x_ite, x_iteN, x_T, x_F, x_tT, x_tF, x_op, x_un, x_var0, x_varS, x_c, x_I0, x_I, x_rU, x_nil, x_cons, x_test, x_B, x_bl, x_call, x_CB, x_tup, x_lst, x_not, x_Eq, x_Ne, x_eqII, x_eqSS, x_eqBB,  x_and, x_or, x_andV, x_orV, x_notV, x_if, x_par, x_two, x_drop, x_BM, x_set0, x_setS, x_gcons, x_gnil, x_forL, x_forT, x_forR1, x_forR2, x_forE, x_ref, x_int1, x_oneI, x_oneB, x_noBI, x_twoI, false_or, x_sl, x_noP, x_part, true_and, List.append_nil, cxK, cxKn]; try simp only [V.str.injEq, V.int.injEq, V.bl.injEq])
        have hl4 := o4 _ _ hlr (o3 _ _ hlr (o2 _ _ hlr hl))
        have hSt4 : Sts K H4 ys c := hSt.imp fun h => Oth.tup o4 R3 (Oth.tup o3 R2 (Oth.tup o2 R h))
        have O4 := ((O.trans o2).trans o3).trans o4
        refine ⟨fun hd => ?_, fun hd => ?_⟩
        · refine ⟨r, 4, _, rfl, R4, by omega, by omega, by decide, fun g H5 e0 e1 R5 o5 => ?_⟩
          (try simp only [x_asg, x_mkV, x_value, x_lcR1, x_lcL, List.map_cons, List.map_nil, x_yes, x_wipe0, x_wipeS, x_rs, x_callS, x_callKS, x_fld, x_sfld, x_meth, x_make, x_fldaug, x_BM0, x_rAdd, x_retN, x_name, x_sub, x_ret, x_next, x_ifS, x_ite, x_iteN, x_T, x_F, x_tT, x_tF, x_op, x_un, x_var0, x_varS, x_c, x_I0, x_I, x_rU, x_nil, x_cons, x_test, x_B, x_bl, x_call, x_CB, x_tup, x_lst, x_not, x_Eq, x_Ne, x_eqII, x_eqSS, x_eqBB,  x_and, x_or, x_andV, x_orV, x_notV, x_if, x_par, x_two, x_drop, x_BM, x_set0, x_setS, x_gcons, x_gnil, x_forL, x_forT, x_forR1, x_forR2, x_forE, x_ref, x_int1, x_oneI, x_oneB, x_noBI, x_twoI, false_or, x_sl, x_noP, x_part, true_and, List.append_nil, cxK, cxKn]; try simp only [V.str.injEq, V.int.injEq, V.bl.injEq])
          have hl5 := o5 _ _ hlr hl4
          have hSt5 : Sts K H5 ys c := hSt4.imp fun h => Oth.tup o5 R4 h
          have O5 := O4.trans o5
          generalize hwd : (if low + 1 + g < bits then low + 1 + g else bits) = wd
          have wb : 1 ≤ wd ∧ wd ≤ bits := by rw [← hwd]; first | omega | (split <;> omega)
          refine x_seq.mpr ?_
          (try simp only [x_asg, x_mkV, x_value, x_lcR1, x_lcL, List.map_cons, List.map_nil, x_yes, x_wipe0, x_wipeS, x_rs, x_callS, x_callKS, x_fld, x_sfld, x_meth, x_make, x_fldaug, x_BM0, x_rAdd, x_retN, x_name, x_sub, x_ret, x_next, x_ifS, x_ite, x_iteN, x_T, x_F, x_tT, x_tF, x_op, x_un, x_var0, x_varS, x_c, x_I0, x_I, x_rU, x_nil, x_cons, x_test, x_B, x_bl, x_call, x_CB, x_tup, x_lst, x_not, x_Eq, x_Ne, x_eqII, x_eqSS, x_eqBB,  x_and, x_or, x_andV, x_orV, x_notV, x_if, x_par, x_two, x_drop, x_BM, x_set0, x_setS, x_gcons, x_gnil, x_forL, x_forT, x_forR1, x_forR2, x_forE, x_ref, x_int1, x_oneI, x_oneB, x_noBI, x_twoI, false_or, x_sl, x_noP, x_part, true_and, List.append_nil, cxK, cxKn]; try simp only [V.str.injEq, V.int.injEq, V.bl.injEq])
          refine ⟨x_tyL (SqL.of hl5), ?_⟩
          (try simp only [x_asg, x_mkV, x_value, x_lcR1, x_lcL, List.map_cons, List.map_nil, x_yes, x_wipe0, x_wipeS, x_rs, x_callS, x_callKS, x_fld, x_sfld, x_meth, x_make, x_fldaug, x_BM0, x_rAdd, x_retN, x_name, x_sub, x_ret, x_next, x_ifS, x_ite, x_iteN, x_T, x_F, x_tT, x_tF, x_op, x_un, x_var0, x_varS, x_c, x_I0, x_I, x_rU, x_nil, x_cons, x_test, x_B, x_bl, x_call, x_CB, x_tup, x_lst, x_not, x_Eq, x_Ne, x_eqII, x_eqSS, x_eqBB,  x_and, x_or, x_andV, x_orV, x_notV, x_if, x_par, x_two, x_drop, x_BM, x_set0, x_setS, x_gcons, x_gnil, x_forL, x_forT, x_forR1, x_forR2, x_forE, x_ref, x_int1, x_oneI, x_oneB, x_noBI, x_twoI, false_or, x_sl, x_noP, x_part, true_and, List.append_nil, cxK, cxKn]; try simp only [V.str.injEq, V.int.injEq, V.bl.injEq])
          refine ⟨by show 2 ≤ sizeLine; decide, fun p np => ?_⟩
          refine ⟨r, 2, _, rfl, R5.same (same_new np), by omega, by omega, by decide, fun g2 H6 g0 g1 R6 o6 => ?_⟩
          have sn := same_new (o := .lst [V.str "u", .str "s"]) np
          have hp6 := o6 _ _ (R5.ne np) upd_same
          have hl6 := o6 _ _ hlr (sn _ _ hl5)
          have hSt6 : Sts K H6 ys c := hSt5.imp fun h => Oth.tup o6 (R5.same sn) (Same.tup sn h)
          have O6 := (O5.trans (Oth.same sn)).trans o6
          obtain ⟨wv, hwv, hwm⟩ := atI_in (xs := [V.str "u", .str "s"]) (i := g2) g0 (by simpa using g1)
          refine x_ixL (SqL.of hp6) hwv ?_
          obtain ⟨wx, rfl, wx1⟩ : ∃ wx : Str, wv = .str wx ∧ (wx = "u" ∨ wx = "s") := by
            simp only [List.mem_cons, List.not_mem_nil, or_false] at hwm
            rcases hwm with rfl | rfl
            · exact ⟨_, rfl, by first | exact .inl rfl | exact .inr rfl⟩
            · exact ⟨_, rfl, by first | exact .inl rfl | exact .inr rfl⟩
          (try simp only [x_asg, x_mkV, x_value, x_lcR1, x_lcL, List.map_cons, List.map_nil, x_yes, x_wipe0, x_wipeS, x_rs, x_callS, x_callKS, x_fld, x_sfld, x_meth, x_make, x_fldaug, x_BM0, x_rAdd, x_retN, x_name, x_sub, x_ret, x_next, x_ifS, x_ite, x_iteN, x_T, x_F, x_tT, x_tF, x_op, x_un, x_var0, x_varS, x_c, x_I0, x_I, x_rU, x_nil, x_cons, x_test, x_B, x_bl, x_call, x_CB, x_tup, x_lst, x_not, x_Eq, x_Ne, x_eqII, x_eqSS, x_eqBB,  x_and, x_or, x_andV, x_orV, x_notV, x_if, x_par, x_two, x_drop, x_BM, x_set0, x_setS, x_gcons, x_gnil, x_forL, x_forT, x_forR1, x_forR2, x_forE, x_ref, x_int1, x_oneI, x_oneB, x_noBI, x_twoI, false_or, x_sl, x_noP, x_part, true_and, List.append_nil, cxK, cxKn]; try simp only [V.str.injEq, V.int.injEq, V.bl.injEq])
          refine ⟨by show 2 ≤ sizeLine; decide, fun t nt => ?_⟩
          refine x_app ((same_new nt) _ _ hl6) (by rw [sizeLine_eq]; omega) ?_
          have na : ¬ wx = "add" := by rcases wx1 with rfl | rfl <;> decide
          refine ⟨_, _, _, _, _, rfl, upd_same, Sts.grow hl6 nt hSt6, more ?_ ?_, ((R6.same (same_new nt)).mut hlr).up (by omega), ((O6.trans (Oth.same (same_new nt))).mut nl), ?_, ?_⟩
          · unfold okS isC
            rw [decide_eq_false (show ¬ (wx, wd).1 = "add" from na), decide_eq_true (show (wx, wd).1 = "u" ∨ (wx, wd).1 = "s" from wx1), decide_eq_true (show 1 ≤ (wx, wd).2 from wb.1)]
            rfl
          · rw [if_neg na]
            exact wb.2
          · split <;> omega
          · split <;> omega
        · generalize hwd : (1 + b : Int) = wd
          have wb : 1 ≤ wd ∧ wd ≤ bits := by rw [← hwd]; first | omega | (split <;> omega)
          refine x_seq.mpr ?_
          (try simp only [x_asg, x_mkV, x_value, x_lcR1, x_lcL, List.map_cons, List.map_nil, x_yes, x_wipe0, x_wipeS, x_rs, x_callS, x_callKS, x_fld, x_sfld, x_meth, x_make, x_fldaug, x_BM0, x_rAdd, x_retN, x_name, x_sub, x_ret, x_next, x_ifS, x_ite, x_iteN, x_T, x_F, x_tT, x_tF, x_op, x_un, x_var0, x_varS, x_c, x_I0, x_I, x_rU, x_nil, x_cons, x_test, x_B, x_bl, x_call, x_CB, x_tup, x_lst, x_not, x_Eq, x_Ne, x_eqII, x_eqSS, x_eqBB,  x_and, x_or, x_andV, x_orV, x_notV, x_if, x_par, x_two, x_drop, x_BM, x_set0, x_setS, x_gcons, x_gnil, x_forL, x_forT, x_forR1, x_forR2, x_forE, x_ref, x_int1, x_oneI, x_oneB, x_noBI, x_twoI, false_or, x_sl, x_noP, x_part, true_and, List.append_nil, cxK, cxKn]; try simp only [V.str.injEq, V.int.injEq, V.bl.injEq])
          refine ⟨x_tyL (SqL.of hl4), ?_⟩
          (try simp only [x_asg, x_mkV, x_value, x_lcR1, x_lcL, List.map_cons, List.map_nil, x_yes, x_wipe0, x_wipeS, x_rs, x_callS, x_callKS, x_fld, x_sfld, x_meth, x_make, x_fldaug, x_BM0, x_rAdd, x_retN, x_name, x_sub, x_ret, x_next, x_ifS, x_ite, x_iteN, x_T, x_F, x_tT, x_tF, x_op, x_un, x_var0, x_varS, x_c, x_I0, x_I, x_rU, x_nil, x_cons, x_test, x_B, x_bl, x_call, x_CB, x_tup, x_lst, x_not, x_Eq, x_Ne, x_eqII, x_eqSS, x_eqBB,  x_and, x_or, x_andV, x_orV, x_notV, x_if, x_par, x_two, x_drop, x_BM, x_set0, x_setS, x_gcons, x_gnil, x_forL, x_forT, x_forR1, x_forR2, x_forE, x_ref, x_int1, x_oneI, x_oneB, x_noBI, x_twoI, false_or, x_sl, x_noP, x_part, true_and, List.append_nil, cxK, cxKn]; try simp only [V.str.injEq, V.int.injEq, V.bl.injEq])
          refine ⟨by show 2 ≤ sizeLine; decide, fun p np => ?_⟩
          refine ⟨r, 2, _, rfl, R4.same (same_new np), by omega, by omega, by decide, fun g2 H6 g0 g1 R6 o6 => ?_⟩
          have sn := same_new (o := .lst [V.str "u", .str "s"]) np
          have hp6 := o6 _ _ (R4.ne np) upd_same
          have hl6 := o6 _ _ hlr (sn _ _ hl4)
          have hSt6 : Sts K H6 ys c := hSt4.imp fun h => Oth.tup o6 (R4.same sn) (Same.tup sn h)
          have O6 := (O4.trans (Oth.same sn)).trans o6
          obtain ⟨wv, hwv, hwm⟩ := atI_in (xs := [V.str "u", .str "s"]) (i := g2) g0 (by simpa using g1)
          refine x_ixL (SqL.of hp6) hwv ?_
          obtain ⟨wx, rfl, wx1⟩ : ∃ wx : Str, wv = .str wx ∧ (wx = "u" ∨ wx = "s") := by
            simp only [List.mem_cons, List.not_mem_nil, or_false] at hwm
            rcases hwm with rfl | rfl
            · exact ⟨_, rfl, by first | exact .inl rfl | exact .inr rfl⟩
            · exact ⟨_, rfl, by first | exact .inl rfl | exact .inr rfl⟩
          (try simp only [x_asg, x_mkV, x_value, x_lcR1, x_lcL, List.map_cons, List.map_nil, x_yes, x_wipe0, x_wipeS, x_rs, x_callS, x_callKS, x_fld, x_sfld, x_meth, x_make, x_fldaug, x_BM0, x_rAdd, x_retN, x_name, x_sub, x_ret, x_next, x_ifS, x_ite, x_iteN, x_T, x_F, x_tT, x_tF, x_op, x_un, x_var0, x_varS, x_c, x_I0, x_I, x_rU, x_nil, x_cons, x_test, x_B, x_bl, x_call, x_CB, x_tup, x_lst, x_not, x_Eq, x_Ne, x_eqII, x_eqSS, x_eqBB,  x_and, x_or, x_andV, x_orV, x_notV, x_if, x_par, x_two, x_drop, x_BM, x_set0, x_setS, x_gcons, x_gnil, x_forL, x_forT, x_forR1, x_forR2, x_forE, x_ref, x_int1, x_oneI, x_oneB, x_noBI, x_twoI, false_or, x_sl, x_noP, x_part, true_and, List.append_nil, cxK, cxKn]; try simp only [V.str.injEq, V.int.injEq, V.bl.injEq])
          refine ⟨by show 2 ≤ sizeLine; decide, fun t nt => ?_⟩
          refine x_app ((same_new nt) _ _ hl6) (by rw [sizeLine_eq]; omega) ?_
          have na : ¬ wx = "add" := by rcases wx1 with rfl | rfl <;> decide
          refine ⟨_, _, _, _, _, rfl, upd_same, Sts.grow hl6 nt hSt6, more ?_ ?_, ((R6.same (same_new nt)).mut hlr).up (by omega), ((O6.trans (Oth.same (same_new nt))).mut nl), ?_, ?_⟩
          · unfold okS isC
            rw [decide_eq_false (show ¬ (wx, wd).1 = "add" from na), decide_eq_true (show (wx, wd).1 = "u" ∨ (wx, wd).1 = "s" from wx1), decide_eq_true (show 1 ≤ (wx, wd).2 from wb.1)]
            rfl
          · rw [if_neg na]
            exact wb.2
          · split <;> omega
          · split <;> omega
    · obtain ⟨low, ys, c, y6, y7, rfl, hl, hSt, hc, R, O, w0, w1⟩ := h
      (try simp only [x_asg, x_mkV, x_value, x_lcR1, x_lcL, List.map_cons, List.map_nil, x_yes, x_wipe0, x_wipeS, x_rs, x_callS, x_callKS, x_fld, x_sfld, x_meth, x_make, x_fldaug, x_BM0, x_rAdd, x_retN, x_name, x_sub, x_ret, x_next, x_ifS, x_ite, x_iteN, x_T, x_F, x_tT, x_tF, x_op, x_un, x_var0, x_varS, x_c, x_I0, x_I, x_rU, x_nil, x_cons, x_test, x_B, x_bl, x_call, x_CB, x_tup, x_lst, x_not, x_Eq, x_Ne, x_eqII, x_eqSS, x_eqBB,  x_and, x_or, x_andV, x_orV, x_notV, x_if, x_par, x_two, x_drop, x_BM, x_set0, x_setS, x_gcons, x_gnil, x_forL, x_forT, x_forR1, x_forR2, x_forE, x_ref, x_int1, x_oneI, x_oneB, x_noBI, x_twoI, false_or, x_sl, x_noP, x_part, true_and, List.append_nil, cxK, cxKn]; try simp only [V.str.injEq, V.int.injEq, V.bl.injEq])
      exact q l ys c H' nl hl hSt ⟨Nat.le_trans hc.1 (by omega), hc.2⟩ (R.up (by omega)) O
end

end Cc

set_option Elab.async false
set_option linter.all false
set_option maxRecDepth 100000
set_option maxHeartbeats 4000000
namespace Cc
open PySem PySem.Spec PyProof.Rows L2
section
variable {K : PySem.W.Frag}
/-! chains as data -/
def chD (c : Ch) : PyData := .list (c.map fun s => .tuple [.str s.1, .int s.2])
theorem Sts.of_dq {F : Hp} : ∀ {xs : List V} {c : Ch}, DqAll K F xs (c.map fun s => .tuple [.str s.1, .int s.2]) → Sts K F xs c
  | [], [], _ => .nil
  | _ :: _, [], h => nomatch h
  | [], _ :: _, h => nomatch h
  | x :: xs, s :: c, h => by
    cases h with
    | cons h1 h2 =>
      cases h1 with
      | tup hs ha =>
        cases ha with
        | cons a1 a2 =>
          cases a1
          cases a2 with
          | cons b1 b2 =>
            cases b1
            cases b2
            exact .cons hs (Sts.of_dq h2)
theorem ch_of {F : Hp} {v : V} {c : Ch} (h : Dq K F v (chD c)) : ∃ a, v = .ref a ∧ ChAt K F a c := by
  cases h with
  | lst hs ha => exact ⟨_, rfl, _, .of hs, Sts.of_dq ha⟩
theorem Sts.dq {F : Hp} : ∀ {xs : List V} {c : Ch}, Sts K F xs c → DqAll K F xs (c.map fun s => .tuple [.str s.1, .int s.2])
  | _, _, .nil => .nil
  | _, _, .cons h t => .cons (.tup h (.cons (.str _) (.cons (.int _) .nil))) (Sts.dq t)
end

section
/-- the draws' list as the draws' object -/
def poolI : RngI := ⟨fun R r H n => (∀ b, R b ↔ b = r) ∧ RngAt H r n, fun {R r H H' n} h k => by
  obtain ⟨h1, d, s, c, e, h⟩ := h
  exact ⟨h1, d, s, c, k r _ ((h1 r).mpr rfl) e, h⟩⟩
variable {P : Program} {w : World} {K : PySem.W.Frag} {mg : Str → Option Value} {base : Heap} {k : Nat} {x : Str} {ps : List Str} {sp : Sp} {φ : Phi} {C : Nat → Addr} {CS : Addr}
abbrev poolG (K : PySem.W.Frag) (C : Nat → Addr) (CS : Addr) : Gx := ⟨K, C, CS, poolI⟩
/-- the known part, and the draws' list -/
def withR (F H : Hp) (r : Addr) : Hp := fun b => if b = r then H r else F b
def noR (F : Hp) (r : Addr) : Hp := fun b => if b = r then none else F b
theorem withR_at {F H : Hp} {r : Addr} : withR F H r r = H r := if_pos rfl
theorem withR_ne {F H : Hp} {r b : Addr} (h : b ≠ r) : withR F H r b = F b := if_neg h
theorem noR_ne {F : Hp} {r b : Addr} (h : b ≠ r) : noR F r b = F b := if_neg h
theorem Pr.pureR (h : Pr P w K mg base CX0 k x ps sp)
    (c : ∀ n us xs G r RR Xx (Q : VK) (E : XK), RpAll (poolG K C CS) G us xs → RngAt G r n → φ n xs RR Xx → (∀ v F' y n', Oth r G F' → RngAt F' r n' → RR y n' → Rp (poolG K C CS) (noR F' r) v y → noScr y → Q v F') → sp (.ref r :: us) G Q E) :
    Pr P w K mg base CX0 k x ps (spP (poolG K C CS) true φ) :=
  (h.frame0).weak fun vs H Q E ⟨R, r, F, n, xs, us, RR, Xx, e, hr, s, hR, hcl, hat, hno, q, o, ox⟩ => by
    have e : vs = V.ref r :: us := e
    rw [e]
    obtain ⟨hRr, hat⟩ := hat rfl
    have rR : R r := (hRr r).mpr rfl
    have Fr := (hR r rR).1
    have sFG : Same F (withR F H r) := fun b u hb => by
      rw [withR_ne (fun z => by rw [z, Fr] at hb; cases hb)]; exact hb
    have sG : Same (withR F H r) H := fun b u hb => by
      by_cases z : b = r
      · rw [z] at hb ⊢; rwa [withR_at] at hb
      · rw [withR_ne z] at hb; exact s _ _ hb
    have hH : ∃ xs, H r = some (.lst xs) := by
      obtain ⟨_, _, _, e, _⟩ := hat
      exact ⟨_, e⟩
    have clG : ∀ a u, withR F H r a = some u → okO (withR F H r) a u := fun a u hb => by
      by_cases z : a = r
      · rw [z, withR_at] at hb
        obtain ⟨xs, e⟩ := hH
        rw [e] at hb
        cases hb
        trivial
      · rw [withR_ne z] at hb
        exact (hcl a u hb).same sFG
    have hatG : RngAt (withR F H r) r n := by
      obtain ⟨d, s, c, e, h⟩ := hat
      exact ⟨d, s, c, by rw [withR_at]; exact e, h⟩
    have rpG : RpAll (poolG K C CS) (withR F H r) us xs := hr.same sFG
    refine ⟨_, sG, clG, c n us xs _ r RR Xx _ _ rpG hatG q fun v F' y n' ot hat' rr hy ns H' fr => ?_⟩
    have hF' : ∃ xs, F' r = some (.lst xs) := by
      obtain ⟨_, _, _, e, _⟩ := hat'
      exact ⟨_, e⟩
    have s2 : Same F (noR F' r) := fun b u hb => by
      have hbr : b ≠ r := fun z => by rw [z, Fr] at hb; cases hb
      rw [noR_ne hbr]
      exact ot b u hbr (sFG _ _ hb)
    have sub : Same (noR F' r) F' := fun b u hb => by
      by_cases z : b = r
      · rw [z] at hb; unfold noR at hb; rw [if_pos rfl] at hb; cases hb
      · rwa [noR_ne z] at hb
    have Gn : ∀ b, b ≠ r → withR F H r b ≠ none → ∃ u, F b = some u := fun b hb hg => by
      rw [withR_ne hb] at hg
      cases hF : F b with
      | none => exact absurd hF hg
      | some u => exact ⟨u, rfl⟩
    refine o y n' v _ H' rr ⟨filt_same s2, (filt_sub.trans sub).trans fr.s1, fun b u hb => ?_, fun b u hb nR => ?_, fun b hb => ?_, fun _ => ⟨hRr, ?_⟩, filt_cl hcl s2⟩ (hy.filt ns fun a D dx fs ha => ?_)
    · have hb2 := filt_sub b u hb
      have hbr : b ≠ r := fun z => by rw [z] at hb2; unfold noR at hb2; rw [if_pos rfl] at hb2; cases hb2
      rw [noR_ne hbr] at hb2
      rcases fr.new b u hb2 with z | z
      · obtain ⟨u', hu⟩ := Gn b hbr z
        have z2 := ot b u' hbr (sFG _ _ hu)
        rw [hb2] at z2
        cases z2
        exact .inl hu
      · exact .inr z
    · have hbr : b ≠ r := fun z => nR ((hRr b).mpr z)
      cases hF : F b with
      | none => exact fr.old b u hb (by rw [withR_ne hbr]; exact hF)
      | some u' =>
        have z := s _ _ hF
        rw [hb] at z
        cases z
        exact fr.s1 _ _ (ot b u hbr (sFG _ _ hF))
    · obtain ⟨h1, h2⟩ := fr.liv b hb
      rcases h2 with h2 | h2
      · by_cases z : b = r
        · obtain ⟨xs, e⟩ := hF'
          rw [z, e] at h1
          cases h1
        · obtain ⟨u, hu⟩ := Gn b z h2
          rw [ot b u z (sFG _ _ hu)] at h1
          cases h1
      · exact h2
    · obtain ⟨d, s, c, e, h⟩ := hat'
      exact ⟨d, s, c, fr.s1 _ _ e, h⟩
    · have har : a ≠ r := fun z => by rw [z] at ha; unfold noR at ha; rw [if_pos rfl] at ha; cases ha
      rw [noR_ne har] at ha
      have hd := fr.ins a D dx fs ha
      have hdr : dx ≠ r := fun z => by
        obtain ⟨xs, e⟩ := hF'
        rw [z, e] at hd
        cases hd
      rw [noR_ne hdr]
      exact hd
/-- tuples are not the draws' list -/
theorem SqT.noR {F : Hp} {r a : Addr} {n : Nat} {xs : List V} (R : RngAt F r n) (h : SqT K F a xs) : SqT K (noR F r) a xs := by
  obtain ⟨_, _, _, e, _⟩ := R
  rcases h with (h | ⟨o, h⟩) | h
  · exact .inl (.inl (by rw [noR_ne (fun z => by rw [z, e] at h; cases h)]; exact h))
  · exact .inl (.inr ⟨o, by rw [noR_ne (fun z => by rw [z, e] at h; cases h)]; exact h⟩)
  · exact .inr h
theorem Sts.noR {F : Hp} {r : Addr} {n : Nat} (R : RngAt F r n) : ∀ {xs : List V} {c : Ch}, Sts K F xs c → Sts K (noR F r) xs c
  | _, _, .nil => .nil
  | _, _, .cons h t => .cons (SqT.noR R h) (Sts.noR R t)
/-! what the draws' defs keep -/
def phDraw : Phi := fun n xs R _ => ∃ m : Int, xs = [.d (.int m)] ∧ n < 100000000 ∧ 1 ≤ m ∧ m < 2 ^ 1000 ∧ ∀ v : Int, 0 ≤ v → v < m → R (.d (.int v)) (n + 1)
theorem q_draw (h : Pr P w K mg base CX0 1 "_law_draw" ["pool", "many"] spDraw) : Pr P w K mg base CX0 1 "_law_draw" ["pool", "many"] (spP (poolG K C CS) true phDraw) := by
  refine h.pureR fun n us xs G r RR Xx Q E hr R q o => ?_
  obtain ⟨m, rfl, hn, m0, m1, q⟩ := q
  obtain ⟨u, rfl, r1⟩ := rp1 hr
  cases r1
  exact ⟨r, m, n, rfl, R, hn, m0, m1, fun v H' v0 v1 R' ot => o _ _ _ _ ot R' (q v v0 v1) (.int v) trivial⟩
def phConst : Phi := fun n xs R _ => ∃ far : Int, xs = [.d (.int far)] ∧ n < 90000000 ∧ 1 ≤ far ∧ far ≤ 10 ^ 30 ∧ ∀ v : Int, -(10 ^ 30) ≤ v → v ≤ 10 ^ 30 → R (.d (.int v)) (n + 6)
theorem q_const (h : Pr P w K mg base CX0 2 "_law_constant" ["pool", "far"] spConst) : Pr P w K mg base CX0 2 "_law_constant" ["pool", "far"] (spP (poolG K C CS) true phConst) := by
  refine h.pureR fun n us xs G r RR Xx Q E hr R q o => ?_
  obtain ⟨m, rfl, hn, m0, m1, q⟩ := q
  obtain ⟨u, rfl, r1⟩ := rp1 hr
  cases r1
  exact ⟨r, m, n, rfl, R, hn, m0, m1, fun v H' v0 v1 R' ot => o _ _ _ _ ot R' (q v v0 v1) (.int v) trivial⟩
end

section
variable {P : Program} {w : World} {K : PySem.W.Frag} {mg : Str → Option Value} {base : Heap} {C : Nat → Addr} {CS : Addr}
def phSteps : Phi := fun n xs R _ => ∃ most bits far : Int, xs = [.d (.int most), .d (.int bits), .d (.int far)] ∧ n < 80000000 ∧ 0 ≤ most ∧ most ≤ 1000 ∧ 1 ≤ bits ∧ bits ≤ 5000 ∧ 1 ≤ far ∧ far ≤ 10 ^ 30 ∧ ∀ c : Ch, chainOkB most.toNat bits c → R (.d (chD c)) (n + 10000)
theorem q_steps (h : Pr P w K mg base CX0 3 "_law_steps" ["pool", "most", "bits", "far"] (spSteps K)) : Pr P w K mg base CX0 3 "_law_steps" ["pool", "most", "bits", "far"] (spP (poolG K C CS) true phSteps) := by
  refine h.pureR fun n us xs G r RR Xx Q E hr R q o => ?_
  obtain ⟨most, bits, far, rfl, hn, a0, a1, b0, b1, c0, c1, q⟩ := q
  obtain ⟨u1, us, rfl, r1, hr⟩ : ∃ u1 us', us = u1 :: us' ∧ Rp (poolG K C CS) G u1 (.d (.int most)) ∧ RpAll (poolG K C CS) G us' [.d (.int bits), .d (.int far)] := by
    match us, hr with
    | u :: us, hr => exact ⟨u, us, rfl, hr.1, hr.2⟩
    | [], hr => exact hr.elim
  obtain ⟨u2, u3, rfl, r2, r3⟩ := rp2 hr
  cases r1
  cases r2
  cases r3
  refine ⟨r, most, bits, far, n, rfl, R, hn, a0, a1, b0, b1, c0, c1, fun l ys c H' nl hl hS hc R' ot => o _ _ _ _ ot R' (q c hc) ?_ trivial⟩
  have hlr : l ≠ r := R.ne nl
  exact .lst (by rw [noR_ne hlr]; exact hl) (Sts.dq (Sts.noR R' hS))
end

section
variable {P : Program} {w : World} {Γ : Gx} {mg : Str → Option Value} {base : Heap} {F H : Hp}
mutual
def noL : PyData → Bool
  | .list _ => false
  | .tuple ds => noLs ds
  | .dict _ => false
  | _ => true
def noLs : List PyData → Bool
  | [] => true
  | d :: ds => noL d && noLs ds
end
mutual
theorem dp_dq {K : PySem.W.Frag} : ∀ (d : PyData) {v : V}, noL d = true → Dp K F v d → Dq K F v d
  | .none, _, _, h => by cases h; exact .non
  | .bool b, _, _, h => by cases h; exact .bl b
  | .int i, _, _, h => by cases h; exact .int i
  | .str x, _, _, h => by cases h; exact .str x
  | .list _, _, n, _ => nomatch n
  | .tuple ds, _, n, h => by
    cases h with
    | tup hs ha => exact .tup hs (dpA_dq ds n ha)
  | .dict _, _, n, _ => nomatch n
theorem dpA_dq {K : PySem.W.Frag} : ∀ (ds : List PyData) {vs : List V}, noLs ds = true → DpAll K F vs ds → DqAll K F vs ds
  | [], _, _, h => by cases h; exact .nil
  | d :: ds, _, n, h => by
    have n : (noL d && noLs ds) = true := n
    rw [Bool.and_eq_true] at n
    cases h with
    | cons h1 h2 => exact .cons (dp_dq d n.1 h1) (dpA_dq ds n.2 h2)
end
theorem noL_ints : ∀ ns : List Int, noLs (ns.map PyData.int) = true
  | [] => rfl
  | n :: ns => by
    show (true && noLs (ns.map PyData.int)) = true
    rw [noL_ints ns]
    rfl
theorem noL_fm (F : Fm) : noL (fmD F) = true := by
  show (true && ((noLs (F.ws.map PyData.int)) && ((noLs (F.cs.map PyData.int)) && (noL (dOpt F.least) && true)))) = true
  rw [noL_ints, noL_ints]
  cases F.least <;> rfl
theorem fm_sh (F : Fm) : SeqAt.shaped (fmD F) = true := by
  unfold SeqAt.shaped fmD
  have a := ints_lay0 F.ws
  have b := ints_lay0 F.cs
  have c := ints_deep0 F.ws
  have d := ints_deep0 F.cs
  cases hl : F.least <;> simp [PyData.canLay0, PyData.canLayAll0, PyData.depth, PyData.depthAll, a, b, c, d, dOpt]
theorem eqv_ints : ∀ {a b : List Int}, PyData.eqvAll (a.map PyData.int) (b.map PyData.int) = true → a = b
  | [], [], _ => rfl
  | [], _ :: _, h => by simp [PyData.eqvAll] at h
  | _ :: _, [], h => by simp [PyData.eqvAll] at h
  | x :: a, y :: b, h => by
    simp only [List.map_cons, PyData.eqvAll, Bool.and_eq_true] at h
    have h1 : x = y := by simpa [PyData.eqv] using h.1
    rw [h1, eqv_ints h.2]
theorem eqv_fm {F G : Fm} (h : (fmD F).eqv (fmD G) = true) : F = G := by
  unfold fmD at h
  simp only [PyData.eqv, PyData.eqvAll, Bool.and_eq_true, Bool.and_true] at h
  obtain ⟨h1, h2, h3, h4⟩ := h
  obtain ⟨a, b, c, d⟩ := F
  obtain ⟨a', b', c', d'⟩ := G
  have e1 : a = a' := by simpa [PyData.eqv] using h1
  have e2 := eqv_ints h2
  have e3 := eqv_ints h3
  have e4 : d = d' := by
    cases d <;> cases d' <;> simp [dOpt, PyData.eqv] at h4 ⊢
    exact h4
  dsimp only at e2 e3
  rw [e1, e2, e3, e4]
def phForm : Phi := fun _ xs R Xx => ∃ c : Ch, xs = [.d (chD c)] ∧ bndC c ∧ firstBad c = none ∧ R (.d (fmD (formS (spreadS c)))) 0
theorem q_form (h : Pr P w Γ.K mg base (L2.CX P w) 6 "form" ["chain"] (spForm Γ.K (Γ.C 0))) : Pr P w Γ.K mg base (L2.CX P w) 6 "form" ["chain"] (spP Γ false phForm) := by
  refine h.pureX fun n us xs F RR Xx Q E hr q o ox => ?_
  obtain ⟨c, rfl, hb, ok, q1⟩ := q
  obtain ⟨u, rfl, r1⟩ := rp1 hr
  obtain ⟨a, rfl, hC⟩ := ch_of r1
  exact ⟨a, c, rfl, hC, hb, fun _ p H' _ s hD => o _ H' _ s q1 (dp_dq _ (noL_fm _) hD) trivial, fun i hi => by rw [ok] at hi; cases hi⟩
/-! the form tells the function -/
theorem spread_vf {c : Ch} (ok : firstBad c = none) : VF (spreadS c) fun y => convI y c := vf_chain fun s hs => by
  unfold firstBad at ok
  rw [List.findIdx?_eq_none_iff] at ok
  have := ok s hs
  simpa using this
theorem formS_iff {S S' : Spr} : formS S = formS S' → (S.lv = [] ∨ ∃ u r v, S.lv = u :: r ∧ S.lv.getLast? = some v) → (S'.lv = [] ∨ ∃ u r v, S'.lv = u :: r ∧ S'.lv.getLast? = some v) → (∀ u r, S.lv = u :: r → u.cut = 0) → (∀ u r, S'.lv = u :: r → u.cut = 0) → SameForm S S' := fun e h h' c0 c0' => by
  rcases h with a | ⟨u, r, v, a, b⟩ <;> rcases h' with a' | ⟨u', r', v', a', b'⟩
  · unfold formS at e
    rw [a, a'] at e
    exact .inl ⟨a, a', congrArg Fm.shift e⟩
  · unfold formS at e
    rw [a, b'] at e
    rw [a'] at e
    exact absurd (congrArg Fm.ws e) (by simp)
  · unfold formS at e
    rw [a', b] at e
    rw [a] at e
    exact absurd (congrArg Fm.ws e) (by simp)
  · have e1 : formS S = ⟨S.tot % 2 ^ u.w.toNat, S.lv.map (·.w), r.map (·.cut), some (lowOf v.rs + S.off)⟩ := by
      unfold formS
      rw [b]
      rw [a]
    have e2 : formS S' = ⟨S'.tot % 2 ^ u'.w.toNat, S'.lv.map (·.w), r'.map (·.cut), some (lowOf v'.rs + S'.off)⟩ := by
      unfold formS
      rw [b']
      rw [a']
    rw [e1, e2] at e
    have f1 := congrArg Fm.shift e
    have f2 : S.lv.map (·.w) = S'.lv.map (·.w) := congrArg Fm.ws e
    have f3 : r.map (·.cut) = r'.map (·.cut) := congrArg Fm.cs e
    have f4 : some (lowOf v.rs + S.off) = some (lowOf v'.rs + S'.off) := congrArg Fm.least e
    have ew : u.w = u'.w := by
      rw [a, a'] at f2
      exact (List.cons.inj f2).1
    have fc : S.lv.map (·.cut) = S'.lv.map (·.cut) := by
      rw [a, a', List.map_cons, List.map_cons, c0 u r a, c0' u' r' a', f3]
    refine .inr ⟨u, r, v, u', r', v', a, b, a', b', ew, ?_, f1, Option.some.inj f4⟩
    unfold keyL
    have zz : ∀ l : List Lv, (l.map fun t => (t.w, t.cut)) = (l.map (·.w)).zip (l.map (·.cut)) := fun l => by
      induction l with
      | nil => rfl
      | cons t l ih => rw [List.map_cons, List.map_cons, List.map_cons, List.zip_cons_cons, ih]
    rw [zz, zz, f2, fc]
theorem same_formS {S S' : Spr} (h : SameForm S S') : formS S = formS S' := by
  rcases h with ⟨a, b, c⟩ | ⟨u, r, v, u', r', v', a, b, a', b', ew, ek, et, el⟩
  · unfold formS
    rw [a, b, c]
  · have e1 : formS S = ⟨S.tot % 2 ^ u.w.toNat, S.lv.map (·.w), r.map (·.cut), some (lowOf v.rs + S.off)⟩ := by
      unfold formS
      rw [b]
      rw [a]
    have e2 : formS S' = ⟨S'.tot % 2 ^ u'.w.toNat, S'.lv.map (·.w), r'.map (·.cut), some (lowOf v'.rs + S'.off)⟩ := by
      unfold formS
      rw [b']
      rw [a']
    have kw : S.lv.map (·.w) = S'.lv.map (·.w) := by
      have := congrArg (List.map Prod.fst) ek
      unfold keyL at this
      rw [List.map_map, List.map_map] at this
      exact this
    have kc : r.map (·.cut) = r'.map (·.cut) := by
      have := congrArg (List.map Prod.snd) ek
      unfold keyL at this
      rw [List.map_map, List.map_map] at this
      have : S.lv.map (·.cut) = S'.lv.map (·.cut) := this
      rw [a, a', List.map_cons, List.map_cons] at this
      exact (List.cons.inj this).2
    rw [e1, e2, et, kw, kc, el]
theorem vf_shape {S : Spr} {f : Int → Int} (h : VF S f) : (S.lv = [] ∨ ∃ u r v, S.lv = u :: r ∧ S.lv.getLast? = some v) ∧ ∀ u r, S.lv = u :: r → u.cut = 0 := by
  rcases h.sg with a | ⟨w0, l, v, a, hg⟩
  · exact ⟨.inl a, fun u r e => by rw [a] at e; cases e⟩
  · obtain ⟨u, r, e, _⟩ := good_head hg
    refine ⟨.inr ⟨u, r, v, a.trans e, by rw [a]; simp⟩, fun u' r' e' => ?_⟩
    rw [a] at e'
    clear e a
    induction hg generalizing r' with
    | one _ => cases e'; rfl
    | @snoc l v w z hg _ _ _ ih =>
      cases l with
      | nil =>
        cases e'
        obtain ⟨y1, y2, y3, _⟩ := good_head hg
        exact ih _ rfl
      | cons a b =>
        cases e'
        exact ih _ rfl
/-- the forms are equal exactly if the functions are -/
theorem form_iff {c d : Ch} (hc : firstBad c = none) (hd : firstBad d = none) : formS (spreadS c) = formS (spreadS d) ↔ ∀ y, convI y c = convI y d := by
  have h1 := spread_vf hc
  have h2 := spread_vf hd
  exact ⟨fun e => form_same h1 h2 (formS_iff e (vf_shape h1).1 (vf_shape h2).1 (vf_shape h1).2 (vf_shape h2).2), fun e => same_formS (same_form h1 h2 e)⟩
end

end Cc

set_option Elab.async false
set_option linter.all false
set_option maxRecDepth 100000
set_option maxHeartbeats 4000000
namespace Cc
open PySem PySem.Spec PyProof.Rows L2
abbrev s_law_done : Stmt := topS 21
theorem sc_law_done : FnScope ["x", "steps_here", "word", "amount", "size"] ["x", "steps_here"] (defScope s_law_done) := ⟨rfl, rfl, rfl, by decide +kernel, rfl, by decide +kernel, by decide +kernel⟩
section
variable {P : Program} {w : World} {Γ : Gx} {mg : Str → Option Value} {base : Heap}
def phSame : Phi := fun _ xs R Xx => ∃ c d : Ch, xs = [.d (chD c), .d (chD d)] ∧ bndC c ∧ bndC d ∧ firstBad c = none ∧ firstBad d = none ∧ ∀ b : Bool, (b = true ↔ ∀ y, convI y c = convI y d) → R (.d (.bool b)) 0
theorem k_same (T : Tx Γ.K mg "same_function" s_same_function) (h_form : Pr P w Γ.K mg base (L2.CX P w) 6 "form" ["chain"] (spP Γ false phForm)) : PrK P w Γ.K mg base (L2.CX P w) 7 "same_function" s_same_function ["first", "second"] (spP Γ false phSame) := by
  refine mkPPXK T sc_same_function (fun n xs R Xx h => ?_) (fun f cdv A outer s H E hG hr => ?_)
  · obtain ⟨_, _, rfl, _⟩ := h
    rfl
  · have nd := sc_same_function.nd
    refine ⟨_, _, (dss_one (fun h => pss_one h) (ds_ret (fun h => ps_ret h) (de_op opd_eqD (fun h h' => pe_cmpR (op_eqD hr.units) h h' (nomark _)) (de_callX (fun h => pe_PX h_form hr hG (by rfl) (takes_of rfl rfl rfl rfl) h) (da_cons (fun h t => pa_cons h t) (de_var (pv 0)) (da_nil pa_nil))) (de_callX (fun h => pe_PX h_form hr hG (by rfl) (takes_of rfl rfl rfl rfl) h) (da_cons (fun h t => pa_cons h t) (de_var (pv 1)) (da_nil pa_nil)))))), fun n xs R Xx h => ?_⟩
    obtain ⟨c, d, rfl, bc, bd, fc, fd, q⟩ := h
    show (sRet _) [.a (.d (chD c)), .a (.d (chD d))] _
    (try simp only [y_var, y_c, y_op, y_un, y_and, y_or, y_not, y_if, y_isN, y_notN, y_bOf, y_bTru, y_bNot, y_bYes, y_aNil, y_aCons, y_aStar, y_tup, y_disp, y_fz, y_cb, y_cat, y_of, y_sl, y_dO0, y_dO1, y_ixN, y_lenN, y_chain, y_call0, y_call, y_callR0, y_next, y_brk, y_cnt, y_asg, y_setO, y_gNm, y_gTp, y_gsNil, y_gsCons, y_subO, y_par, y_aug, y_expr, y_app, y_ext, y_ifS, y_ret, y_retN, y_for, y_while, y_iSeq, y_iTp, y_iR1, y_iR2, y_iEn, y_iZp, y_lc, y_raise, y_un1, y_call, Bool.true_eq_false, reduceCtorEq, decide_true, decide_false, ix2_0, ix2_1, ix3_0, ix3_1, ix3_2, LcRun, LpRun, wipeP, restP, noX, dite_true, List.nil_append, List.cons_append, Option.getD_some, Option.getD_none, y_repr, y_tupleL, y_tupleT, y_sum, y_all, y_any, y_eqD, y_neD, y_rev, y_dn, y_orT, y_notT, y_ins, y_bits, y_bAnd, y_bOr, y_rt0, y_rtR, y_nx0, y_rtX, y_nxX, y_exX, inV2, inV3, flatD, vOf, List.all_cons, List.all_nil, Bool.and_self, sz_iff, Nat.reduceAdd, Nat.reduceLeDiff, Nat.zero_add, y_dD, y_dB, y_dI, y_dL, y_dSl, y_dSt, y_dAll0, y_dAllS, dAll_map, y_I0, y_I, y_eqI, y_eqS, y_eqB, y_neI, y_neS, y_neB, y_neg, y_ixL, y_ixT, y_min, y_max, y_abs, y_lenL, y_lenT, y_lenS, y_lenB, y_truL, y_truT, y_inL, y_inT, y_ex1, y_exO, y_exR, at0, at1, at2, at3, isNon, List.getElem?_cons_succ, List.getElem?_cons_zero, List.set_cons_succ, List.set_cons_zero, List.length_cons, List.length_nil, List.map_cons, List.map_nil, true_and, and_true, decide_eq_true_eq, Bool.not_eq_true', Bool.not_true, Bool.not_false, if_true, if_false, Bool.false_eq_true, ite_true, ite_false])
    refine ⟨c, rfl, bc, fc, ?_⟩
    (try simp only [y_var, y_c, y_op, y_un, y_and, y_or, y_not, y_if, y_isN, y_notN, y_bOf, y_bTru, y_bNot, y_bYes, y_aNil, y_aCons, y_aStar, y_tup, y_disp, y_fz, y_cb, y_cat, y_of, y_sl, y_dO0, y_dO1, y_ixN, y_lenN, y_chain, y_call0, y_call, y_callR0, y_next, y_brk, y_cnt, y_asg, y_setO, y_gNm, y_gTp, y_gsNil, y_gsCons, y_subO, y_par, y_aug, y_expr, y_app, y_ext, y_ifS, y_ret, y_retN, y_for, y_while, y_iSeq, y_iTp, y_iR1, y_iR2, y_iEn, y_iZp, y_lc, y_raise, y_un1, y_call, Bool.true_eq_false, reduceCtorEq, decide_true, decide_false, ix2_0, ix2_1, ix3_0, ix3_1, ix3_2, LcRun, LpRun, wipeP, restP, noX, dite_true, List.nil_append, List.cons_append, Option.getD_some, Option.getD_none, y_repr, y_tupleL, y_tupleT, y_sum, y_all, y_any, y_eqD, y_neD, y_rev, y_dn, y_orT, y_notT, y_ins, y_bits, y_bAnd, y_bOr, y_rt0, y_rtR, y_nx0, y_rtX, y_nxX, y_exX, inV2, inV3, flatD, vOf, List.all_cons, List.all_nil, Bool.and_self, sz_iff, Nat.reduceAdd, Nat.reduceLeDiff, Nat.zero_add, y_dD, y_dB, y_dI, y_dL, y_dSl, y_dSt, y_dAll0, y_dAllS, dAll_map, y_I0, y_I, y_eqI, y_eqS, y_eqB, y_neI, y_neS, y_neB, y_neg, y_ixL, y_ixT, y_min, y_max, y_abs, y_lenL, y_lenT, y_lenS, y_lenB, y_truL, y_truT, y_inL, y_inT, y_ex1, y_exO, y_exR, at0, at1, at2, at3, isNon, List.getElem?_cons_succ, List.getElem?_cons_zero, List.set_cons_succ, List.set_cons_zero, List.length_cons, List.length_nil, List.map_cons, List.map_nil, true_and, and_true, decide_eq_true_eq, Bool.not_eq_true', Bool.not_true, Bool.not_false, if_true, if_false, Bool.false_eq_true, ite_true, ite_false])
    refine ⟨d, rfl, bd, fd, ?_⟩
    (try simp only [y_var, y_c, y_op, y_un, y_and, y_or, y_not, y_if, y_isN, y_notN, y_bOf, y_bTru, y_bNot, y_bYes, y_aNil, y_aCons, y_aStar, y_tup, y_disp, y_fz, y_cb, y_cat, y_of, y_sl, y_dO0, y_dO1, y_ixN, y_lenN, y_chain, y_call0, y_call, y_callR0, y_next, y_brk, y_cnt, y_asg, y_setO, y_gNm, y_gTp, y_gsNil, y_gsCons, y_subO, y_par, y_aug, y_expr, y_app, y_ext, y_ifS, y_ret, y_retN, y_for, y_while, y_iSeq, y_iTp, y_iR1, y_iR2, y_iEn, y_iZp, y_lc, y_raise, y_un1, y_call, Bool.true_eq_false, reduceCtorEq, decide_true, decide_false, ix2_0, ix2_1, ix3_0, ix3_1, ix3_2, LcRun, LpRun, wipeP, restP, noX, dite_true, List.nil_append, List.cons_append, Option.getD_some, Option.getD_none, y_repr, y_tupleL, y_tupleT, y_sum, y_all, y_any, y_eqD, y_neD, y_rev, y_dn, y_orT, y_notT, y_ins, y_bits, y_bAnd, y_bOr, y_rt0, y_rtR, y_nx0, y_rtX, y_nxX, y_exX, inV2, inV3, flatD, vOf, List.all_cons, List.all_nil, Bool.and_self, sz_iff, Nat.reduceAdd, Nat.reduceLeDiff, Nat.zero_add, y_dD, y_dB, y_dI, y_dL, y_dSl, y_dSt, y_dAll0, y_dAllS, dAll_map, y_I0, y_I, y_eqI, y_eqS, y_eqB, y_neI, y_neS, y_neB, y_neg, y_ixL, y_ixT, y_min, y_max, y_abs, y_lenL, y_lenT, y_lenS, y_lenB, y_truL, y_truT, y_inL, y_inT, y_ex1, y_exO, y_exR, at0, at1, at2, at3, isNon, List.getElem?_cons_succ, List.getElem?_cons_zero, List.set_cons_succ, List.set_cons_zero, List.length_cons, List.length_nil, List.map_cons, List.map_nil, true_and, and_true, decide_eq_true_eq, Bool.not_eq_true', Bool.not_true, Bool.not_false, if_true, if_false, Bool.false_eq_true, ite_true, ite_false])
    refine ⟨fm_sh _, fm_sh _, q _ ?_⟩
    rw [← form_iff fc fd]
    exact ⟨eqv_fm, fun e => by rw [e]; exact eqv_same (fm_sh _)⟩
def phPower : Phi := fun _ xs R _ => ∃ m : Int, xs = [.d (.int m)] ∧ 0 ≤ m ∧ m ≤ 5000 ∧ R (.d (.int (2 ^ m.toNat))) 0
theorem q_power (h : Pr P w Γ.K mg base CX0 1 "_law_power" ["many"] spPower) : Pr P w Γ.K mg base CX0 1 "_law_power" ["many"] (spP Γ false phPower) := by
  refine Pr.pure0 (Γ := Γ) h fun n us xs F RR Xx Q E hr q o => ?_
  obtain ⟨m, rfl, m0, m1, q⟩ := q
  obtain ⟨u, rfl, r1⟩ := rp1 hr
  cases r1
  exact ⟨m, rfl, m0, m1, o _ _ _ (Same.refl _) q (.int _) trivial⟩
def stD (s : Str × Int) : PyData := .tuple [.str s.1, .int s.2]
theorem okS_w {x : Str} {n : Int} (h : okS (x, n) = true) (hx : ¬ x = "add") : (x = "u" ∨ x = "s") ∧ 1 ≤ n := by
  unfold okS isC at h
  rw [decide_eq_false (show ¬ (x, n).1 = "add" from hx), Bool.false_or, Bool.and_eq_true, decide_eq_true_eq, decide_eq_true_eq] at h
  exact h
/-- steps whose casts are not too wide -/
def okM (s : Str × Int) : Prop := okS s = true ∧ (¬ s.1 = "add" → s.2 ≤ 400)
def phDone : Phi := fun _ xs R _ => ∃ (y : Int) (c : Ch), xs = [.d (.int y), .d (chD c)] ∧ (∀ s ∈ c, okM s) ∧ R (.d (.int (convI y c))) 0
theorem q_done (T : Tx Γ.K mg "_law_done" s_law_done) (h__law_power : Pr P w Γ.K mg base CX0 1 "_law_power" ["many"] (spP Γ false phPower)) : Pr P w Γ.K mg base CX0 2 "_law_done" ["x", "steps_here"] (spP Γ false phDone) := by
  refine mkPP T sc_law_done (fun _ _ _ _ _ _ us hl => match us, hl with | [_, _], _ => rfl) (fun n xs R Xx h => ?_) (fun n xs R Xx h => h) (fun f cdv A outer s H E hG hr => ?_)
  · obtain ⟨_, _, rfl, _⟩ := h
    rfl
  · have nd := sc_law_done.nd
    refine ⟨_, _, (dss_cons (fun h h' => pss_cons h h') (ds_for (fun hi hg hb => ps_for PassesOwn.never rfl hi hg hb) (di_list (fun h => pi_list h) (de_var (pv 1))) (dg_tup (n := 2) (fun h => pg_tup rfl h) (dgs_cons (fun g h => pgs_cons g h) (dg_name (pg_name (i := 2) nd rfl (.inl rfl))) (dgs_cons (fun g h => pgs_cons g h) (dg_name (pg_name (i := 3) nd rfl (.inl rfl))) (dgs_nil pgs_nil)))) (dss_one (fun h => pss_one h) (ds_if (fun h a b => ps_if h a b) (dt_cmp opd_eq (fun h h' => pt_cmpR op_eq h h' (nomark _)) (de_var (pv 2)) (de_c pe_str (fun _ => .str _))) (dss_one (fun h => pss_one h) (ds_set (i := 0) (fun h => ps_set nd rfl (.inl rfl) h) (de_op opd_int0 (fun h h' => pe_op op_add h h') (de_var (pv 0)) (de_var (pv 3))))) (dss_cons (fun h h' => pss_cons h h') (ds_set (i := 4) (fun h => ps_set nd rfl (.inl rfl) h) (de_call0 (fun h => pe_P h__law_power hr hG (by rfl) h) (da_cons (fun h t => pa_cons h t) (de_var (pv 3)) (da_nil pa_nil)))) (dss_cons (fun h h' => pss_cons h h') (ds_set (i := 0) (fun h => ps_set nd rfl (.inl rfl) h) (de_op opd_int (fun h h' => pe_op op_mod h h') (de_var (pv 0)) (de_var (pv 4)))) (dss_one (fun h => pss_one h) (ds_if (fun h a b => ps_if h a b) (dt_pw (fun h => PW.pt h) (dw_and (fun h h' => pw_and h h') (dt_cmp opd_eq (fun h h' => pt_cmpR op_eq h h' (nomark _)) (de_var (pv 2)) (de_c pe_str (fun _ => .str _))) (dw_and1 (fun h => pw_and1 h) (dt_cmp opd_bl0 (fun h h' => pt_cmpR op_ge h h' (nomark _)) (de_var (pv 0)) (de_op opd_int (fun h h' => pe_op op_fdivW h h') (de_var (pv 4)) (de_c pe_int (fun _ => .int _))))))) (dss_one (fun h => pss_one h) (ds_set (i := 0) (fun h => ps_set nd rfl (.inl rfl) h) (de_op opd_int0 (fun h h' => pe_op op_sub h h') (de_var (pv 0)) (de_var (pv 4))))) (dss_nil pss_nil)))))))) (dss_one (fun h => pss_one h) (ds_ret (fun h => ps_ret h) (de_var (pv 0))))), fun n xs R h => ?_⟩
    obtain ⟨y, c, rfl, ok, q⟩ := h
    rw [show chD c = .list (c.map stD) from rfl]
    show (sSeq _ _) [.a (.d (.int y)), .a (.d (.list (c.map stD))), .un, .un, .un] _
    refine y_cut fun NX hNX => ?_
    (try simp only [y_var, y_c, y_op, y_un, y_and, y_or, y_not, y_if, y_isN, y_notN, y_bOf, y_bTru, y_bNot, y_bYes, y_aNil, y_aCons, y_aStar, y_tup, y_disp, y_fz, y_cb, y_cat, y_of, y_sl, y_dO0, y_dO1, y_ixN, y_lenN, y_chain, y_call0, y_call, y_callR0, y_next, y_brk, y_cnt, y_asg, y_setO, y_gNm, y_gTp, y_gsNil, y_gsCons, y_subO, y_par, y_aug, y_expr, y_app, y_ext, y_ifS, y_ret, y_retN, y_for, y_while, y_iSeq, y_iTp, y_iR1, y_iR2, y_iEn, y_iZp, y_lc, y_raise, y_un1, y_call, Bool.true_eq_false, reduceCtorEq, decide_true, decide_false, ix2_0, ix2_1, ix3_0, ix3_1, ix3_2, LcRun, LpRun, wipeP, restP, noX, dite_true, List.nil_append, List.cons_append, Option.getD_some, Option.getD_none, y_repr, y_tupleL, y_tupleT, y_sum, y_all, y_any, y_eqD, y_neD, y_rev, y_dn, y_orT, y_notT, y_ins, y_bits, y_bAnd, y_bOr, y_rt0, y_rtR, y_nx0, y_rtX, y_nxX, y_exX, inV2, inV3, flatD, vOf, List.all_cons, List.all_nil, Bool.and_self, sz_iff, Nat.reduceAdd, Nat.reduceLeDiff, Nat.zero_add, y_dD, y_dB, y_dI, y_dL, y_dSl, y_dSt, y_dAll0, y_dAllS, dAll_map, y_I0, y_I, y_eqI, y_eqS, y_eqB, y_neI, y_neS, y_neB, y_neg, y_ixL, y_ixT, y_min, y_max, y_abs, y_lenL, y_lenT, y_lenS, y_lenB, y_truL, y_truT, y_inL, y_inT, y_ex1, y_exO, y_exR, at0, at1, at2, at3, isNon, List.getElem?_cons_succ, List.getElem?_cons_zero, List.set_cons_succ, List.set_cons_zero, List.length_cons, List.length_nil, List.map_cons, List.map_nil, true_and, and_true, decide_eq_true_eq, Bool.not_eq_true', Bool.not_true, Bool.not_false, if_true, if_false, Bool.false_eq_true, ite_true, ite_false])
    refine loop (fun i ρ => ∃ y2 y3 y4, ρ = [.a (.d (.int (convI y (c.take i)))), .a (.d (.list (c.map stD))), y2, y3, y4]) ⟨_, _, _, rfl⟩ (fun i x ρ hx h => ?_) (fun ρ h => ?_)
    · obtain ⟨y2, y3, y4, rfl⟩ := h
      rw [List.map_map, List.getElem?_map] at hx
      obtain ⟨⟨z, m⟩, hz, rfl⟩ := Option.map_eq_some_iff.mp hx
      have hm := ok _ (List.mem_of_getElem? hz)
      have e : convI y (c.take (i + 1)) = stepI (convI y (c.take i)) (z, m) := by
        rw [List.take_add_one, hz]
        unfold convI
        rw [List.foldl_append]
        rfl
      rw [e]
      generalize convI y (c.take i) = v
      simp only [Function.comp_apply]
      unfold stD
      (try simp only [y_var, y_c, y_op, y_un, y_and, y_or, y_not, y_if, y_isN, y_notN, y_bOf, y_bTru, y_bNot, y_bYes, y_aNil, y_aCons, y_aStar, y_tup, y_disp, y_fz, y_cb, y_cat, y_of, y_sl, y_dO0, y_dO1, y_ixN, y_lenN, y_chain, y_call0, y_call, y_callR0, y_next, y_brk, y_cnt, y_asg, y_setO, y_gNm, y_gTp, y_gsNil, y_gsCons, y_subO, y_par, y_aug, y_expr, y_app, y_ext, y_ifS, y_ret, y_retN, y_for, y_while, y_iSeq, y_iTp, y_iR1, y_iR2, y_iEn, y_iZp, y_lc, y_raise, y_un1, y_call, Bool.true_eq_false, reduceCtorEq, decide_true, decide_false, ix2_0, ix2_1, ix3_0, ix3_1, ix3_2, LcRun, LpRun, wipeP, restP, noX, dite_true, List.nil_append, List.cons_append, Option.getD_some, Option.getD_none, y_repr, y_tupleL, y_tupleT, y_sum, y_all, y_any, y_eqD, y_neD, y_rev, y_dn, y_orT, y_notT, y_ins, y_bits, y_bAnd, y_bOr, y_rt0, y_rtR, y_nx0, y_rtX, y_nxX, y_exX, inV2, inV3, flatD, vOf, List.all_cons, List.all_nil, Bool.and_self, sz_iff, Nat.reduceAdd, Nat.reduceLeDiff, Nat.zero_add, y_dD, y_dB, y_dI, y_dL, y_dSl, y_dSt, y_dAll0, y_dAllS, dAll_map, y_I0, y_I, y_eqI, y_eqS, y_eqB, y_neI, y_neS, y_neB, y_neg, y_ixL, y_ixT, y_min, y_max, y_abs, y_lenL, y_lenT, y_lenS, y_lenB, y_truL, y_truT, y_inL, y_inT, y_ex1, y_exO, y_exR, at0, at1, at2, at3, isNon, List.getElem?_cons_succ, List.getElem?_cons_zero, List.set_cons_succ, List.set_cons_zero, List.length_cons, List.length_nil, List.map_cons, List.map_nil, true_and, and_true, decide_eq_true_eq, Bool.not_eq_true', Bool.not_true, Bool.not_false, if_true, if_false, Bool.false_eq_true, ite_true, ite_false])
      unfold stepI
      by_cases ha : z = "add"
      · rw [if_pos ha]
        (try simp only [y_var, y_c, y_op, y_un, y_and, y_or, y_not, y_if, y_isN, y_notN, y_bOf, y_bTru, y_bNot, y_bYes, y_aNil, y_aCons, y_aStar, y_tup, y_disp, y_fz, y_cb, y_cat, y_of, y_sl, y_dO0, y_dO1, y_ixN, y_lenN, y_chain, y_call0, y_call, y_callR0, y_next, y_brk, y_cnt, y_asg, y_setO, y_gNm, y_gTp, y_gsNil, y_gsCons, y_subO, y_par, y_aug, y_expr, y_app, y_ext, y_ifS, y_ret, y_retN, y_for, y_while, y_iSeq, y_iTp, y_iR1, y_iR2, y_iEn, y_iZp, y_lc, y_raise, y_un1, y_call, Bool.true_eq_false, reduceCtorEq, decide_true, decide_false, ix2_0, ix2_1, ix3_0, ix3_1, ix3_2, LcRun, LpRun, wipeP, restP, noX, dite_true, List.nil_append, List.cons_append, Option.getD_some, Option.getD_none, y_repr, y_tupleL, y_tupleT, y_sum, y_all, y_any, y_eqD, y_neD, y_rev, y_dn, y_orT, y_notT, y_ins, y_bits, y_bAnd, y_bOr, y_rt0, y_rtR, y_nx0, y_rtX, y_nxX, y_exX, inV2, inV3, flatD, vOf, List.all_cons, List.all_nil, Bool.and_self, sz_iff, Nat.reduceAdd, Nat.reduceLeDiff, Nat.zero_add, y_dD, y_dB, y_dI, y_dL, y_dSl, y_dSt, y_dAll0, y_dAllS, dAll_map, y_I0, y_I, y_eqI, y_eqS, y_eqB, y_neI, y_neS, y_neB, y_neg, y_ixL, y_ixT, y_min, y_max, y_abs, y_lenL, y_lenT, y_lenS, y_lenB, y_truL, y_truT, y_inL, y_inT, y_ex1, y_exO, y_exR, at0, at1, at2, at3, isNon, List.getElem?_cons_succ, List.getElem?_cons_zero, List.set_cons_succ, List.set_cons_zero, List.length_cons, List.length_nil, List.map_cons, List.map_nil, true_and, and_true, decide_eq_true_eq, Bool.not_eq_true', Bool.not_true, Bool.not_false, if_true, if_false, Bool.false_eq_true, ite_true, ite_false])
        rw [if_pos ha]
        exact ⟨_, _, _, rfl⟩
      · have hw := okS_w hm.1 ha
        have hb : m ≤ 400 := hm.2 ha
        have p1 := two_pos m.toNat
        have hf := half_two hw.2
        have p2 := two_pos (m - 1).toNat
        have r0 := Int.emod_nonneg v (show (2 : Int) ^ m.toNat ≠ 0 by omega)
        have r1 := Int.emod_lt_of_pos v p1
        rw [if_neg ha, if_neg ha]
        refine y_cut fun NX2 hNX2 => ?_
        (try simp only [y_var, y_c, y_op, y_un, y_and, y_or, y_not, y_if, y_isN, y_notN, y_bOf, y_bTru, y_bNot, y_bYes, y_aNil, y_aCons, y_aStar, y_tup, y_disp, y_fz, y_cb, y_cat, y_of, y_sl, y_dO0, y_dO1, y_ixN, y_lenN, y_chain, y_call0, y_call, y_callR0, y_next, y_brk, y_cnt, y_asg, y_setO, y_gNm, y_gTp, y_gsNil, y_gsCons, y_subO, y_par, y_aug, y_expr, y_app, y_ext, y_ifS, y_ret, y_retN, y_for, y_while, y_iSeq, y_iTp, y_iR1, y_iR2, y_iEn, y_iZp, y_lc, y_raise, y_un1, y_call, Bool.true_eq_false, reduceCtorEq, decide_true, decide_false, ix2_0, ix2_1, ix3_0, ix3_1, ix3_2, LcRun, LpRun, wipeP, restP, noX, dite_true, List.nil_append, List.cons_append, Option.getD_some, Option.getD_none, y_repr, y_tupleL, y_tupleT, y_sum, y_all, y_any, y_eqD, y_neD, y_rev, y_dn, y_orT, y_notT, y_ins, y_bits, y_bAnd, y_bOr, y_rt0, y_rtR, y_nx0, y_rtX, y_nxX, y_exX, inV2, inV3, flatD, vOf, List.all_cons, List.all_nil, Bool.and_self, sz_iff, Nat.reduceAdd, Nat.reduceLeDiff, Nat.zero_add, y_dD, y_dB, y_dI, y_dL, y_dSl, y_dSt, y_dAll0, y_dAllS, dAll_map, y_I0, y_I, y_eqI, y_eqS, y_eqB, y_neI, y_neS, y_neB, y_neg, y_ixL, y_ixT, y_min, y_max, y_abs, y_lenL, y_lenT, y_lenS, y_lenB, y_truL, y_truT, y_inL, y_inT, y_ex1, y_exO, y_exR, at0, at1, at2, at3, isNon, List.getElem?_cons_succ, List.getElem?_cons_zero, List.set_cons_succ, List.set_cons_zero, List.length_cons, List.length_nil, List.map_cons, List.map_nil, true_and, and_true, decide_eq_true_eq, Bool.not_eq_true', Bool.not_true, Bool.not_false, if_true, if_false, Bool.false_eq_true, ite_true, ite_false])
        refine ⟨m, rfl, by omega, by omega, hNX2 _ ?_⟩
        clear hNX2 NX2
        refine y_cut fun NX2 hNX2 => ?_
        (try simp only [y_var, y_c, y_op, y_un, y_and, y_or, y_not, y_if, y_isN, y_notN, y_bOf, y_bTru, y_bNot, y_bYes, y_aNil, y_aCons, y_aStar, y_tup, y_disp, y_fz, y_cb, y_cat, y_of, y_sl, y_dO0, y_dO1, y_ixN, y_lenN, y_chain, y_call0, y_call, y_callR0, y_next, y_brk, y_cnt, y_asg, y_setO, y_gNm, y_gTp, y_gsNil, y_gsCons, y_subO, y_par, y_aug, y_expr, y_app, y_ext, y_ifS, y_ret, y_retN, y_for, y_while, y_iSeq, y_iTp, y_iR1, y_iR2, y_iEn, y_iZp, y_lc, y_raise, y_un1, y_call, Bool.true_eq_false, reduceCtorEq, decide_true, decide_false, ix2_0, ix2_1, ix3_0, ix3_1, ix3_2, LcRun, LpRun, wipeP, restP, noX, dite_true, List.nil_append, List.cons_append, Option.getD_some, Option.getD_none, y_repr, y_tupleL, y_tupleT, y_sum, y_all, y_any, y_eqD, y_neD, y_rev, y_dn, y_orT, y_notT, y_ins, y_bits, y_bAnd, y_bOr, y_rt0, y_rtR, y_nx0, y_rtX, y_nxX, y_exX, inV2, inV3, flatD, vOf, List.all_cons, List.all_nil, Bool.and_self, sz_iff, Nat.reduceAdd, Nat.reduceLeDiff, Nat.zero_add, y_dD, y_dB, y_dI, y_dL, y_dSl, y_dSt, y_dAll0, y_dAllS, dAll_map, y_I0, y_I, y_eqI, y_eqS, y_eqB, y_neI, y_neS, y_neB, y_neg, y_ixL, y_ixT, y_min, y_max, y_abs, y_lenL, y_lenT, y_lenS, y_lenB, y_truL, y_truT, y_inL, y_inT, y_ex1, y_exO, y_exR, at0, at1, at2, at3, isNon, List.getElem?_cons_succ, List.getElem?_cons_zero, List.set_cons_succ, List.set_cons_zero, List.length_cons, List.length_nil, List.map_cons, List.map_nil, true_and, and_true, decide_eq_true_eq, Bool.not_eq_true', Bool.not_true, Bool.not_false, if_true, if_false, Bool.false_eq_true, ite_true, ite_false])
        refine ⟨p1, hNX2 _ ?_⟩
        clear hNX2 NX2
        (try simp only [y_var, y_c, y_op, y_un, y_and, y_or, y_not, y_if, y_isN, y_notN, y_bOf, y_bTru, y_bNot, y_bYes, y_aNil, y_aCons, y_aStar, y_tup, y_disp, y_fz, y_cb, y_cat, y_of, y_sl, y_dO0, y_dO1, y_ixN, y_lenN, y_chain, y_call0, y_call, y_callR0, y_next, y_brk, y_cnt, y_asg, y_setO, y_gNm, y_gTp, y_gsNil, y_gsCons, y_subO, y_par, y_aug, y_expr, y_app, y_ext, y_ifS, y_ret, y_retN, y_for, y_while, y_iSeq, y_iTp, y_iR1, y_iR2, y_iEn, y_iZp, y_lc, y_raise, y_un1, y_call, Bool.true_eq_false, reduceCtorEq, decide_true, decide_false, ix2_0, ix2_1, ix3_0, ix3_1, ix3_2, LcRun, LpRun, wipeP, restP, noX, dite_true, List.nil_append, List.cons_append, Option.getD_some, Option.getD_none, y_repr, y_tupleL, y_tupleT, y_sum, y_all, y_any, y_eqD, y_neD, y_rev, y_dn, y_orT, y_notT, y_ins, y_bits, y_bAnd, y_bOr, y_rt0, y_rtR, y_nx0, y_rtX, y_nxX, y_exX, inV2, inV3, flatD, vOf, List.all_cons, List.all_nil, Bool.and_self, sz_iff, Nat.reduceAdd, Nat.reduceLeDiff, Nat.zero_add, y_dD, y_dB, y_dI, y_dL, y_dSl, y_dSt, y_dAll0, y_dAllS, dAll_map, y_I0, y_I, y_eqI, y_eqS, y_eqB, y_neI, y_neS, y_neB, y_neg, y_ixL, y_ixT, y_min, y_max, y_abs, y_lenL, y_lenT, y_lenS, y_lenB, y_truL, y_truT, y_inL, y_inT, y_ex1, y_exO, y_exR, at0, at1, at2, at3, isNon, List.getElem?_cons_succ, List.getElem?_cons_zero, List.set_cons_succ, List.set_cons_zero, List.length_cons, List.length_nil, List.map_cons, List.map_nil, true_and, and_true, decide_eq_true_eq, Bool.not_eq_true', Bool.not_true, Bool.not_false, if_true, if_false, Bool.false_eq_true, ite_true, ite_false])
        have dv : ∀ j : Int, j = 0 ∨ j = 1 → (2 : Int) ^ m.toNat ∣ v - (v % 2 ^ m.toNat - j * 2 ^ m.toNat) := fun j hj => by
          rw [Int.emod_def]
          rcases hj with rfl | rfl
          · exact ⟨v / 2 ^ m.toNat, by omega⟩
          · exact ⟨v / 2 ^ m.toNat + 1, by rw [Int.mul_add]; omega⟩
        rcases hw.1 with rfl | rfl
        · rw [if_neg (by decide +kernel), cast_u]
          exact ⟨_, _, _, rfl⟩
        · rw [if_pos rfl]
          refine ⟨⟨by omega, by decide⟩, ?_⟩
          have e2 : (2 : Int) ^ m.toNat / 2 = 2 ^ (m - 1).toNat := by omega
          have ls := low_s m
          rw [e2]
          by_cases hb2 : 2 ^ (m - 1).toNat ≤ v % 2 ^ m.toNat
          · rw [if_pos hb2]
            have := dv 1 (.inr rfl)
            rw [Int.one_mul] at this
            rw [cast_win this (by rw [ls]; omega) (by rw [ls]; omega)]
            exact ⟨_, _, _, rfl⟩
          · rw [if_neg hb2]
            have := dv 0 (.inl rfl)
            rw [Int.zero_mul, Int.sub_zero] at this
            rw [cast_win this (by rw [ls]; omega) (by rw [ls]; omega)]
            exact ⟨_, _, _, rfl⟩
    · obtain ⟨y2, y3, y4, rfl⟩ := h
      refine hNX _ ?_
      rw [List.length_map, List.length_map, List.take_length]
      (try simp only [y_var, y_c, y_op, y_un, y_and, y_or, y_not, y_if, y_isN, y_notN, y_bOf, y_bTru, y_bNot, y_bYes, y_aNil, y_aCons, y_aStar, y_tup, y_disp, y_fz, y_cb, y_cat, y_of, y_sl, y_dO0, y_dO1, y_ixN, y_lenN, y_chain, y_call0, y_call, y_callR0, y_next, y_brk, y_cnt, y_asg, y_setO, y_gNm, y_gTp, y_gsNil, y_gsCons, y_subO, y_par, y_aug, y_expr, y_app, y_ext, y_ifS, y_ret, y_retN, y_for, y_while, y_iSeq, y_iTp, y_iR1, y_iR2, y_iEn, y_iZp, y_lc, y_raise, y_un1, y_call, Bool.true_eq_false, reduceCtorEq, decide_true, decide_false, ix2_0, ix2_1, ix3_0, ix3_1, ix3_2, LcRun, LpRun, wipeP, restP, noX, dite_true, List.nil_append, List.cons_append, Option.getD_some, Option.getD_none, y_repr, y_tupleL, y_tupleT, y_sum, y_all, y_any, y_eqD, y_neD, y_rev, y_dn, y_orT, y_notT, y_ins, y_bits, y_bAnd, y_bOr, y_rt0, y_rtR, y_nx0, y_rtX, y_nxX, y_exX, inV2, inV3, flatD, vOf, List.all_cons, List.all_nil, Bool.and_self, sz_iff, Nat.reduceAdd, Nat.reduceLeDiff, Nat.zero_add, y_dD, y_dB, y_dI, y_dL, y_dSl, y_dSt, y_dAll0, y_dAllS, dAll_map, y_I0, y_I, y_eqI, y_eqS, y_eqB, y_neI, y_neS, y_neB, y_neg, y_ixL, y_ixT, y_min, y_max, y_abs, y_lenL, y_lenT, y_lenS, y_lenB, y_truL, y_truT, y_inL, y_inT, y_ex1, y_exO, y_exR, at0, at1, at2, at3, isNon, List.getElem?_cons_succ, List.getElem?_cons_zero, List.set_cons_succ, List.set_cons_zero, List.length_cons, List.length_nil, List.map_cons, List.map_nil, true_and, and_true, decide_eq_true_eq, Bool.not_eq_true', Bool.not_true, Bool.not_false, if_true, if_false, Bool.false_eq_true, ite_true, ite_false])
      exact q
end

end Cc

set_option Elab.async false
set_option linter.all false
set_option maxRecDepth 100000
set_option maxHeartbeats 4000000
namespace Cc
open PySem PySem.Spec PyProof.Rows L2
abbrev s_law_narrow : Stmt := topS 24
theorem sc_law_narrow : FnScope ["pool", "steps_here", "casts", "at", "word", "amount"] ["pool", "steps_here"] (defScope s_law_narrow) := ⟨rfl, rfl, rfl, by decide +kernel, rfl, by decide +kernel, by decide +kernel⟩
abbrev s_law_other_way : Stmt := topS 25
theorem sc_law_other_way : FnScope ["pool", "steps_here", "found", "way", "at", "one", "word", "amount", "part", "wide", "half", "both"] ["pool", "steps_here"] (defScope s_law_other_way) := ⟨rfl, rfl, rfl, by decide +kernel, rfl, by decide +kernel, by decide +kernel⟩
abbrev s_law_changed : Stmt := topS 26
theorem sc_law_changed : FnScope ["pool", "steps_here", "found", "at", "word", "amount", "some"] ["pool", "steps_here"] (defScope s_law_changed) := ⟨rfl, rfl, rfl, by decide +kernel, rfl, by decide +kernel, by decide +kernel⟩
section
variable {Γ : Gx} {X : Cx} {W : WX} {e : Expr} {i : Nat}
def swT : TE := tDisp [(tC (.str "u"), tC (.str "s")), (tC (.str "s"), tC (.str "u"))]
def eSwap (i : Nat) : EE := fun ρ R _ => match ρ[i]? with
  | some (.a (.d (.str z))) => (z = "u" ∧ R (.d (.str "s")) ρ) ∨ (z = "s" ∧ R (.d (.str "u")) ρ)
  | _ => False
theorem de_swap (hpe : PE X e (tDGet swT (tVar i))) : DE Γ X W e (tDGet swT (tVar i)) (eSwap i) := by
  refine ⟨hpe, fun f F H σ ρ Q R Xx E q o ox => ?_⟩
  unfold eSwap at q
  split at q
  · rename_i z hx
    obtain ⟨u, hu, hr⟩ := E.sl i _ hx
    cases hr
    unfold tDGet swT tDisp
    intro p np
    let kvs : List (Key × V) := [(.inr "u", .str "s"), (.inr "s", .str "u")]
    have E1 := E.raw (o := .dK []) np
    have E2 := E1.poke (p := p) (o := .dK (mergeK [] kvs)) (E.fnone np) (.inl (E.liv _ np)) (E.notOwn np) (fun z => E.rl p z np)
    refine ⟨upd_same, kvs, rfl, by decide, _, hu, ?_⟩
    rcases q with ⟨rfl, q⟩ | ⟨rfl, q⟩
    · exact ⟨p, .str "s", rfl, DGet.k (k := .inr "u") upd_same, o _ _ _ _ _ q E2 (Same.refl _) (.str _)⟩
    · exact ⟨p, .str "u", rfl, DGet.k (k := .inr "s") upd_same, o _ _ _ _ _ q E2 (Same.refl _) (.str _)⟩
  · exact q.elim
theorem y_swap {ρ : List Sl} {R : Cc.A → List Sl → Prop} {Xx : XX} : eSwap i ρ R Xx ↔ match ρ[i]? with
  | some (.a (.d (.str z))) => (z = "u" ∧ R (.d (.str "s")) ρ) ∨ (z = "s" ∧ R (.d (.str "u")) ρ)
  | _ => False := Iff.rfl
end
section
variable {P : Program} {w : World} {K : PySem.W.Frag} {mg : Str → Option Value} {base : Heap} {C : Nat → Addr} {CS : Addr}
theorem conv_app (y : Int) (a b : Ch) : convI y (a ++ b) = convI (convI y a) b := by
  unfold convI
  rw [List.foldl_append]
theorem conv_cons (y : Int) (s : Str × Int) (c : Ch) : convI y (s :: c) = convI (stepI y s) c := rfl
/-- a chain of at most m steps, constants up to B, widths up to 64 -/
def chB (m : Nat) (B : Int) (c : Ch) : Prop := c.length ≤ m ∧ ∀ s ∈ c, okS s = true ∧ (if s.1 = "add" then -B ≤ s.2 ∧ s.2 ≤ B else s.2 ≤ 64)
def noC (c : Ch) : Prop := ∀ s ∈ c, s.1 = "add"
/-- no cast, or one of at most k bits -/
def smC (k : Int) (c : Ch) : Prop := noC c ∨ ∃ s ∈ c, ¬ s.1 = "add" ∧ s.2 ≤ k
theorem chB.up {m m' : Nat} {B B' : Int} {c : Ch} (h : chB m B c) (hm : m ≤ m') (hB : B ≤ B') : chB m' B' c := ⟨by have := h.1; omega, fun s hs => by
  obtain ⟨a, b⟩ := h.2 s hs
  refine ⟨a, ?_⟩
  by_cases e : s.1 = "add"
  · rw [if_pos e] at b ⊢
    omega
  · rw [if_neg e] at b ⊢
    exact b⟩
theorem ok_add {c : Int} : okS ("add", c) = true := by unfold okS; rfl
theorem ok_cast {x : Str} {n : Int} (hx : x = "u" ∨ x = "s") (hn : 1 ≤ n) : okS (x, n) = true ∧ ¬ x = "add" := by
  constructor
  · unfold okS isC
    rw [decide_eq_true (show (x, n).1 = "u" ∨ (x, n).1 = "s" from hx), decide_eq_true (show 1 ≤ (x, n).2 from hn)]
    simp
  · rcases hx with rfl | rfl <;> decide +kernel
theorem chB.app {m k : Nat} {B : Int} {c d : Ch} (h : chB m B c) (h' : chB k B d) : chB (m + k) B (c ++ d) := ⟨by rw [List.length_append]; have := h.1; have := h'.1; omega, fun s hs => by
  rcases List.mem_append.mp hs with hs | hs
  · exact h.2 s hs
  · exact h'.2 s hs⟩
theorem chB.sub {m k : Nat} {B : Int} {c d : Ch} (h : chB m B c) (hl : d.length ≤ k) (hs : ∀ s ∈ d, s ∈ c) : chB k B d := ⟨hl, fun s hd => h.2 s (hs s hd)⟩
theorem chB.one {B : Int} {s : Str × Int} (h : okS s = true ∧ (if s.1 = "add" then -B ≤ s.2 ∧ s.2 ≤ B else s.2 ≤ 64)) : chB 1 B [s] := ⟨Nat.le_refl _, fun t ht => by rw [List.mem_singleton.mp ht]; exact h⟩
theorem chB.bnd {m : Nat} {B : Int} {c : Ch} (h : chB m B c) (hm : m ≤ 900) : bndC c ∧ firstBad c = none := by
  refine ⟨⟨by have := h.1; omega, fun s hs => ?_⟩, ?_⟩
  · have b := (h.2 s hs).2
    by_cases e : s.1 = "add"
    · rw [if_pos e]; exact Int.le_refl _
    · rw [if_neg e] at b ⊢
      unfold big
      omega
  · unfold firstBad
    rw [List.findIdx?_eq_none_iff]
    intro s hs
    simp [(h.2 s hs).1]
theorem chB.okM {m : Nat} {B : Int} {c : Ch} (h : chB m B c) : ∀ s ∈ c, okM s := fun s hs => ⟨(h.2 s hs).1, fun e => by
  have b := (h.2 s hs).2
  rw [if_neg e] at b
  omega⟩
theorem cutD (c : Ch) (i : Int) (h0 : 0 ≤ i) : cutA (c.map stD) none (some i) = (c.take i.toNat).map stD ∧ cutA (c.map stD) (some i) none = (c.drop i.toNat).map stD := by
  have e : ((i.toNat : Nat) : Int) = i := Int.toNat_of_nonneg h0
  constructor
  · unfold cutA
    rw [HT.sIx_none, ← e, show HT.sIx (c.map stD).length (c.map stD).length (some ((i.toNat : Nat) : Int)) = min i.toNat (c.map stD).length from HT.sIx_nat _ _ _, Nat.sub_zero, List.drop_zero, e, List.length_map]
    by_cases h : i.toNat ≤ c.length
    · rw [Nat.min_eq_left h, List.map_take]
    · rw [Nat.min_eq_right (by omega), List.take_of_length_le (by rw [List.length_map]; exact Nat.le_refl _), List.take_of_length_le (by omega)]
  · unfold cutA
    rw [HT.sIx_none, ← e, show HT.sIx (c.map stD).length 0 (some ((i.toNat : Nat) : Int)) = min i.toNat (c.map stD).length from HT.sIx_nat _ _ _, e, List.length_map]
    by_cases h : i.toNat ≤ c.length
    · rw [Nat.min_eq_left h, List.take_of_length_le (by rw [List.length_drop, List.length_map]; exact Nat.le_refl _), List.map_drop]
    · rw [Nat.min_eq_right (by omega), List.drop_of_length_le (show c.length ≤ i.toNat by omega), List.drop_of_length_le (by rw [List.length_map]; exact Nat.le_refl _)]
      simp
theorem repl_ok {c mid : Ch} {m k : Nat} {B : Int} {v : Nat} (h : chB m B c) (h' : chB k B mid) (hv : v < c.length) : chB (m - 1 + k) B (c.take v ++ mid ++ c.drop (v + 1)) := by
  have hl := h.1
  have hk := h'.1
  refine ⟨by rw [List.length_append, List.length_append, List.length_take, List.length_drop]; omega, fun s hs => ?_⟩
  rcases List.mem_append.mp hs with hs | hs
  · rcases List.mem_append.mp hs with hs | hs
    · exact h.2 s (List.mem_of_mem_take hs)
    · exact h'.2 s hs
  · exact h.2 s (List.mem_of_mem_drop hs)
theorem put_ok {c mid : Ch} {m k : Nat} {B : Int} {v : Nat} (h : chB m B c) (h' : chB k B mid) : chB (m + k) B (c.take v ++ mid ++ c.drop v) := by
  have hl := h.1
  have hk := h'.1
  refine ⟨by rw [List.length_append, List.length_append, List.length_take, List.length_drop]; omega, fun s hs => ?_⟩
  rcases List.mem_append.mp hs with hs | hs
  · rcases List.mem_append.mp hs with hs | hs
    · exact h.2 s (List.mem_of_mem_take hs)
    · exact h'.2 s hs
  · exact h.2 s (List.mem_of_mem_drop hs)
theorem cat3 (a b d : Ch) : a.map stD ++ b.map stD ++ d.map stD = (a ++ b ++ d).map stD := by rw [List.map_append, List.map_append]
def castsOf (c : Ch) : List Int := (c.filter fun (s : Str × Int) => !decide (s.1 = "add")).map (·.2)
theorem casts_nil {c : Ch} (h : castsOf c = []) : noC c := fun s hs => by
  unfold castsOf at h
  have := List.filter_eq_nil_iff.mp (List.map_eq_nil_iff.mp h) s hs
  simpa using this
theorem casts_mem {c : Ch} {n : Int} : n ∈ castsOf c ↔ ∃ s ∈ c, ¬ s.1 = "add" ∧ s.2 = n := by
  unfold castsOf
  rw [List.mem_map]
  constructor
  · rintro ⟨s, hs, e⟩
    obtain ⟨a, b⟩ := List.mem_filter.mp hs
    exact ⟨s, a, by simpa using b, e⟩
  · rintro ⟨s, hs, a, e⟩
    exact ⟨s, List.mem_filter.mpr ⟨hs, by simpa using a⟩, e⟩
def phNar : Phi := fun n xs R _ => ∃ (c : Ch) (m : Nat) (B : Int), xs = [.d (chD c)] ∧ chB m B c ∧ m ≤ 40 ∧ n < 90000000 ∧ ∀ (c' : Ch) k, chB m B c' → smC 6 c' → k ≤ n + 3 → R (.d (chD c')) k
theorem q_nar (T : Tx K mg "_law_narrow" s_law_narrow) (m_min : mg "min" = none) (m_len : mg "len" = none) (h__law_draw : Pr P w K mg base CX0 1 "_law_draw" ["pool", "many"] (spP (poolG K C CS) true phDraw)) : Pr P w K mg base CX0 2 "_law_narrow" ["pool", "steps_here"] (spP (poolG K C CS) true phNar) := by
  refine mkPP (Γ := poolG K C CS) T sc_law_narrow (fun _ _ _ _ _ _ us hl => match us, hl with | [_, _], _ => rfl) (fun n xs R Xx h => ?_) (fun n xs R Xx h => h) (fun f cdv A outer s H E hG hr => ?_)
  · obtain ⟨_, _, _, rfl, _⟩ := h
    rfl
  · have nd := sc_law_narrow.nd
    refine ⟨_, _, (dss_cons (fun h h' => pss_cons h h') (ds_setLc (own := [("word", 4), ("amount", 5)]) (i := 2) rfl nd rfl rfl (sw_true rfl rfl rfl (by decide +kernel)) (di_list (fun h => pi_list h) (de_var (pv 1))) (blkOk_by (own := [("word", 4), ("amount", 5)]) (N := ["pool", "steps_here", "casts", "at", "word", "amount"]) (sc := defScope s_law_narrow) (by decide +kernel)) (fun _ _ _ _ _ => (dg_tup (n := 2) (fun h => pg_tup rfl h) (dgs_cons (fun g h => pgs_cons g h) (dg_name (pg_name (i := 4) nd rfl (.inl rfl))) (dgs_cons (fun g h => pgs_cons g h) (dg_name (pg_name (i := 5) nd rfl (.inl rfl))) (dgs_nil pgs_nil))))) (fun _ _ _ _ _ => (dts_one (dt_cmp opd_ne (fun h h' => pt_cmpR op_ne h h' (nomark _)) (de_var (pv 4)) (de_c pe_str (fun _ => .str _))))) (fun _ _ _ _ _ => (de_var (pv 5)))) (dss_cons (fun h h' => pss_cons h h') (ds_if (fun h a b => ps_if h a b) (dt_pw (fun h => PW.pt h) (dw_or (fun h h' => pw_or h h') (dt_cmp opd_eqD (fun h h' => pt_cmpR (op_eqD hr.units) h h' (nomark _)) (de_var (pv 2)) (de_fz (dl_disp (fun h => pe_lst h) (da_nil pa_nil)))) (dw_or1 (fun h => pw_or1 h) (dt_cmp opd_bl0 (fun h h' => pt_cmpR op_lt h h' (nomark _)) (de_cb cd_minL (fun h => pe_callB (cr_min rfl) (by rfl) m_min (by decide +kernel) h) (da_cons (fun h t => pa_cons h t) (de_var (pv 2)) (da_nil pa_nil))) (de_c pe_int (fun _ => .int _)))))) (dss_one (fun h => pss_one h) (ds_ret (fun h => ps_ret h) (de_var (pv 1)))) (dss_nil pss_nil)) (dss_cons (fun h h' => pss_cons h h') (ds_set (i := 3) (fun h => ps_set nd rfl (.inl rfl) h) (de_callR0 (i := 0) (fun h => pe_P h__law_draw hr hG (by rfl) (pa_cons (pv 0) h)) (da_cons (fun h t => pa_cons h t) (de_lenN (pe_callB call_len_seq (by rfl) m_len (by decide +kernel) (pa_cons (pv 1) pa_nil))) (da_nil pa_nil)))) (dss_one (fun h => pss_one h) (ds_ret (fun h => ps_ret h) (de_fz (dl_cat (fun h h' => pe_op op_cat h h') (de_fz (dl_cat (fun h h' => pe_op op_cat h h') (de_fz (dl_sl (fun h l u => pe_slice (slLK rfl) h l u) (de_var (pv 1)) (do_none po_none) (do_some (fun h => po_some h) (de_var (pv 3))))) (de_fz (dl_disp (fun h => pe_lst h) (da_cons (fun h t => pa_cons h t) (de_tup (fun h => pe_tup h) (da_cons (fun h t => pa_cons h t) (de_op opd_ix (fun h h' => pe_ix (ixSK rfl) h h' (fun _ _ => rfl)) (de_fz (dl_disp (fun h => pe_lst h) (da_cons (fun h t => pa_cons h t) (de_c pe_str (fun _ => .str _)) (da_cons (fun h t => pa_cons h t) (de_c pe_str (fun _ => .str _)) (da_nil pa_nil))))) (de_callR0 (i := 0) (fun h => pe_P h__law_draw hr hG (by rfl) (pa_cons (pv 0) h)) (da_cons (fun h t => pa_cons h t) (de_c pe_int (fun _ => .int _)) (da_nil pa_nil)))) (da_cons (fun h t => pa_cons h t) (de_op opd_int0 (fun h h' => pe_op op_add h h') (de_c pe_int (fun _ => .int _)) (de_callR0 (i := 0) (fun h => pe_P h__law_draw hr hG (by rfl) (pa_cons (pv 0) h)) (da_cons (fun h t => pa_cons h t) (de_c pe_int (fun _ => .int _)) (da_nil pa_nil)))) (da_nil pa_nil)))) (da_nil pa_nil)))))) (de_fz (dl_sl (fun h l u => pe_slice (slLK rfl) h l u) (de_var (pv 1)) (do_some (fun h => po_some h) (de_op opd_int0 (fun h h' => pe_op op_add h h') (de_var (pv 3)) (de_c pe_int (fun _ => .int _)))) (do_none po_none)))))))))), fun n xs R h => ?_⟩
    obtain ⟨c, m, B, rfl, hc, hm, hn, q⟩ := h
    rw [show chD c = .list (c.map stD) from rfl]
    have hl := hc.1
    show (sSeq _ _) [.rng n, .a (.d (.list (c.map stD))), .un, .un, .un, .un] _
    refine y_cut fun NX hNX => ?_
    (try simp only [y_var, y_c, y_op, y_un, y_and, y_or, y_not, y_if, y_isN, y_notN, y_bOf, y_bTru, y_bNot, y_bYes, y_aNil, y_aCons, y_aStar, y_tup, y_disp, y_fz, y_cb, y_cat, y_of, y_sl, y_dO0, y_dO1, y_ixN, y_lenN, y_chain, y_call0, y_call, y_callR0, y_next, y_brk, y_cnt, y_asg, y_setO, y_gNm, y_gTp, y_gsNil, y_gsCons, y_subO, y_par, y_aug, y_expr, y_app, y_ext, y_ifS, y_ret, y_retN, y_for, y_while, y_iSeq, y_iTp, y_iR1, y_iR2, y_iEn, y_iZp, y_lc, y_raise, y_un1, y_minL, y_swap, y_cmpO, y_call, Bool.true_eq_false, reduceCtorEq, decide_true, decide_false, ix2_0, ix2_1, ix3_0, ix3_1, ix3_2, LcRun, LpRun, wipeP, restP, noX, dite_true, List.nil_append, List.cons_append, Option.getD_some, Option.getD_none, y_repr, y_tupleL, y_tupleT, y_sum, y_all, y_any, y_eqD, y_neD, y_rev, y_dn, y_orT, y_notT, y_ins, y_bits, y_bAnd, y_bOr, y_rt0, y_rtR, y_nx0, y_rtX, y_nxX, y_exX, inV2, inV3, flatD, vOf, List.all_cons, List.all_nil, Bool.and_self, sz_iff, Nat.reduceAdd, Nat.reduceLeDiff, Nat.zero_add, y_dD, y_dB, y_dI, y_dL, y_dSl, y_dSt, y_dAll0, y_dAllS, dAll_map, y_I0, y_I, y_eqI, y_eqS, y_eqB, y_neI, y_neS, y_neB, y_neg, y_ixL, y_ixT, y_min, y_max, y_abs, y_lenL, y_lenT, y_lenS, y_lenB, y_truL, y_truT, y_inL, y_inT, y_ex1, y_exO, y_exR, at0, at1, at2, at3, isNon, List.getElem?_cons_succ, List.getElem?_cons_zero, List.set_cons_succ, List.set_cons_zero, List.length_cons, List.length_nil, List.map_cons, List.map_nil, true_and, and_true, decide_eq_true_eq, Bool.not_eq_true', Bool.not_true, Bool.not_false, if_true, if_false, Bool.false_eq_true, ite_true, ite_false])
    rw [List.map_map]
    refine compF (xs := c) (enc := Cc.A.d ∘ stD) (fun s => if s.1 = "add" then none else some (.int s.2)) (fun v hv => by simp only [List.mem_cons, List.not_mem_nil, or_false] at hv; first | (subst hv; exact trivial) | (rcases hv with rfl | rfl <;> exact trivial) | (rcases hv with rfl | rfl | rfl <;> exact trivial)) (by rw [sizeLine_eq]; omega) (fun p hp acc KK hz hK => ?_) ?_
    · simp only [Function.comp_apply]
      unfold stD
      (try simp only [y_var, y_c, y_op, y_un, y_and, y_or, y_not, y_if, y_isN, y_notN, y_bOf, y_bTru, y_bNot, y_bYes, y_aNil, y_aCons, y_aStar, y_tup, y_disp, y_fz, y_cb, y_cat, y_of, y_sl, y_dO0, y_dO1, y_ixN, y_lenN, y_chain, y_call0, y_call, y_callR0, y_next, y_brk, y_cnt, y_asg, y_setO, y_gNm, y_gTp, y_gsNil, y_gsCons, y_subO, y_par, y_aug, y_expr, y_app, y_ext, y_ifS, y_ret, y_retN, y_for, y_while, y_iSeq, y_iTp, y_iR1, y_iR2, y_iEn, y_iZp, y_lc, y_raise, y_un1, y_minL, y_swap, y_cmpO, y_call, Bool.true_eq_false, reduceCtorEq, decide_true, decide_false, ix2_0, ix2_1, ix3_0, ix3_1, ix3_2, LcRun, LpRun, wipeP, restP, noX, dite_true, List.nil_append, List.cons_append, Option.getD_some, Option.getD_none, y_repr, y_tupleL, y_tupleT, y_sum, y_all, y_any, y_eqD, y_neD, y_rev, y_dn, y_orT, y_notT, y_ins, y_bits, y_bAnd, y_bOr, y_rt0, y_rtR, y_nx0, y_rtX, y_nxX, y_exX, inV2, inV3, flatD, vOf, List.all_cons, List.all_nil, Bool.and_self, sz_iff, Nat.reduceAdd, Nat.reduceLeDiff, Nat.zero_add, y_dD, y_dB, y_dI, y_dL, y_dSl, y_dSt, y_dAll0, y_dAllS, dAll_map, y_I0, y_I, y_eqI, y_eqS, y_eqB, y_neI, y_neS, y_neB, y_neg, y_ixL, y_ixT, y_min, y_max, y_abs, y_lenL, y_lenT, y_lenS, y_lenB, y_truL, y_truT, y_inL, y_inT, y_ex1, y_exO, y_exR, at0, at1, at2, at3, isNon, List.getElem?_cons_succ, List.getElem?_cons_zero, List.set_cons_succ, List.set_cons_zero, List.length_cons, List.length_nil, List.map_cons, List.map_nil, true_and, and_true, decide_eq_true_eq, Bool.not_eq_true', Bool.not_true, Bool.not_false, if_true, if_false, Bool.false_eq_true, ite_true, ite_false])
      by_cases e : p.1 = "add"
      · rw [if_pos e] at hK
        rw [decide_eq_true e]
        exact hK
      · rw [if_neg e] at hK
        rw [decide_eq_false e]
        exact ⟨hz, hK⟩
    · (try simp only [y_var, y_c, y_op, y_un, y_and, y_or, y_not, y_if, y_isN, y_notN, y_bOf, y_bTru, y_bNot, y_bYes, y_aNil, y_aCons, y_aStar, y_tup, y_disp, y_fz, y_cb, y_cat, y_of, y_sl, y_dO0, y_dO1, y_ixN, y_lenN, y_chain, y_call0, y_call, y_callR0, y_next, y_brk, y_cnt, y_asg, y_setO, y_gNm, y_gTp, y_gsNil, y_gsCons, y_subO, y_par, y_aug, y_expr, y_app, y_ext, y_ifS, y_ret, y_retN, y_for, y_while, y_iSeq, y_iTp, y_iR1, y_iR2, y_iEn, y_iZp, y_lc, y_raise, y_un1, y_minL, y_swap, y_cmpO, y_call, Bool.true_eq_false, reduceCtorEq, decide_true, decide_false, ix2_0, ix2_1, ix3_0, ix3_1, ix3_2, LcRun, LpRun, wipeP, restP, noX, dite_true, List.nil_append, List.cons_append, Option.getD_some, Option.getD_none, y_repr, y_tupleL, y_tupleT, y_sum, y_all, y_any, y_eqD, y_neD, y_rev, y_dn, y_orT, y_notT, y_ins, y_bits, y_bAnd, y_bOr, y_rt0, y_rtR, y_nx0, y_rtX, y_nxX, y_exX, inV2, inV3, flatD, vOf, List.all_cons, List.all_nil, Bool.and_self, sz_iff, Nat.reduceAdd, Nat.reduceLeDiff, Nat.zero_add, y_dD, y_dB, y_dI, y_dL, y_dSl, y_dSt, y_dAll0, y_dAllS, dAll_map, y_I0, y_I, y_eqI, y_eqS, y_eqB, y_neI, y_neS, y_neB, y_neg, y_ixL, y_ixT, y_min, y_max, y_abs, y_lenL, y_lenT, y_lenS, y_lenB, y_truL, y_truT, y_inL, y_inT, y_ex1, y_exO, y_exR, at0, at1, at2, at3, isNon, List.getElem?_cons_succ, List.getElem?_cons_zero, List.set_cons_succ, List.set_cons_zero, List.length_cons, List.length_nil, List.map_cons, List.map_nil, true_and, and_true, decide_eq_true_eq, Bool.not_eq_true', Bool.not_true, Bool.not_false, if_true, if_false, Bool.false_eq_true, ite_true, ite_false])
      refine hNX _ ?_
      clear hNX NX
      have eC : c.filterMap (fun (s : Str × Int) => if s.1 = "add" then none else some (PyData.int s.2)) = (castsOf c).map PyData.int := by
        unfold castsOf
        clear hl hc q
        induction c with
        | nil => rfl
        | cons s c ih =>
          rw [List.filterMap_cons, List.filter_cons]
          by_cases e : s.1 = "add"
          · rw [if_pos e, decide_eq_true e, if_neg (by decide)]
            exact ih
          · rw [if_neg e, decide_eq_false e, if_pos (by decide), List.map_cons, List.map_cons]
            show _ :: _ = _
            rw [ih]
      rw [eC]
      refine y_cut fun NX hNX => ?_
      (try simp only [y_var, y_c, y_op, y_un, y_and, y_or, y_not, y_if, y_isN, y_notN, y_bOf, y_bTru, y_bNot, y_bYes, y_aNil, y_aCons, y_aStar, y_tup, y_disp, y_fz, y_cb, y_cat, y_of, y_sl, y_dO0, y_dO1, y_ixN, y_lenN, y_chain, y_call0, y_call, y_callR0, y_next, y_brk, y_cnt, y_asg, y_setO, y_gNm, y_gTp, y_gsNil, y_gsCons, y_subO, y_par, y_aug, y_expr, y_app, y_ext, y_ifS, y_ret, y_retN, y_for, y_while, y_iSeq, y_iTp, y_iR1, y_iR2, y_iEn, y_iZp, y_lc, y_raise, y_un1, y_minL, y_swap, y_cmpO, y_call, Bool.true_eq_false, reduceCtorEq, decide_true, decide_false, ix2_0, ix2_1, ix3_0, ix3_1, ix3_2, LcRun, LpRun, wipeP, restP, noX, dite_true, List.nil_append, List.cons_append, Option.getD_some, Option.getD_none, y_repr, y_tupleL, y_tupleT, y_sum, y_all, y_any, y_eqD, y_neD, y_rev, y_dn, y_orT, y_notT, y_ins, y_bits, y_bAnd, y_bOr, y_rt0, y_rtR, y_nx0, y_rtX, y_nxX, y_exX, inV2, inV3, flatD, vOf, List.all_cons, List.all_nil, Bool.and_self, sz_iff, Nat.reduceAdd, Nat.reduceLeDiff, Nat.zero_add, y_dD, y_dB, y_dI, y_dL, y_dSl, y_dSt, y_dAll0, y_dAllS, dAll_map, y_I0, y_I, y_eqI, y_eqS, y_eqB, y_neI, y_neS, y_neB, y_neg, y_ixL, y_ixT, y_min, y_max, y_abs, y_lenL, y_lenT, y_lenS, y_lenB, y_truL, y_truT, y_inL, y_inT, y_ex1, y_exO, y_exR, at0, at1, at2, at3, isNon, List.getElem?_cons_succ, List.getElem?_cons_zero, List.set_cons_succ, List.set_cons_zero, List.length_cons, List.length_nil, List.map_cons, List.map_nil, true_and, and_true, decide_eq_true_eq, Bool.not_eq_true', Bool.not_true, Bool.not_false, if_true, if_false, Bool.false_eq_true, ite_true, ite_false])
      refine ⟨shL0 _, shE, ?_⟩
      rw [eqvL0]
      have q := fun c' k => q c' k
      cases he : (castsOf c).isEmpty with
      | true =>
        rw [if_pos rfl]
        exact q c n hc (.inl (casts_nil (List.isEmpty_iff.mp he))) (by omega)
      | false =>
        rw [if_neg (by decide)]
        have hpos : 0 < (castsOf c).length := by
          cases hh : castsOf c with
          | nil => rw [hh] at he; cases he
          | cons => rw [List.length_cons]; omega
        refine ⟨_, rfl, hpos, fun mn hmn hle => ?_⟩
        (try simp only [y_var, y_c, y_op, y_un, y_and, y_or, y_not, y_if, y_isN, y_notN, y_bOf, y_bTru, y_bNot, y_bYes, y_aNil, y_aCons, y_aStar, y_tup, y_disp, y_fz, y_cb, y_cat, y_of, y_sl, y_dO0, y_dO1, y_ixN, y_lenN, y_chain, y_call0, y_call, y_callR0, y_next, y_brk, y_cnt, y_asg, y_setO, y_gNm, y_gTp, y_gsNil, y_gsCons, y_subO, y_par, y_aug, y_expr, y_app, y_ext, y_ifS, y_ret, y_retN, y_for, y_while, y_iSeq, y_iTp, y_iR1, y_iR2, y_iEn, y_iZp, y_lc, y_raise, y_un1, y_minL, y_swap, y_cmpO, y_call, Bool.true_eq_false, reduceCtorEq, decide_true, decide_false, ix2_0, ix2_1, ix3_0, ix3_1, ix3_2, LcRun, LpRun, wipeP, restP, noX, dite_true, List.nil_append, List.cons_append, Option.getD_some, Option.getD_none, y_repr, y_tupleL, y_tupleT, y_sum, y_all, y_any, y_eqD, y_neD, y_rev, y_dn, y_orT, y_notT, y_ins, y_bits, y_bAnd, y_bOr, y_rt0, y_rtR, y_nx0, y_rtX, y_nxX, y_exX, inV2, inV3, flatD, vOf, List.all_cons, List.all_nil, Bool.and_self, sz_iff, Nat.reduceAdd, Nat.reduceLeDiff, Nat.zero_add, y_dD, y_dB, y_dI, y_dL, y_dSl, y_dSt, y_dAll0, y_dAllS, dAll_map, y_I0, y_I, y_eqI, y_eqS, y_eqB, y_neI, y_neS, y_neB, y_neg, y_ixL, y_ixT, y_min, y_max, y_abs, y_lenL, y_lenT, y_lenS, y_lenB, y_truL, y_truT, y_inL, y_inT, y_ex1, y_exO, y_exR, at0, at1, at2, at3, isNon, List.getElem?_cons_succ, List.getElem?_cons_zero, List.set_cons_succ, List.set_cons_zero, List.length_cons, List.length_nil, List.map_cons, List.map_nil, true_and, and_true, decide_eq_true_eq, Bool.not_eq_true', Bool.not_true, Bool.not_false, if_true, if_false, Bool.false_eq_true, ite_true, ite_false])
        obtain ⟨s0, hs0, s1, s2⟩ := casts_mem.mp hmn
        by_cases h7 : mn < 7
        · rw [if_pos h7]
          exact q c n hc (.inr ⟨s0, hs0, s1, by omega⟩) (by omega)
        · rw [if_neg h7]
          refine hNX _ ?_
          clear hNX NX
          have hcp : 1 ≤ c.length := List.length_pos_iff.mpr (fun z => by rw [z] at hs0; cases hs0)
          refine y_cut fun NX hNX => ?_
          (try simp only [y_var, y_c, y_op, y_un, y_and, y_or, y_not, y_if, y_isN, y_notN, y_bOf, y_bTru, y_bNot, y_bYes, y_aNil, y_aCons, y_aStar, y_tup, y_disp, y_fz, y_cb, y_cat, y_of, y_sl, y_dO0, y_dO1, y_ixN, y_lenN, y_chain, y_call0, y_call, y_callR0, y_next, y_brk, y_cnt, y_asg, y_setO, y_gNm, y_gTp, y_gsNil, y_gsCons, y_subO, y_par, y_aug, y_expr, y_app, y_ext, y_ifS, y_ret, y_retN, y_for, y_while, y_iSeq, y_iTp, y_iR1, y_iR2, y_iEn, y_iZp, y_lc, y_raise, y_un1, y_minL, y_swap, y_cmpO, y_call, Bool.true_eq_false, reduceCtorEq, decide_true, decide_false, ix2_0, ix2_1, ix3_0, ix3_1, ix3_2, LcRun, LpRun, wipeP, restP, noX, dite_true, List.nil_append, List.cons_append, Option.getD_some, Option.getD_none, y_repr, y_tupleL, y_tupleT, y_sum, y_all, y_any, y_eqD, y_neD, y_rev, y_dn, y_orT, y_notT, y_ins, y_bits, y_bAnd, y_bOr, y_rt0, y_rtR, y_nx0, y_rtX, y_nxX, y_exX, inV2, inV3, flatD, vOf, List.all_cons, List.all_nil, Bool.and_self, sz_iff, Nat.reduceAdd, Nat.reduceLeDiff, Nat.zero_add, y_dD, y_dB, y_dI, y_dL, y_dSl, y_dSt, y_dAll0, y_dAllS, dAll_map, y_I0, y_I, y_eqI, y_eqS, y_eqB, y_neI, y_neS, y_neB, y_neg, y_ixL, y_ixT, y_min, y_max, y_abs, y_lenL, y_lenT, y_lenS, y_lenB, y_truL, y_truT, y_inL, y_inT, y_ex1, y_exO, y_exR, at0, at1, at2, at3, isNon, List.getElem?_cons_succ, List.getElem?_cons_zero, List.set_cons_succ, List.set_cons_zero, List.length_cons, List.length_nil, List.map_cons, List.map_nil, true_and, and_true, decide_eq_true_eq, Bool.not_eq_true', Bool.not_true, Bool.not_false, if_true, if_false, Bool.false_eq_true, ite_true, ite_false])
          refine ⟨_, rfl, by omega, by rw [List.length_map]; omega, Int.lt_of_le_of_lt (show _ ≤ (50 : Int) by rw [List.length_map]; omega) (by decide +kernel), fun v v0 v1 => hNX _ ?_⟩
          rw [List.length_map] at v1
          clear hNX NX
          (try simp only [y_var, y_c, y_op, y_un, y_and, y_or, y_not, y_if, y_isN, y_notN, y_bOf, y_bTru, y_bNot, y_bYes, y_aNil, y_aCons, y_aStar, y_tup, y_disp, y_fz, y_cb, y_cat, y_of, y_sl, y_dO0, y_dO1, y_ixN, y_lenN, y_chain, y_call0, y_call, y_callR0, y_next, y_brk, y_cnt, y_asg, y_setO, y_gNm, y_gTp, y_gsNil, y_gsCons, y_subO, y_par, y_aug, y_expr, y_app, y_ext, y_ifS, y_ret, y_retN, y_for, y_while, y_iSeq, y_iTp, y_iR1, y_iR2, y_iEn, y_iZp, y_lc, y_raise, y_un1, y_minL, y_swap, y_cmpO, y_call, Bool.true_eq_false, reduceCtorEq, decide_true, decide_false, ix2_0, ix2_1, ix3_0, ix3_1, ix3_2, LcRun, LpRun, wipeP, restP, noX, dite_true, List.nil_append, List.cons_append, Option.getD_some, Option.getD_none, y_repr, y_tupleL, y_tupleT, y_sum, y_all, y_any, y_eqD, y_neD, y_rev, y_dn, y_orT, y_notT, y_ins, y_bits, y_bAnd, y_bOr, y_rt0, y_rtR, y_nx0, y_rtX, y_nxX, y_exX, inV2, inV3, flatD, vOf, List.all_cons, List.all_nil, Bool.and_self, sz_iff, Nat.reduceAdd, Nat.reduceLeDiff, Nat.zero_add, y_dD, y_dB, y_dI, y_dL, y_dSl, y_dSt, y_dAll0, y_dAllS, dAll_map, y_I0, y_I, y_eqI, y_eqS, y_eqB, y_neI, y_neS, y_neB, y_neg, y_ixL, y_ixT, y_min, y_max, y_abs, y_lenL, y_lenT, y_lenS, y_lenB, y_truL, y_truT, y_inL, y_inT, y_ex1, y_exO, y_exR, at0, at1, at2, at3, isNon, List.getElem?_cons_succ, List.getElem?_cons_zero, List.set_cons_succ, List.set_cons_zero, List.length_cons, List.length_nil, List.map_cons, List.map_nil, true_and, and_true, decide_eq_true_eq, Bool.not_eq_true', Bool.not_true, Bool.not_false, if_true, if_false, Bool.false_eq_true, ite_true, ite_false])
          refine ⟨2, rfl, by omega, by omega, by decide, fun e e0 e1 => ?_⟩
          (try simp only [y_var, y_c, y_op, y_un, y_and, y_or, y_not, y_if, y_isN, y_notN, y_bOf, y_bTru, y_bNot, y_bYes, y_aNil, y_aCons, y_aStar, y_tup, y_disp, y_fz, y_cb, y_cat, y_of, y_sl, y_dO0, y_dO1, y_ixN, y_lenN, y_chain, y_call0, y_call, y_callR0, y_next, y_brk, y_cnt, y_asg, y_setO, y_gNm, y_gTp, y_gsNil, y_gsCons, y_subO, y_par, y_aug, y_expr, y_app, y_ext, y_ifS, y_ret, y_retN, y_for, y_while, y_iSeq, y_iTp, y_iR1, y_iR2, y_iEn, y_iZp, y_lc, y_raise, y_un1, y_minL, y_swap, y_cmpO, y_call, Bool.true_eq_false, reduceCtorEq, decide_true, decide_false, ix2_0, ix2_1, ix3_0, ix3_1, ix3_2, LcRun, LpRun, wipeP, restP, noX, dite_true, List.nil_append, List.cons_append, Option.getD_some, Option.getD_none, y_repr, y_tupleL, y_tupleT, y_sum, y_all, y_any, y_eqD, y_neD, y_rev, y_dn, y_orT, y_notT, y_ins, y_bits, y_bAnd, y_bOr, y_rt0, y_rtR, y_nx0, y_rtX, y_nxX, y_exX, inV2, inV3, flatD, vOf, List.all_cons, List.all_nil, Bool.and_self, sz_iff, Nat.reduceAdd, Nat.reduceLeDiff, Nat.zero_add, y_dD, y_dB, y_dI, y_dL, y_dSl, y_dSt, y_dAll0, y_dAllS, dAll_map, y_I0, y_I, y_eqI, y_eqS, y_eqB, y_neI, y_neS, y_neB, y_neg, y_ixL, y_ixT, y_min, y_max, y_abs, y_lenL, y_lenT, y_lenS, y_lenB, y_truL, y_truT, y_inL, y_inT, y_ex1, y_exO, y_exR, at0, at1, at2, at3, isNon, List.getElem?_cons_succ, List.getElem?_cons_zero, List.set_cons_succ, List.set_cons_zero, List.length_cons, List.length_nil, List.map_cons, List.map_nil, true_and, and_true, decide_eq_true_eq, Bool.not_eq_true', Bool.not_true, Bool.not_false, if_true, if_false, Bool.false_eq_true, ite_true, ite_false])
          obtain ⟨x, hx, ox⟩ : ∃ x, atI [PyData.str (Str.ofString "u"), .str (Str.ofString "s")] e = some (.str x) ∧ (x = "u" ∨ x = "s") := by
            rcases (show e = 0 ∨ e = 1 by omega) with rfl | rfl
            · exact ⟨_, at0, .inl rfl⟩
            · exact ⟨_, at1, .inr rfl⟩
          refine ⟨_, hx, 6, rfl, by omega, by omega, by decide, fun d d0 d1 => ?_⟩
          (try simp only [y_var, y_c, y_op, y_un, y_and, y_or, y_not, y_if, y_isN, y_notN, y_bOf, y_bTru, y_bNot, y_bYes, y_aNil, y_aCons, y_aStar, y_tup, y_disp, y_fz, y_cb, y_cat, y_of, y_sl, y_dO0, y_dO1, y_ixN, y_lenN, y_chain, y_call0, y_call, y_callR0, y_next, y_brk, y_cnt, y_asg, y_setO, y_gNm, y_gTp, y_gsNil, y_gsCons, y_subO, y_par, y_aug, y_expr, y_app, y_ext, y_ifS, y_ret, y_retN, y_for, y_while, y_iSeq, y_iTp, y_iR1, y_iR2, y_iEn, y_iZp, y_lc, y_raise, y_un1, y_minL, y_swap, y_cmpO, y_call, Bool.true_eq_false, reduceCtorEq, decide_true, decide_false, ix2_0, ix2_1, ix3_0, ix3_1, ix3_2, LcRun, LpRun, wipeP, restP, noX, dite_true, List.nil_append, List.cons_append, Option.getD_some, Option.getD_none, y_repr, y_tupleL, y_tupleT, y_sum, y_all, y_any, y_eqD, y_neD, y_rev, y_dn, y_orT, y_notT, y_ins, y_bits, y_bAnd, y_bOr, y_rt0, y_rtR, y_nx0, y_rtX, y_nxX, y_exX, inV2, inV3, flatD, vOf, List.all_cons, List.all_nil, Bool.and_self, sz_iff, Nat.reduceAdd, Nat.reduceLeDiff, Nat.zero_add, y_dD, y_dB, y_dI, y_dL, y_dSl, y_dSt, y_dAll0, y_dAllS, dAll_map, y_I0, y_I, y_eqI, y_eqS, y_eqB, y_neI, y_neS, y_neB, y_neg, y_ixL, y_ixT, y_min, y_max, y_abs, y_lenL, y_lenT, y_lenS, y_lenB, y_truL, y_truT, y_inL, y_inT, y_ex1, y_exO, y_exR, at0, at1, at2, at3, isNon, List.getElem?_cons_succ, List.getElem?_cons_zero, List.set_cons_succ, List.set_cons_zero, List.length_cons, List.length_nil, List.map_cons, List.map_nil, true_and, and_true, decide_eq_true_eq, Bool.not_eq_true', Bool.not_true, Bool.not_false, if_true, if_false, Bool.false_eq_true, ite_true, ite_false])
          obtain ⟨k1, _⟩ := cutD c v v0
          obtain ⟨_, k2⟩ := cutD c (v + 1) (by omega)
          have e3 : (v + 1).toNat = v.toNat + 1 := by omega
          rw [k1, k2, e3]
          obtain ⟨oc, na⟩ := ok_cast ox (show 1 ≤ 1 + d by omega)
          have h1 : chB 1 B [(x, 1 + d)] := chB.one ⟨oc, by rw [if_neg na]; show 1 + d ≤ 64; omega⟩
          have h2 := (repl_ok hc h1 (v := v.toNat) (by omega)).up (m' := m) (by omega) (Int.le_refl _)
          refine ⟨szS (m := 100) (by rw [List.length_map, List.length_take]; omega) (by decide), szS (m := 100) (by rw [List.length_append, List.length_map, List.length_map, List.length_take, List.length_drop, List.length_singleton]; omega) (by decide), ?_⟩
          have := q _ (n + 3) h2 (.inr ⟨(x, 1 + d), by simp, na, by show 1 + d ≤ 6; omega⟩) (Nat.le_refl _)
          rw [show chD (c.take v.toNat ++ [(x, 1 + d)] ++ c.drop (v.toNat + 1)) = .list ((c.take v.toNat ++ [(x, 1 + d)] ++ c.drop (v.toNat + 1)).map stD) from rfl, ← cat3] at this
          exact this
theorem sw_of {x : Str} (hx : x = "u" ∨ x = "s") : ∃ y : Str, (y = "u" ∨ y = "s") ∧ ((x = "u" ∧ y = "s") ∨ (x = "s" ∧ y = "u")) := by
  rcases hx with rfl | rfl
  · exact ⟨"s", .inr rfl, .inl ⟨rfl, rfl⟩⟩
  · exact ⟨"u", .inl rfl, .inr ⟨rfl, rfl⟩⟩
/-- a part of a chain is exchanged for one that does the same -/
theorem conv_mid {a b d mid : Ch} (h : ∀ y, convI y mid = convI y b) (y : Int) : convI y (a ++ mid ++ d) = convI y (a ++ b ++ d) := by
  rw [conv_app, conv_app, conv_app, conv_app, h]
def hasC (k : Int) (c : Ch) : Prop := ∃ s ∈ c, ¬ s.1 = "add" ∧ s.2 ≤ k
theorem sm_mid {a b d mid : Ch} (h : ∀ k, hasC k b → hasC k mid) (h0 : noC b → noC mid) {k : Int} (hs : smC k (a ++ b ++ d)) : smC k (a ++ mid ++ d) := by
  rcases hs with hs | ⟨s, hm, h1, h2⟩
  · refine .inl fun s hm => ?_
    rcases List.mem_append.mp hm with hm | hm
    · rcases List.mem_append.mp hm with hm | hm
      · exact hs s (by simp [hm])
      · exact h0 (fun t ht => hs t (by simp [ht])) s hm
    · exact hs s (by simp [hm])
  · rcases List.mem_append.mp hm with hm | hm
    · rcases List.mem_append.mp hm with hm | hm
      · exact .inr ⟨s, by simp [hm], h1, h2⟩
      · obtain ⟨t, ht, t1, t2⟩ := h k ⟨s, hm, h1, h2⟩
        exact .inr ⟨t, by simp [ht], t1, t2⟩
    · exact .inr ⟨s, by simp [hm], h1, h2⟩
theorem noC_nil : noC [] := fun s hs => nomatch hs
theorem noC_add {c : Int} : noC [("add", c)] := fun s hs => by rw [List.mem_singleton.mp hs]
theorem noC_add2 {c d : Int} : noC [("add", c), ("add", d)] := fun s hs => by
  rcases List.mem_cons.mp hs with rfl | hs
  · rfl
  · rw [List.mem_singleton.mp hs]
theorem hasC_no {k : Int} {c : Ch} (h : noC c) : ¬ hasC k c := fun ⟨s, hs, h1, _⟩ => h1 (h s hs)
theorem noC_cast {x : Str} {n : Int} (hx : ¬ x = "add") : ¬ noC [(x, n)] := fun h => hx (h (x, n) (by simp))
theorem take1 {c : Ch} {v : Nat} {s : Str × Int} (h : c[v]? = some s) : c = c.take v ++ [s] ++ c.drop (v + 1) := by
  have hi := (List.getElem?_eq_some_iff.mp h).1
  rw [show c.take v ++ [s] = c.take (v + 1) by rw [List.take_add_one, h]; rfl, List.take_append_drop]
theorem two_ways {n : Int} (n1 : 1 ≤ n) : (∀ y, convI y [("add", 2 ^ (n - 1).toNat), ("u", n), ("add", 0 - 2 ^ (n - 1).toNat)] = convI y [("s", n)]) ∧ ∀ y, convI y [("add", 0 - 2 ^ (n - 1).toNat), ("s", n), ("add", 2 ^ (n - 1).toNat)] = convI y [("u", n)] := by
  have na : ∀ z : Str, z = "u" ∨ z = "s" → ¬ z = "add" := fun z hz => (ok_cast (n := 1) hz (by omega)).2
  constructor
  · intro y
    show stepI (stepI (stepI y ("add", _)) ("u", n)) ("add", _) = stepI y ("s", n)
    unfold stepI
    rw [if_pos rfl, if_neg (na _ (.inl rfl)), if_pos rfl, if_neg (na _ (.inr rfl))]
    show castI (y + 2 ^ (n - 1).toNat) "u" n + (0 - 2 ^ (n - 1).toNat) = castI y "s" n
    rw [cast_u]
    unfold castI
    rw [low_s, Int.sub_neg]
    omega
  · intro y
    show stepI (stepI (stepI y ("add", _)) ("s", n)) ("add", _) = stepI y ("u", n)
    unfold stepI
    rw [if_pos rfl, if_neg (na _ (.inr rfl)), if_pos rfl, if_neg (na _ (.inl rfl))]
    show castI (y + (0 - 2 ^ (n - 1).toNat)) "s" n + 2 ^ (n - 1).toNat = castI y "u" n
    rw [cast_u]
    unfold castI
    rw [low_s, Int.sub_neg, show y + (0 - 2 ^ (n - 1).toNat) + 2 ^ (n - 1).toNat = y by omega]
    omega
theorem ok_w {s : Str × Int} (h : okS s = true) : PyData.strOk s.1 = true := by
  obtain ⟨x, n⟩ := s
  by_cases hx : x = "add"
  · rw [show (x, n).1 = "add" from hx]; decide +kernel
  · rcases (okS_w h hx).1 with e | e <;> rw [show (x, n).1 = _ from e] <;> decide +kernel
theorem ch_lay : ∀ {c : Ch}, (∀ s ∈ c, okS s = true) → PyData.canLayAll0 (c.map stD) = true ∧ PyData.depthAll (c.map stD) ≤ 1
  | [], _ => ⟨rfl, by simp [PyData.depthAll]⟩
  | p :: c, h => by
    have h1 := ok_w (h p (List.mem_cons_self ..))
    obtain ⟨h2, h3⟩ := ch_lay (c := c) fun q hq => h q (List.mem_cons_of_mem _ hq)
    rw [List.map_cons]
    constructor
    · simp [PyData.canLayAll0, PyData.canLay0, stD, h1, h2]
    · simp only [PyData.depthAll, PyData.depth, stD]
      omega
theorem ch_sh {c : Ch} (h : ∀ s ∈ c, okS s = true) : SeqAt.shaped (.list (c.map stD)) = true := by
  obtain ⟨h1, h2⟩ := ch_lay h
  unfold SeqAt.shaped
  simp only [PyData.canLay0, PyData.depth, h1]
  simp
  omega
theorem chB.sh {m : Nat} {B : Int} {c : Ch} (h : chB m B c) : SeqAt.shaped (.list (c.map stD)) = true := ch_sh fun s hs => (h.2 s hs).1
theorem ch_ne {c : Ch} : (PyData.list (c.map stD)).eqv (.list []) = c.isEmpty := by
  cases c with
  | nil => rfl
  | cons p c => rfl
end

end Cc

set_option Elab.async false
set_option linter.all false
set_option maxRecDepth 100000
set_option maxHeartbeats 4000000
namespace Cc
open PySem PySem.Spec PyProof.Rows L2
section
variable {P : Program} {w : World} {K : PySem.W.Frag} {mg : Str → Option Value} {base : Heap} {C : Nat → Addr} {CS : Addr}
def phOth : Phi := fun n xs R _ => ∃ (c : Ch) (m : Nat) (B : Int), xs = [.d (chD c)] ∧ chB m B c ∧ m ≤ 40 ∧ 10 ^ 30 ≤ B ∧ n < 80000000 ∧ ∀ (c' : Ch) k, chB (m + 2) (B + 10 ^ 30) c' → (∀ y, convI y c' = convI y c) → (∀ k, smC k c → smC k c') → k ≤ n + 12 → R (.d (chD c')) k
theorem ite2 {p q : Prop} [Decidable p] [Decidable q] {X Y : Prop} : (if p then X else if q then X else Y) ↔ (if p ∨ q then X else Y) := by
  by_cases hp : p
  · rw [if_pos hp, if_pos (.inl hp)]
  · rw [if_neg hp]
    by_cases hq : q
    · rw [if_pos hq, if_pos (.inr hq)]
    · rw [if_neg hq, if_neg (fun h => h.elim hp hq)]
theorem q_oth (T : Tx K mg "_law_other_way" s_law_other_way) (m_min : mg "min" = none) (m_len : mg "len" = none) (m_list : mg "list" = none) (h__law_draw : Pr P w K mg base CX0 1 "_law_draw" ["pool", "many"] (spP (poolG K C CS) true phDraw)) (h__law_constant : Pr P w K mg base CX0 2 "_law_constant" ["pool", "far"] (spP (poolG K C CS) true phConst))
    (h__law_power : Pr P w K mg base CX0 1 "_law_power" ["many"] (spP (poolG K C CS) false phPower)) : Pr P w K mg base CX0 3 "_law_other_way" ["pool", "steps_here"] (spP (poolG K C CS) true phOth) := by
  refine mkPP (Γ := poolG K C CS) T sc_law_other_way (fun _ _ _ _ _ _ us hl => match us, hl with | [_, _], _ => rfl) (fun n xs R Xx h => ?_) (fun n xs R Xx h => h) (fun f cdv A outer s H E hG hr => ?_)
  · obtain ⟨_, _, _, rfl, _⟩ := h
    rfl
  · have nd := sc_law_other_way.nd
    refine ⟨_, _, (dss_cons (fun h h' => pss_cons h h') (ds_par (i := 2) (j := 3) (fun h => ps_par (by rfl) nd rfl rfl (by decide) rfl rfl h (by rfl)) (da_cons (fun h t => pa_cons h t) (de_fz (dl_of (fun h => pe_callTy call_list_of (by rfl) m_list (by decide +kernel) (pa_cons h pa_nil)) (de_var (pv 1)))) (da_cons (fun h t => pa_cons h t) (de_callR0 (i := 0) (fun h => pe_P h__law_draw hr hG (by rfl) (pa_cons (pv 0) h)) (da_cons (fun h t => pa_cons h t) (de_c pe_int (fun _ => .int _)) (da_nil pa_nil))) (da_nil pa_nil)))) (dss_cons (fun h h' => pss_cons h h') (ds_set (i := 4) (fun h => ps_set nd rfl (.inl rfl) h) (de_ifExp (fun h a b => pe_ifExp h a b) (dt_cmp opd_neD (fun h h' => pt_cmpR (op_neD hr.units) h h' (nomark _)) (de_var (pv 2)) (de_fz (dl_disp (fun h => pe_lst h) (da_nil pa_nil)))) (de_callR0 (i := 0) (fun h => pe_P h__law_draw hr hG (by rfl) (pa_cons (pv 0) h)) (da_cons (fun h t => pa_cons h t) (de_lenN (pe_callB call_len_seq (by rfl) m_len (by decide +kernel) (pa_cons (pv 2) pa_nil))) (da_nil pa_nil))) (de_c pe_int (fun _ => .int _)))) (dss_cons (fun h h' => pss_cons h h') (ds_if (fun h a b => ps_if h a b) (dt_pw (fun h => PW.pt h) (dw_or (fun h h' => pw_or h h') (dt_cmp opd_eqD (fun h h' => pt_cmpR (op_eqD hr.units) h h' (nomark _)) (de_var (pv 2)) (de_fz (dl_disp (fun h => pe_lst h) (da_nil pa_nil)))) (dw_or1 (fun h => pw_or1 h) (dt_cmp opd_eq (fun h h' => pt_cmpR op_eq h h' (nomark _)) (de_var (pv 3)) (de_c pe_int (fun _ => .int _)))))) (dss_cons (fun h h' => pss_cons h h') (ds_set (i := 5) (fun h => ps_set nd rfl (.inl rfl) h) (de_callR0 (i := 0) (fun h => pe_P h__law_constant hr hG (by rfl) (pa_cons (pv 0) h)) (da_cons (fun h t => pa_cons h t) (de_op opd_int (fun h h' => pe_op op_powX h h') (de_c pe_int (fun _ => .int _)) (de_c pe_int (fun _ => .int _))) (da_nil pa_nil)))) (dss_one (fun h => pss_one h) (ds_ret (fun h => ps_ret h) (de_fz (dl_cat (fun h h' => pe_op op_cat h h') (de_fz (dl_cat (fun h h' => pe_op op_cat h h') (de_fz (dl_sl (fun h l u => pe_slice (slLK rfl) h l u) (de_var (pv 2)) (do_none po_none) (do_some (fun h => po_some h) (de_var (pv 4))))) (de_fz (dl_disp (fun h => pe_lst h) (da_cons (fun h t => pa_cons h t) (de_tup (fun h => pe_tup h) (da_cons (fun h t => pa_cons h t) (de_c pe_str (fun _ => .str _)) (da_cons (fun h t => pa_cons h t) (de_var (pv 5)) (da_nil pa_nil)))) (da_cons (fun h t => pa_cons h t) (de_tup (fun h => pe_tup h) (da_cons (fun h t => pa_cons h t) (de_c pe_str (fun _ => .str _)) (da_cons (fun h t => pa_cons h t) (de_op opd_int0 (fun h h' => pe_op op_sub h h') (de_c pe_int (fun _ => .int _)) (de_var (pv 5))) (da_nil pa_nil)))) (da_nil pa_nil))))))) (de_fz (dl_sl (fun h l u => pe_slice (slLK rfl) h l u) (de_var (pv 2)) (do_some (fun h => po_some h) (de_var (pv 4))) (do_none po_none)))))))) (dss_nil pss_nil)) (dss_cons (fun h h' => pss_cons h h') (ds_asg (fun h g => ps_asg h g) (de_ixN (fun h => pe_ix (ixSK rfl) (pv 2) h (fun _ _ => rfl)) (de_var (pv 4))) (dg_tup (n := 2) (fun h => pg_tup rfl h) (dgs_cons (fun g h => pgs_cons g h) (dg_name (pg_name (i := 6) nd rfl (.inl rfl))) (dgs_cons (fun g h => pgs_cons g h) (dg_name (pg_name (i := 7) nd rfl (.inl rfl))) (dgs_nil pgs_nil))))) (dss_cons (fun h h' => pss_cons h h') (ds_if (fun h a b => ps_if h a b) (dt_cmp opd_eq (fun h h' => pt_cmpR op_eq h h' (nomark _)) (de_var (pv 6)) (de_c pe_str (fun _ => .str _))) (dss_cons (fun h h' => pss_cons h h') (ds_set (i := 8) (fun h => ps_set nd rfl (.inl rfl) h) (de_callR0 (i := 0) (fun h => pe_P h__law_constant hr hG (by rfl) (pa_cons (pv 0) h)) (da_cons (fun h t => pa_cons h t) (de_op opd_int (fun h h' => pe_op op_powX h h') (de_c pe_int (fun _ => .int _)) (de_c pe_int (fun _ => .int _))) (da_nil pa_nil)))) (dss_one (fun h => pss_one h) (ds_ret (fun h => ps_ret h) (de_fz (dl_cat (fun h h' => pe_op op_cat h h') (de_fz (dl_cat (fun h h' => pe_op op_cat h h') (de_fz (dl_sl (fun h l u => pe_slice (slLK rfl) h l u) (de_var (pv 2)) (do_none po_none) (do_some (fun h => po_some h) (de_var (pv 4))))) (de_fz (dl_disp (fun h => pe_lst h) (da_cons (fun h t => pa_cons h t) (de_tup (fun h => pe_tup h) (da_cons (fun h t => pa_cons h t) (de_c pe_str (fun _ => .str _)) (da_cons (fun h t => pa_cons h t) (de_var (pv 8)) (da_nil pa_nil)))) (da_cons (fun h t => pa_cons h t) (de_tup (fun h => pe_tup h) (da_cons (fun h t => pa_cons h t) (de_c pe_str (fun _ => .str _)) (da_cons (fun h t => pa_cons h t) (de_op opd_int0 (fun h h' => pe_op op_sub h h') (de_var (pv 7)) (de_var (pv 8))) (da_nil pa_nil)))) (da_nil pa_nil))))))) (de_fz (dl_sl (fun h l u => pe_slice (slLK rfl) h l u) (de_var (pv 2)) (do_some (fun h => po_some h) (de_op opd_int0 (fun h h' => pe_op op_add h h') (de_var (pv 4)) (de_c pe_int (fun _ => .int _)))) (do_none po_none)))))))) (dss_nil pss_nil)) (dss_cons (fun h h' => pss_cons h h') (ds_if (fun h a b => ps_if h a b) (dt_cmp opd_eq (fun h h' => pt_cmpR op_eq h h' (nomark _)) (de_var (pv 3)) (de_c pe_int (fun _ => .int _))) (dss_cons (fun h h' => pss_cons h h') (ds_set (i := 9) (fun h => ps_set nd rfl (.inl rfl) h) (de_cb cd_min (fun h => pe_callB (call_min2 rfl) (by rfl) m_min (by decide +kernel) h) (da_cons (fun h t => pa_cons h t) (de_c pe_int (fun _ => .int _)) (da_cons (fun h t => pa_cons h t) (de_op opd_int0 (fun h h' => pe_op op_add h h') (de_var (pv 7)) (de_callR0 (i := 0) (fun h => pe_P h__law_draw hr hG (by rfl) (pa_cons (pv 0) h)) (da_cons (fun h t => pa_cons h t) (de_c pe_int (fun _ => .int _)) (da_nil pa_nil)))) (da_nil pa_nil))))) (dss_one (fun h => pss_one h) (ds_ret (fun h => ps_ret h) (de_fz (dl_cat (fun h h' => pe_op op_cat h h') (de_fz (dl_cat (fun h h' => pe_op op_cat h h') (de_fz (dl_sl (fun h l u => pe_slice (slLK rfl) h l u) (de_var (pv 2)) (do_none po_none) (do_some (fun h => po_some h) (de_var (pv 4))))) (de_fz (dl_disp (fun h => pe_lst h) (da_cons (fun h t => pa_cons h t) (de_tup (fun h => pe_tup h) (da_cons (fun h t => pa_cons h t) (de_op opd_ix (fun h h' => pe_ix (ixSK rfl) h h' (fun _ _ => rfl)) (de_fz (dl_disp (fun h => pe_lst h) (da_cons (fun h t => pa_cons h t) (de_c pe_str (fun _ => .str _)) (da_cons (fun h t => pa_cons h t) (de_c pe_str (fun _ => .str _)) (da_nil pa_nil))))) (de_callR0 (i := 0) (fun h => pe_P h__law_draw hr hG (by rfl) (pa_cons (pv 0) h)) (da_cons (fun h t => pa_cons h t) (de_c pe_int (fun _ => .int _)) (da_nil pa_nil)))) (da_cons (fun h t => pa_cons h t) (de_var (pv 9)) (da_nil pa_nil)))) (da_nil pa_nil)))))) (de_fz (dl_sl (fun h l u => pe_slice (slLK rfl) h l u) (de_var (pv 2)) (do_some (fun h => po_some h) (de_var (pv 4))) (do_none po_none)))))))) (dss_nil pss_nil)) (dss_cons (fun h h' => pss_cons h h') (ds_set (i := 10) (fun h => ps_set nd rfl (.inl rfl) h) (de_call0 (fun h => pe_P h__law_power hr hG (by rfl) h) (da_cons (fun h t => pa_cons h t) (de_op opd_int0 (fun h h' => pe_op op_sub h h') (de_var (pv 7)) (de_c pe_int (fun _ => .int _))) (da_nil pa_nil)))) (dss_cons (fun h h' => pss_cons h h') (ds_set (i := 11) (fun h => ps_set nd rfl (.inl rfl) h) (de_fz (dl_disp (fun h => pe_lst h) (da_cons (fun h t => pa_cons h t) (de_tup (fun h => pe_tup h) (da_cons (fun h t => pa_cons h t) (de_c pe_str (fun _ => .str _)) (da_cons (fun h t => pa_cons h t) (de_var (pv 10)) (da_nil pa_nil)))) (da_cons (fun h t => pa_cons h t) (de_tup (fun h => pe_tup h) (da_cons (fun h t => pa_cons h t) (de_c pe_str (fun _ => .str _)) (da_cons (fun h t => pa_cons h t) (de_var (pv 7)) (da_nil pa_nil)))) (da_cons (fun h t => pa_cons h t) (de_tup (fun h => pe_tup h) (da_cons (fun h t => pa_cons h t) (de_c pe_str (fun _ => .str _)) (da_cons (fun h t => pa_cons h t) (de_op opd_int0 (fun h h' => pe_op op_sub h h') (de_c pe_int (fun _ => .int _)) (de_var (pv 10))) (da_nil pa_nil)))) (da_nil pa_nil))))))) (dss_cons (fun h h' => pss_cons h h') (ds_if (fun h a b => ps_if h a b) (dt_cmp opd_eq (fun h h' => pt_cmpR op_eq h h' (nomark _)) (de_var (pv 6)) (de_c pe_str (fun _ => .str _))) (dss_one (fun h => pss_one h) (ds_set (i := 11) (fun h => ps_set nd rfl (.inl rfl) h) (de_fz (dl_disp (fun h => pe_lst h) (da_cons (fun h t => pa_cons h t) (de_tup (fun h => pe_tup h) (da_cons (fun h t => pa_cons h t) (de_c pe_str (fun _ => .str _)) (da_cons (fun h t => pa_cons h t) (de_op opd_int0 (fun h h' => pe_op op_sub h h') (de_c pe_int (fun _ => .int _)) (de_var (pv 10))) (da_nil pa_nil)))) (da_cons (fun h t => pa_cons h t) (de_tup (fun h => pe_tup h) (da_cons (fun h t => pa_cons h t) (de_c pe_str (fun _ => .str _)) (da_cons (fun h t => pa_cons h t) (de_var (pv 7)) (da_nil pa_nil)))) (da_cons (fun h t => pa_cons h t) (de_tup (fun h => pe_tup h) (da_cons (fun h t => pa_cons h t) (de_c pe_str (fun _ => .str _)) (da_cons (fun h t => pa_cons h t) (de_var (pv 10)) (da_nil pa_nil)))) (da_nil pa_nil)))))))) (dss_nil pss_nil)) (dss_one (fun h => pss_one h) (ds_ret (fun h => ps_ret h) (de_fz (dl_cat (fun h h' => pe_op op_cat h h') (de_fz (dl_cat (fun h h' => pe_op op_cat h h') (de_fz (dl_sl (fun h l u => pe_slice (slLK rfl) h l u) (de_var (pv 2)) (do_none po_none) (do_some (fun h => po_some h) (de_var (pv 4))))) (de_var (pv 11)))) (de_fz (dl_sl (fun h l u => pe_slice (slLK rfl) h l u) (de_var (pv 2)) (do_some (fun h => po_some h) (de_op opd_int0 (fun h h' => pe_op op_add h h') (de_var (pv 4)) (de_c pe_int (fun _ => .int _)))) (do_none po_none)))))))))))))))), fun n xs R h => ?_⟩
    obtain ⟨c, m, B, rfl, hc, hm, hB, hn, q⟩ := h
    rw [show chD c = .list (c.map stD) from rfl]
    have hl := hc.1
    show (sSeq _ _) [.rng n, .a (.d (.list (c.map stD))), .un, .un, .un, .un, .un, .un, .un, .un, .un, .un] _
    refine y_cut fun NX hNX => ?_
    (try simp only [y_var, y_c, y_op, y_un, y_and, y_or, y_not, y_if, y_isN, y_notN, y_bOf, y_bTru, y_bNot, y_bYes, y_aNil, y_aCons, y_aStar, y_tup, y_disp, y_fz, y_cb, y_cat, y_of, y_sl, y_dO0, y_dO1, y_ixN, y_lenN, y_chain, y_call0, y_call, y_callR0, y_next, y_brk, y_cnt, y_asg, y_setO, y_gNm, y_gTp, y_gsNil, y_gsCons, y_subO, y_par, y_aug, y_expr, y_app, y_ext, y_ifS, y_ret, y_retN, y_for, y_while, y_iSeq, y_iTp, y_iR1, y_iR2, y_iEn, y_iZp, y_lc, y_raise, y_un1, y_minL, y_swap, y_cmpO, y_call, Bool.true_eq_false, reduceCtorEq, decide_true, decide_false, ix2_0, ix2_1, ix3_0, ix3_1, ix3_2, LcRun, LpRun, wipeP, restP, noX, dite_true, List.nil_append, List.cons_append, Option.getD_some, Option.getD_none, y_repr, y_tupleL, y_tupleT, y_sum, y_all, y_any, y_eqD, y_neD, y_rev, y_dn, y_orT, y_notT, y_ins, y_bits, y_bAnd, y_bOr, y_rt0, y_rtR, y_nx0, y_rtX, y_nxX, y_exX, inV2, inV3, flatD, vOf, List.all_cons, List.all_nil, Bool.and_self, sz_iff, Nat.reduceAdd, Nat.reduceLeDiff, Nat.zero_add, y_dD, y_dB, y_dI, y_dL, y_dSl, y_dSt, y_dAll0, y_dAllS, dAll_map, y_I0, y_I, y_eqI, y_eqS, y_eqB, y_neI, y_neS, y_neB, y_neg, y_ixL, y_ixT, y_min, y_max, y_abs, y_lenL, y_lenT, y_lenS, y_lenB, y_truL, y_truT, y_inL, y_inT, y_ex1, y_exO, y_exR, at0, at1, at2, at3, isNon, List.getElem?_cons_succ, List.getElem?_cons_zero, List.set_cons_succ, List.set_cons_zero, List.length_cons, List.length_nil, List.map_cons, List.map_nil, true_and, and_true, decide_eq_true_eq, Bool.not_eq_true', Bool.not_true, Bool.not_false, if_true, if_false, Bool.false_eq_true, ite_true, ite_false])
    refine ⟨4, rfl, by omega, by omega, by decide, fun way w0 w1 => hNX _ ?_⟩
    clear hNX NX
    refine y_cut fun NX hNX => ?_
    (try simp only [y_var, y_c, y_op, y_un, y_and, y_or, y_not, y_if, y_isN, y_notN, y_bOf, y_bTru, y_bNot, y_bYes, y_aNil, y_aCons, y_aStar, y_tup, y_disp, y_fz, y_cb, y_cat, y_of, y_sl, y_dO0, y_dO1, y_ixN, y_lenN, y_chain, y_call0, y_call, y_callR0, y_next, y_brk, y_cnt, y_asg, y_setO, y_gNm, y_gTp, y_gsNil, y_gsCons, y_subO, y_par, y_aug, y_expr, y_app, y_ext, y_ifS, y_ret, y_retN, y_for, y_while, y_iSeq, y_iTp, y_iR1, y_iR2, y_iEn, y_iZp, y_lc, y_raise, y_un1, y_minL, y_swap, y_cmpO, y_call, Bool.true_eq_false, reduceCtorEq, decide_true, decide_false, ix2_0, ix2_1, ix3_0, ix3_1, ix3_2, LcRun, LpRun, wipeP, restP, noX, dite_true, List.nil_append, List.cons_append, Option.getD_some, Option.getD_none, y_repr, y_tupleL, y_tupleT, y_sum, y_all, y_any, y_eqD, y_neD, y_rev, y_dn, y_orT, y_notT, y_ins, y_bits, y_bAnd, y_bOr, y_rt0, y_rtR, y_nx0, y_rtX, y_nxX, y_exX, inV2, inV3, flatD, vOf, List.all_cons, List.all_nil, Bool.and_self, sz_iff, Nat.reduceAdd, Nat.reduceLeDiff, Nat.zero_add, y_dD, y_dB, y_dI, y_dL, y_dSl, y_dSt, y_dAll0, y_dAllS, dAll_map, y_I0, y_I, y_eqI, y_eqS, y_eqB, y_neI, y_neS, y_neB, y_neg, y_ixL, y_ixT, y_min, y_max, y_abs, y_lenL, y_lenT, y_lenS, y_lenB, y_truL, y_truT, y_inL, y_inT, y_ex1, y_exO, y_exR, at0, at1, at2, at3, isNon, List.getElem?_cons_succ, List.getElem?_cons_zero, List.set_cons_succ, List.set_cons_zero, List.length_cons, List.length_nil, List.map_cons, List.map_nil, true_and, and_true, decide_eq_true_eq, Bool.not_eq_true', Bool.not_true, Bool.not_false, if_true, if_false, Bool.false_eq_true, ite_true, ite_false])
    have t20 : (10 : Int) ^ (20 : Int).toNat = 100000000000000000000 := by decide
    have t30 : (10 : Int) ^ 30 = 1000000000000000000000000000000 := by decide
    refine ⟨hc.sh, shE, ?_⟩
    rw [ch_ne]
    have main : ∀ (v : Int) (k : Nat), 0 ≤ v → (c = [] ∨ v < c.length) → k ≤ n + 2 → NX [.rng k, .a (.d (.list (c.map stD))), .a (.d (.list (c.map stD))), .a (.d (.int way)), .a (.d (.int v)), .un, .un, .un, .un, .un, .un, .un] := fun v k v0 hv hk => by
      refine hNX _ ?_
      clear hNX NX
      obtain ⟨k1, k2⟩ := cutD c v v0
      obtain ⟨_, k3⟩ := cutD c (v + 1) (by omega)
      have e3 : (v + 1).toNat = v.toNat + 1 := by omega
      rw [e3] at k3
      have fin : ∀ (mid : Ch) (c' : Ch) (kk : Nat), c' = c.take v.toNat ++ mid ++ c.drop v.toNat ∨ c' = c.take v.toNat ++ mid ++ c.drop (v.toNat + 1) → chB (m + 2) (B + 10 ^ 30) c' → (∀ y, convI y c' = convI y c) → (∀ k, smC k c → smC k c') → kk ≤ n + 12 → R (.d (.list (c'.map stD))) kk := fun mid c' kk _ h1 h2 h3 h4 => q c' kk h1 h2 h3 h4
      have sz1 : ∀ j : Nat, j ≤ 10 → szL ((c.take v.toNat |>.map stD).length + j) := fun j hj => szS (m := 100) (by rw [List.length_map, List.length_take]; omega) (by decide)
      have sz2 : ∀ (mid : Ch) (i : Nat), mid.length ≤ 10 → szL ((c.take v.toNat |>.map stD) ++ mid.map stD).length → szL (((c.take v.toNat).map stD ++ mid.map stD).length + ((c.drop i).map stD).length) := fun mid i hj _ => szS (m := 200) (by rw [List.length_append, List.length_map, List.length_map, List.length_map, List.length_take, List.length_drop]; omega) (by decide)
      refine y_cut fun NX hNX => ?_
      (try simp only [y_var, y_c, y_op, y_un, y_and, y_or, y_not, y_if, y_isN, y_notN, y_bOf, y_bTru, y_bNot, y_bYes, y_aNil, y_aCons, y_aStar, y_tup, y_disp, y_fz, y_cb, y_cat, y_of, y_sl, y_dO0, y_dO1, y_ixN, y_lenN, y_chain, y_call0, y_call, y_callR0, y_next, y_brk, y_cnt, y_asg, y_setO, y_gNm, y_gTp, y_gsNil, y_gsCons, y_subO, y_par, y_aug, y_expr, y_app, y_ext, y_ifS, y_ret, y_retN, y_for, y_while, y_iSeq, y_iTp, y_iR1, y_iR2, y_iEn, y_iZp, y_lc, y_raise, y_un1, y_minL, y_swap, y_cmpO, y_call, Bool.true_eq_false, reduceCtorEq, decide_true, decide_false, ix2_0, ix2_1, ix3_0, ix3_1, ix3_2, LcRun, LpRun, wipeP, restP, noX, dite_true, List.nil_append, List.cons_append, Option.getD_some, Option.getD_none, y_repr, y_tupleL, y_tupleT, y_sum, y_all, y_any, y_eqD, y_neD, y_rev, y_dn, y_orT, y_notT, y_ins, y_bits, y_bAnd, y_bOr, y_rt0, y_rtR, y_nx0, y_rtX, y_nxX, y_exX, inV2, inV3, flatD, vOf, List.all_cons, List.all_nil, Bool.and_self, sz_iff, Nat.reduceAdd, Nat.reduceLeDiff, Nat.zero_add, y_dD, y_dB, y_dI, y_dL, y_dSl, y_dSt, y_dAll0, y_dAllS, dAll_map, y_I0, y_I, y_eqI, y_eqS, y_eqB, y_neI, y_neS, y_neB, y_neg, y_ixL, y_ixT, y_min, y_max, y_abs, y_lenL, y_lenT, y_lenS, y_lenB, y_truL, y_truT, y_inL, y_inT, y_ex1, y_exO, y_exR, at0, at1, at2, at3, isNon, List.getElem?_cons_succ, List.getElem?_cons_zero, List.set_cons_succ, List.set_cons_zero, List.length_cons, List.length_nil, List.map_cons, List.map_nil, true_and, and_true, decide_eq_true_eq, Bool.not_eq_true', Bool.not_true, Bool.not_false, if_true, if_false, Bool.false_eq_true, ite_true, ite_false])
      refine ⟨hc.sh, shE, ?_⟩
      rw [ch_ne]
      refine ite2.mpr ?_
      by_cases hce : List.isEmpty c = true ∨ way = 0
      · rw [if_pos hce]
        refine y_cut fun NX2 hNX2 => ?_
        (try simp only [y_var, y_c, y_op, y_un, y_and, y_or, y_not, y_if, y_isN, y_notN, y_bOf, y_bTru, y_bNot, y_bYes, y_aNil, y_aCons, y_aStar, y_tup, y_disp, y_fz, y_cb, y_cat, y_of, y_sl, y_dO0, y_dO1, y_ixN, y_lenN, y_chain, y_call0, y_call, y_callR0, y_next, y_brk, y_cnt, y_asg, y_setO, y_gNm, y_gTp, y_gsNil, y_gsCons, y_subO, y_par, y_aug, y_expr, y_app, y_ext, y_ifS, y_ret, y_retN, y_for, y_while, y_iSeq, y_iTp, y_iR1, y_iR2, y_iEn, y_iZp, y_lc, y_raise, y_un1, y_minL, y_swap, y_cmpO, y_call, Bool.true_eq_false, reduceCtorEq, decide_true, decide_false, ix2_0, ix2_1, ix3_0, ix3_1, ix3_2, LcRun, LpRun, wipeP, restP, noX, dite_true, List.nil_append, List.cons_append, Option.getD_some, Option.getD_none, y_repr, y_tupleL, y_tupleT, y_sum, y_all, y_any, y_eqD, y_neD, y_rev, y_dn, y_orT, y_notT, y_ins, y_bits, y_bAnd, y_bOr, y_rt0, y_rtR, y_nx0, y_rtX, y_nxX, y_exX, inV2, inV3, flatD, vOf, List.all_cons, List.all_nil, Bool.and_self, sz_iff, Nat.reduceAdd, Nat.reduceLeDiff, Nat.zero_add, y_dD, y_dB, y_dI, y_dL, y_dSl, y_dSt, y_dAll0, y_dAllS, dAll_map, y_I0, y_I, y_eqI, y_eqS, y_eqB, y_neI, y_neS, y_neB, y_neg, y_ixL, y_ixT, y_min, y_max, y_abs, y_lenL, y_lenT, y_lenS, y_lenB, y_truL, y_truT, y_inL, y_inT, y_ex1, y_exO, y_exR, at0, at1, at2, at3, isNon, List.getElem?_cons_succ, List.getElem?_cons_zero, List.set_cons_succ, List.set_cons_zero, List.length_cons, List.length_nil, List.map_cons, List.map_nil, true_and, and_true, decide_eq_true_eq, Bool.not_eq_true', Bool.not_true, Bool.not_false, if_true, if_false, Bool.false_eq_true, ite_true, ite_false])
        rw [t20]
        refine ⟨⟨by omega, by omega, pow_ok (by omega) (by omega)⟩, _, rfl, by omega, by omega, by omega, fun one o0 o1 => hNX2 _ ?_⟩
        clear hNX2 NX2
        (try simp only [y_var, y_c, y_op, y_un, y_and, y_or, y_not, y_if, y_isN, y_notN, y_bOf, y_bTru, y_bNot, y_bYes, y_aNil, y_aCons, y_aStar, y_tup, y_disp, y_fz, y_cb, y_cat, y_of, y_sl, y_dO0, y_dO1, y_ixN, y_lenN, y_chain, y_call0, y_call, y_callR0, y_next, y_brk, y_cnt, y_asg, y_setO, y_gNm, y_gTp, y_gsNil, y_gsCons, y_subO, y_par, y_aug, y_expr, y_app, y_ext, y_ifS, y_ret, y_retN, y_for, y_while, y_iSeq, y_iTp, y_iR1, y_iR2, y_iEn, y_iZp, y_lc, y_raise, y_un1, y_minL, y_swap, y_cmpO, y_call, Bool.true_eq_false, reduceCtorEq, decide_true, decide_false, ix2_0, ix2_1, ix3_0, ix3_1, ix3_2, LcRun, LpRun, wipeP, restP, noX, dite_true, List.nil_append, List.cons_append, Option.getD_some, Option.getD_none, y_repr, y_tupleL, y_tupleT, y_sum, y_all, y_any, y_eqD, y_neD, y_rev, y_dn, y_orT, y_notT, y_ins, y_bits, y_bAnd, y_bOr, y_rt0, y_rtR, y_nx0, y_rtX, y_nxX, y_exX, inV2, inV3, flatD, vOf, List.all_cons, List.all_nil, Bool.and_self, sz_iff, Nat.reduceAdd, Nat.reduceLeDiff, Nat.zero_add, y_dD, y_dB, y_dI, y_dL, y_dSl, y_dSt, y_dAll0, y_dAllS, dAll_map, y_I0, y_I, y_eqI, y_eqS, y_eqB, y_neI, y_neS, y_neB, y_neg, y_ixL, y_ixT, y_min, y_max, y_abs, y_lenL, y_lenT, y_lenS, y_lenB, y_truL, y_truT, y_inL, y_inT, y_ex1, y_exO, y_exR, at0, at1, at2, at3, isNon, List.getElem?_cons_succ, List.getElem?_cons_zero, List.set_cons_succ, List.set_cons_zero, List.length_cons, List.length_nil, List.map_cons, List.map_nil, true_and, and_true, decide_eq_true_eq, Bool.not_eq_true', Bool.not_true, Bool.not_false, if_true, if_false, Bool.false_eq_true, ite_true, ite_false])
        rw [k1, k2]
        have e2 : [PyData.tuple [.str (Str.ofString "add"), .int one], .tuple [.str (Str.ofString "add"), .int (0 - one)]] = ([("add", one), ("add", 0 - one)] : Ch).map stD := rfl
        rw [e2, cat3]
        have h1 : chB 2 B [("add", one), ("add", 0 - one)] := (chB.one (s := ("add", one)) ⟨ok_add, by rw [if_pos rfl]; exact ⟨by show -B ≤ one; omega, by show one ≤ B; omega⟩⟩).app (chB.one (s := ("add", 0 - one)) ⟨ok_add, by rw [if_pos rfl]; exact ⟨by show -B ≤ 0 - one; omega, by show 0 - one ≤ B; omega⟩⟩)
        have h2 := (put_ok hc h1 (v := v.toNat)).up (Nat.le_refl _) (show B ≤ B + 10 ^ 30 by omega)
        have ec : c = c.take v.toNat ++ [] ++ c.drop v.toNat := by rw [List.append_nil, List.take_append_drop]
        refine ⟨sz1 2 (by decide), by rw [List.length_append, List.length_map, List.length_map, List.length_map, List.length_take, List.length_drop]; exact szS (m := 100) (by show _ + 2 + _ ≤ 100; omega) (by decide), fin _ _ _ (.inl rfl) h2 (fun y => ?_) (fun kk hk => ?_) (by omega)⟩
        · rw [conv_mid (b := []) (fun y => ?_) y, ← ec]
          show stepI (stepI y ("add", one)) ("add", 0 - one) = y
          unfold stepI
          rw [if_pos rfl, if_pos rfl]
          show y + one + (0 - one) = y
          omega
        · rw [ec] at hk
          exact sm_mid (fun k hk => absurd hk (hasC_no noC_nil)) (fun _ => noC_add2) hk
      · rw [if_neg hce]
        have hce' : ¬ List.isEmpty c = true := fun h => hce (.inl h)
        have hw : ¬ way = 0 := fun h => hce (.inr h)
        clear hce
        have hce := hce'
        · skip
          refine hNX _ ?_
          clear hNX NX
          have hvl : v.toNat < c.length := by
            rcases hv with rfl | hv
            · exact absurd rfl hce
            · omega
          obtain ⟨⟨x, a⟩, hgt⟩ : ∃ s, c[v.toNat]? = some s := ⟨_, List.getElem?_eq_getElem hvl⟩
          have ev : ((v.toNat : Nat) : Int) = v := Int.toNat_of_nonneg v0
          have hat : atI (c.map stD) v = some (stD (x, a)) := by
            have := atI_nat (xs := c.map stD) (j := v.toNat) (by rw [List.getElem?_map, hgt]; rfl)
            rwa [ev] at this
          have hmem := List.mem_of_getElem? hgt
          obtain ⟨okx, bx⟩ := hc.2 _ hmem
          have ec := take1 hgt
          refine y_cut fun NX hNX => ?_
          (try simp only [y_var, y_c, y_op, y_un, y_and, y_or, y_not, y_if, y_isN, y_notN, y_bOf, y_bTru, y_bNot, y_bYes, y_aNil, y_aCons, y_aStar, y_tup, y_disp, y_fz, y_cb, y_cat, y_of, y_sl, y_dO0, y_dO1, y_ixN, y_lenN, y_chain, y_call0, y_call, y_callR0, y_next, y_brk, y_cnt, y_asg, y_setO, y_gNm, y_gTp, y_gsNil, y_gsCons, y_subO, y_par, y_aug, y_expr, y_app, y_ext, y_ifS, y_ret, y_retN, y_for, y_while, y_iSeq, y_iTp, y_iR1, y_iR2, y_iEn, y_iZp, y_lc, y_raise, y_un1, y_minL, y_swap, y_cmpO, y_call, Bool.true_eq_false, reduceCtorEq, decide_true, decide_false, ix2_0, ix2_1, ix3_0, ix3_1, ix3_2, LcRun, LpRun, wipeP, restP, noX, dite_true, List.nil_append, List.cons_append, Option.getD_some, Option.getD_none, y_repr, y_tupleL, y_tupleT, y_sum, y_all, y_any, y_eqD, y_neD, y_rev, y_dn, y_orT, y_notT, y_ins, y_bits, y_bAnd, y_bOr, y_rt0, y_rtR, y_nx0, y_rtX, y_nxX, y_exX, inV2, inV3, flatD, vOf, List.all_cons, List.all_nil, Bool.and_self, sz_iff, Nat.reduceAdd, Nat.reduceLeDiff, Nat.zero_add, y_dD, y_dB, y_dI, y_dL, y_dSl, y_dSt, y_dAll0, y_dAllS, dAll_map, y_I0, y_I, y_eqI, y_eqS, y_eqB, y_neI, y_neS, y_neB, y_neg, y_ixL, y_ixT, y_min, y_max, y_abs, y_lenL, y_lenT, y_lenS, y_lenB, y_truL, y_truT, y_inL, y_inT, y_ex1, y_exO, y_exR, at0, at1, at2, at3, isNon, List.getElem?_cons_succ, List.getElem?_cons_zero, List.set_cons_succ, List.set_cons_zero, List.length_cons, List.length_nil, List.map_cons, List.map_nil, true_and, and_true, decide_eq_true_eq, Bool.not_eq_true', Bool.not_true, Bool.not_false, if_true, if_false, Bool.false_eq_true, ite_true, ite_false])
          refine ⟨_, hat, ?_⟩
          unfold stD
          (try simp only [y_var, y_c, y_op, y_un, y_and, y_or, y_not, y_if, y_isN, y_notN, y_bOf, y_bTru, y_bNot, y_bYes, y_aNil, y_aCons, y_aStar, y_tup, y_disp, y_fz, y_cb, y_cat, y_of, y_sl, y_dO0, y_dO1, y_ixN, y_lenN, y_chain, y_call0, y_call, y_callR0, y_next, y_brk, y_cnt, y_asg, y_setO, y_gNm, y_gTp, y_gsNil, y_gsCons, y_subO, y_par, y_aug, y_expr, y_app, y_ext, y_ifS, y_ret, y_retN, y_for, y_while, y_iSeq, y_iTp, y_iR1, y_iR2, y_iEn, y_iZp, y_lc, y_raise, y_un1, y_minL, y_swap, y_cmpO, y_call, Bool.true_eq_false, reduceCtorEq, decide_true, decide_false, ix2_0, ix2_1, ix3_0, ix3_1, ix3_2, LcRun, LpRun, wipeP, restP, noX, dite_true, List.nil_append, List.cons_append, Option.getD_some, Option.getD_none, y_repr, y_tupleL, y_tupleT, y_sum, y_all, y_any, y_eqD, y_neD, y_rev, y_dn, y_orT, y_notT, y_ins, y_bits, y_bAnd, y_bOr, y_rt0, y_rtR, y_nx0, y_rtX, y_nxX, y_exX, inV2, inV3, flatD, vOf, List.all_cons, List.all_nil, Bool.and_self, sz_iff, Nat.reduceAdd, Nat.reduceLeDiff, Nat.zero_add, y_dD, y_dB, y_dI, y_dL, y_dSl, y_dSt, y_dAll0, y_dAllS, dAll_map, y_I0, y_I, y_eqI, y_eqS, y_eqB, y_neI, y_neS, y_neB, y_neg, y_ixL, y_ixT, y_min, y_max, y_abs, y_lenL, y_lenT, y_lenS, y_lenB, y_truL, y_truT, y_inL, y_inT, y_ex1, y_exO, y_exR, at0, at1, at2, at3, isNon, List.getElem?_cons_succ, List.getElem?_cons_zero, List.set_cons_succ, List.set_cons_zero, List.length_cons, List.length_nil, List.map_cons, List.map_nil, true_and, and_true, decide_eq_true_eq, Bool.not_eq_true', Bool.not_true, Bool.not_false, if_true, if_false, Bool.false_eq_true, ite_true, ite_false])
          refine hNX _ ?_
          clear hNX NX
          refine y_cut fun NX hNX => ?_
          (try simp only [y_var, y_c, y_op, y_un, y_and, y_or, y_not, y_if, y_isN, y_notN, y_bOf, y_bTru, y_bNot, y_bYes, y_aNil, y_aCons, y_aStar, y_tup, y_disp, y_fz, y_cb, y_cat, y_of, y_sl, y_dO0, y_dO1, y_ixN, y_lenN, y_chain, y_call0, y_call, y_callR0, y_next, y_brk, y_cnt, y_asg, y_setO, y_gNm, y_gTp, y_gsNil, y_gsCons, y_subO, y_par, y_aug, y_expr, y_app, y_ext, y_ifS, y_ret, y_retN, y_for, y_while, y_iSeq, y_iTp, y_iR1, y_iR2, y_iEn, y_iZp, y_lc, y_raise, y_un1, y_minL, y_swap, y_cmpO, y_call, Bool.true_eq_false, reduceCtorEq, decide_true, decide_false, ix2_0, ix2_1, ix3_0, ix3_1, ix3_2, LcRun, LpRun, wipeP, restP, noX, dite_true, List.nil_append, List.cons_append, Option.getD_some, Option.getD_none, y_repr, y_tupleL, y_tupleT, y_sum, y_all, y_any, y_eqD, y_neD, y_rev, y_dn, y_orT, y_notT, y_ins, y_bits, y_bAnd, y_bOr, y_rt0, y_rtR, y_nx0, y_rtX, y_nxX, y_exX, inV2, inV3, flatD, vOf, List.all_cons, List.all_nil, Bool.and_self, sz_iff, Nat.reduceAdd, Nat.reduceLeDiff, Nat.zero_add, y_dD, y_dB, y_dI, y_dL, y_dSl, y_dSt, y_dAll0, y_dAllS, dAll_map, y_I0, y_I, y_eqI, y_eqS, y_eqB, y_neI, y_neS, y_neB, y_neg, y_ixL, y_ixT, y_min, y_max, y_abs, y_lenL, y_lenT, y_lenS, y_lenB, y_truL, y_truT, y_inL, y_inT, y_ex1, y_exO, y_exR, at0, at1, at2, at3, isNon, List.getElem?_cons_succ, List.getElem?_cons_zero, List.set_cons_succ, List.set_cons_zero, List.length_cons, List.length_nil, List.map_cons, List.map_nil, true_and, and_true, decide_eq_true_eq, Bool.not_eq_true', Bool.not_true, Bool.not_false, if_true, if_false, Bool.false_eq_true, ite_true, ite_false])
          by_cases hx : x = "add"
          · rw [if_pos hx]
            rw [if_pos hx] at bx
            refine y_cut fun NX2 hNX2 => ?_
            (try simp only [y_var, y_c, y_op, y_un, y_and, y_or, y_not, y_if, y_isN, y_notN, y_bOf, y_bTru, y_bNot, y_bYes, y_aNil, y_aCons, y_aStar, y_tup, y_disp, y_fz, y_cb, y_cat, y_of, y_sl, y_dO0, y_dO1, y_ixN, y_lenN, y_chain, y_call0, y_call, y_callR0, y_next, y_brk, y_cnt, y_asg, y_setO, y_gNm, y_gTp, y_gsNil, y_gsCons, y_subO, y_par, y_aug, y_expr, y_app, y_ext, y_ifS, y_ret, y_retN, y_for, y_while, y_iSeq, y_iTp, y_iR1, y_iR2, y_iEn, y_iZp, y_lc, y_raise, y_un1, y_minL, y_swap, y_cmpO, y_call, Bool.true_eq_false, reduceCtorEq, decide_true, decide_false, ix2_0, ix2_1, ix3_0, ix3_1, ix3_2, LcRun, LpRun, wipeP, restP, noX, dite_true, List.nil_append, List.cons_append, Option.getD_some, Option.getD_none, y_repr, y_tupleL, y_tupleT, y_sum, y_all, y_any, y_eqD, y_neD, y_rev, y_dn, y_orT, y_notT, y_ins, y_bits, y_bAnd, y_bOr, y_rt0, y_rtR, y_nx0, y_rtX, y_nxX, y_exX, inV2, inV3, flatD, vOf, List.all_cons, List.all_nil, Bool.and_self, sz_iff, Nat.reduceAdd, Nat.reduceLeDiff, Nat.zero_add, y_dD, y_dB, y_dI, y_dL, y_dSl, y_dSt, y_dAll0, y_dAllS, dAll_map, y_I0, y_I, y_eqI, y_eqS, y_eqB, y_neI, y_neS, y_neB, y_neg, y_ixL, y_ixT, y_min, y_max, y_abs, y_lenL, y_lenT, y_lenS, y_lenB, y_truL, y_truT, y_inL, y_inT, y_ex1, y_exO, y_exR, at0, at1, at2, at3, isNon, List.getElem?_cons_succ, List.getElem?_cons_zero, List.set_cons_succ, List.set_cons_zero, List.length_cons, List.length_nil, List.map_cons, List.map_nil, true_and, and_true, decide_eq_true_eq, Bool.not_eq_true', Bool.not_true, Bool.not_false, if_true, if_false, Bool.false_eq_true, ite_true, ite_false])
            rw [t20]
            refine ⟨⟨by omega, by omega, pow_ok (by omega) (by omega)⟩, _, rfl, by omega, by omega, by omega, fun one o0 o1 => hNX2 _ ?_⟩
            clear hNX2 NX2
            (try simp only [y_var, y_c, y_op, y_un, y_and, y_or, y_not, y_if, y_isN, y_notN, y_bOf, y_bTru, y_bNot, y_bYes, y_aNil, y_aCons, y_aStar, y_tup, y_disp, y_fz, y_cb, y_cat, y_of, y_sl, y_dO0, y_dO1, y_ixN, y_lenN, y_chain, y_call0, y_call, y_callR0, y_next, y_brk, y_cnt, y_asg, y_setO, y_gNm, y_gTp, y_gsNil, y_gsCons, y_subO, y_par, y_aug, y_expr, y_app, y_ext, y_ifS, y_ret, y_retN, y_for, y_while, y_iSeq, y_iTp, y_iR1, y_iR2, y_iEn, y_iZp, y_lc, y_raise, y_un1, y_minL, y_swap, y_cmpO, y_call, Bool.true_eq_false, reduceCtorEq, decide_true, decide_false, ix2_0, ix2_1, ix3_0, ix3_1, ix3_2, LcRun, LpRun, wipeP, restP, noX, dite_true, List.nil_append, List.cons_append, Option.getD_some, Option.getD_none, y_repr, y_tupleL, y_tupleT, y_sum, y_all, y_any, y_eqD, y_neD, y_rev, y_dn, y_orT, y_notT, y_ins, y_bits, y_bAnd, y_bOr, y_rt0, y_rtR, y_nx0, y_rtX, y_nxX, y_exX, inV2, inV3, flatD, vOf, List.all_cons, List.all_nil, Bool.and_self, sz_iff, Nat.reduceAdd, Nat.reduceLeDiff, Nat.zero_add, y_dD, y_dB, y_dI, y_dL, y_dSl, y_dSt, y_dAll0, y_dAllS, dAll_map, y_I0, y_I, y_eqI, y_eqS, y_eqB, y_neI, y_neS, y_neB, y_neg, y_ixL, y_ixT, y_min, y_max, y_abs, y_lenL, y_lenT, y_lenS, y_lenB, y_truL, y_truT, y_inL, y_inT, y_ex1, y_exO, y_exR, at0, at1, at2, at3, isNon, List.getElem?_cons_succ, List.getElem?_cons_zero, List.set_cons_succ, List.set_cons_zero, List.length_cons, List.length_nil, List.map_cons, List.map_nil, true_and, and_true, decide_eq_true_eq, Bool.not_eq_true', Bool.not_true, Bool.not_false, if_true, if_false, Bool.false_eq_true, ite_true, ite_false])
            show szL ((cutA (c.map stD) none (some v)).length + 2) ∧ szL ((cutA (c.map stD) none (some v) ++ ([("add", one), ("add", a - one)] : Ch).map stD).length + (cutA (c.map stD) (some (v + 1)) none).length) ∧ R (.d (.list (cutA (c.map stD) none (some v) ++ ([("add", one), ("add", a - one)] : Ch).map stD ++ cutA (c.map stD) (some (v + 1)) none))) (k + 6)
            rw [k1, k3, cat3]
            have bx : -B ≤ a ∧ a ≤ B := bx
            have h1 : chB 2 (B + 10 ^ 30) [("add", one), ("add", a - one)] := (chB.one (s := ("add", one)) ⟨ok_add, by rw [if_pos rfl]; exact ⟨by show -(B + 10 ^ 30) ≤ one; omega, by show one ≤ B + 10 ^ 30; omega⟩⟩).app (chB.one (s := ("add", a - one)) ⟨ok_add, by rw [if_pos rfl]; exact ⟨by show -(B + 10 ^ 30) ≤ a - one; omega, by show a - one ≤ B + 10 ^ 30; omega⟩⟩)
            have h2 := (repl_ok (hc.up (Nat.le_refl _) (show B ≤ B + 10 ^ 30 by omega)) h1 (v := v.toNat) hvl).up (m' := m + 2) (by omega) (Int.le_refl _)
            refine ⟨sz1 2 (by decide), by rw [List.length_append, List.length_map, List.length_map, List.length_map, List.length_take, List.length_drop]; exact szS (m := 100) (by show _ + 2 + _ ≤ 100; omega) (by decide), fin _ _ _ (.inr rfl) h2 (fun y => ?_) (fun kk hk => ?_) (by omega)⟩
            · rw [conv_mid (b := [(x, a)]) (fun y => ?_) y, ← ec]
              rw [hx]
              show stepI (stepI y ("add", one)) ("add", a - one) = stepI y ("add", a)
              unfold stepI
              rw [if_pos rfl, if_pos rfl, if_pos rfl]
              show y + one + (a - one) = y + a
              omega
            · rw [ec] at hk
              refine sm_mid (fun k hk => absurd hk (hasC_no ?_)) (fun _ => noC_add2) hk
              rw [hx]
              exact noC_add
          · rw [if_neg hx]
            rw [if_neg hx] at bx
            have bx : a ≤ 64 := bx
            have hw2 := okS_w okx hx
            refine hNX _ ?_
            clear hNX NX
            refine y_cut fun NX hNX => ?_
            (try simp only [y_var, y_c, y_op, y_un, y_and, y_or, y_not, y_if, y_isN, y_notN, y_bOf, y_bTru, y_bNot, y_bYes, y_aNil, y_aCons, y_aStar, y_tup, y_disp, y_fz, y_cb, y_cat, y_of, y_sl, y_dO0, y_dO1, y_ixN, y_lenN, y_chain, y_call0, y_call, y_callR0, y_next, y_brk, y_cnt, y_asg, y_setO, y_gNm, y_gTp, y_gsNil, y_gsCons, y_subO, y_par, y_aug, y_expr, y_app, y_ext, y_ifS, y_ret, y_retN, y_for, y_while, y_iSeq, y_iTp, y_iR1, y_iR2, y_iEn, y_iZp, y_lc, y_raise, y_un1, y_minL, y_swap, y_cmpO, y_call, Bool.true_eq_false, reduceCtorEq, decide_true, decide_false, ix2_0, ix2_1, ix3_0, ix3_1, ix3_2, LcRun, LpRun, wipeP, restP, noX, dite_true, List.nil_append, List.cons_append, Option.getD_some, Option.getD_none, y_repr, y_tupleL, y_tupleT, y_sum, y_all, y_any, y_eqD, y_neD, y_rev, y_dn, y_orT, y_notT, y_ins, y_bits, y_bAnd, y_bOr, y_rt0, y_rtR, y_nx0, y_rtX, y_nxX, y_exX, inV2, inV3, flatD, vOf, List.all_cons, List.all_nil, Bool.and_self, sz_iff, Nat.reduceAdd, Nat.reduceLeDiff, Nat.zero_add, y_dD, y_dB, y_dI, y_dL, y_dSl, y_dSt, y_dAll0, y_dAllS, dAll_map, y_I0, y_I, y_eqI, y_eqS, y_eqB, y_neI, y_neS, y_neB, y_neg, y_ixL, y_ixT, y_min, y_max, y_abs, y_lenL, y_lenT, y_lenS, y_lenB, y_truL, y_truT, y_inL, y_inT, y_ex1, y_exO, y_exR, at0, at1, at2, at3, isNon, List.getElem?_cons_succ, List.getElem?_cons_zero, List.set_cons_succ, List.set_cons_zero, List.length_cons, List.length_nil, List.map_cons, List.map_nil, true_and, and_true, decide_eq_true_eq, Bool.not_eq_true', Bool.not_true, Bool.not_false, if_true, if_false, Bool.false_eq_true, ite_true, ite_false])
            by_cases hw1 : way = 1
            · rw [if_pos hw1]
              refine y_cut fun NX2 hNX2 => ?_
              (try simp only [y_var, y_c, y_op, y_un, y_and, y_or, y_not, y_if, y_isN, y_notN, y_bOf, y_bTru, y_bNot, y_bYes, y_aNil, y_aCons, y_aStar, y_tup, y_disp, y_fz, y_cb, y_cat, y_of, y_sl, y_dO0, y_dO1, y_ixN, y_lenN, y_chain, y_call0, y_call, y_callR0, y_next, y_brk, y_cnt, y_asg, y_setO, y_gNm, y_gTp, y_gsNil, y_gsCons, y_subO, y_par, y_aug, y_expr, y_app, y_ext, y_ifS, y_ret, y_retN, y_for, y_while, y_iSeq, y_iTp, y_iR1, y_iR2, y_iEn, y_iZp, y_lc, y_raise, y_un1, y_minL, y_swap, y_cmpO, y_call, Bool.true_eq_false, reduceCtorEq, decide_true, decide_false, ix2_0, ix2_1, ix3_0, ix3_1, ix3_2, LcRun, LpRun, wipeP, restP, noX, dite_true, List.nil_append, List.cons_append, Option.getD_some, Option.getD_none, y_repr, y_tupleL, y_tupleT, y_sum, y_all, y_any, y_eqD, y_neD, y_rev, y_dn, y_orT, y_notT, y_ins, y_bits, y_bAnd, y_bOr, y_rt0, y_rtR, y_nx0, y_rtX, y_nxX, y_exX, inV2, inV3, flatD, vOf, List.all_cons, List.all_nil, Bool.and_self, sz_iff, Nat.reduceAdd, Nat.reduceLeDiff, Nat.zero_add, y_dD, y_dB, y_dI, y_dL, y_dSl, y_dSt, y_dAll0, y_dAllS, dAll_map, y_I0, y_I, y_eqI, y_eqS, y_eqB, y_neI, y_neS, y_neB, y_neg, y_ixL, y_ixT, y_min, y_max, y_abs, y_lenL, y_lenT, y_lenS, y_lenB, y_truL, y_truT, y_inL, y_inT, y_ex1, y_exO, y_exR, at0, at1, at2, at3, isNon, List.getElem?_cons_succ, List.getElem?_cons_zero, List.set_cons_succ, List.set_cons_zero, List.length_cons, List.length_nil, List.map_cons, List.map_nil, true_and, and_true, decide_eq_true_eq, Bool.not_eq_true', Bool.not_true, Bool.not_false, if_true, if_false, Bool.false_eq_true, ite_true, ite_false])
              refine ⟨9, rfl, by omega, by omega, by decide, fun d d0 d1 => ?_⟩
              (try simp only [y_var, y_c, y_op, y_un, y_and, y_or, y_not, y_if, y_isN, y_notN, y_bOf, y_bTru, y_bNot, y_bYes, y_aNil, y_aCons, y_aStar, y_tup, y_disp, y_fz, y_cb, y_cat, y_of, y_sl, y_dO0, y_dO1, y_ixN, y_lenN, y_chain, y_call0, y_call, y_callR0, y_next, y_brk, y_cnt, y_asg, y_setO, y_gNm, y_gTp, y_gsNil, y_gsCons, y_subO, y_par, y_aug, y_expr, y_app, y_ext, y_ifS, y_ret, y_retN, y_for, y_while, y_iSeq, y_iTp, y_iR1, y_iR2, y_iEn, y_iZp, y_lc, y_raise, y_un1, y_minL, y_swap, y_cmpO, y_call, Bool.true_eq_false, reduceCtorEq, decide_true, decide_false, ix2_0, ix2_1, ix3_0, ix3_1, ix3_2, LcRun, LpRun, wipeP, restP, noX, dite_true, List.nil_append, List.cons_append, Option.getD_some, Option.getD_none, y_repr, y_tupleL, y_tupleT, y_sum, y_all, y_any, y_eqD, y_neD, y_rev, y_dn, y_orT, y_notT, y_ins, y_bits, y_bAnd, y_bOr, y_rt0, y_rtR, y_nx0, y_rtX, y_nxX, y_exX, inV2, inV3, flatD, vOf, List.all_cons, List.all_nil, Bool.and_self, sz_iff, Nat.reduceAdd, Nat.reduceLeDiff, Nat.zero_add, y_dD, y_dB, y_dI, y_dL, y_dSl, y_dSt, y_dAll0, y_dAllS, dAll_map, y_I0, y_I, y_eqI, y_eqS, y_eqB, y_neI, y_neS, y_neB, y_neg, y_ixL, y_ixT, y_min, y_max, y_abs, y_lenL, y_lenT, y_lenS, y_lenB, y_truL, y_truT, y_inL, y_inT, y_ex1, y_exO, y_exR, at0, at1, at2, at3, isNon, List.getElem?_cons_succ, List.getElem?_cons_zero, List.set_cons_succ, List.set_cons_zero, List.length_cons, List.length_nil, List.map_cons, List.map_nil, true_and, and_true, decide_eq_true_eq, Bool.not_eq_true', Bool.not_true, Bool.not_false, if_true, if_false, Bool.false_eq_true, ite_true, ite_false])
              refine hNX2 _ ?_
              clear hNX2 NX2
              obtain ⟨wd, hwd, wd0, wd1⟩ : ∃ wd, (if a + d < 64 then a + d else 64) = wd ∧ a ≤ wd ∧ wd ≤ 64 := ⟨_, rfl, by split <;> omega, by split <;> omega⟩
              rw [hwd]
              (try simp only [y_var, y_c, y_op, y_un, y_and, y_or, y_not, y_if, y_isN, y_notN, y_bOf, y_bTru, y_bNot, y_bYes, y_aNil, y_aCons, y_aStar, y_tup, y_disp, y_fz, y_cb, y_cat, y_of, y_sl, y_dO0, y_dO1, y_ixN, y_lenN, y_chain, y_call0, y_call, y_callR0, y_next, y_brk, y_cnt, y_asg, y_setO, y_gNm, y_gTp, y_gsNil, y_gsCons, y_subO, y_par, y_aug, y_expr, y_app, y_ext, y_ifS, y_ret, y_retN, y_for, y_while, y_iSeq, y_iTp, y_iR1, y_iR2, y_iEn, y_iZp, y_lc, y_raise, y_un1, y_minL, y_swap, y_cmpO, y_call, Bool.true_eq_false, reduceCtorEq, decide_true, decide_false, ix2_0, ix2_1, ix3_0, ix3_1, ix3_2, LcRun, LpRun, wipeP, restP, noX, dite_true, List.nil_append, List.cons_append, Option.getD_some, Option.getD_none, y_repr, y_tupleL, y_tupleT, y_sum, y_all, y_any, y_eqD, y_neD, y_rev, y_dn, y_orT, y_notT, y_ins, y_bits, y_bAnd, y_bOr, y_rt0, y_rtR, y_nx0, y_rtX, y_nxX, y_exX, inV2, inV3, flatD, vOf, List.all_cons, List.all_nil, Bool.and_self, sz_iff, Nat.reduceAdd, Nat.reduceLeDiff, Nat.zero_add, y_dD, y_dB, y_dI, y_dL, y_dSl, y_dSt, y_dAll0, y_dAllS, dAll_map, y_I0, y_I, y_eqI, y_eqS, y_eqB, y_neI, y_neS, y_neB, y_neg, y_ixL, y_ixT, y_min, y_max, y_abs, y_lenL, y_lenT, y_lenS, y_lenB, y_truL, y_truT, y_inL, y_inT, y_ex1, y_exO, y_exR, at0, at1, at2, at3, isNon, List.getElem?_cons_succ, List.getElem?_cons_zero, List.set_cons_succ, List.set_cons_zero, List.length_cons, List.length_nil, List.map_cons, List.map_nil, true_and, and_true, decide_eq_true_eq, Bool.not_eq_true', Bool.not_true, Bool.not_false, if_true, if_false, Bool.false_eq_true, ite_true, ite_false])
              refine ⟨2, rfl, by omega, by omega, by decide, fun e e0 e1 => ?_⟩
              (try simp only [y_var, y_c, y_op, y_un, y_and, y_or, y_not, y_if, y_isN, y_notN, y_bOf, y_bTru, y_bNot, y_bYes, y_aNil, y_aCons, y_aStar, y_tup, y_disp, y_fz, y_cb, y_cat, y_of, y_sl, y_dO0, y_dO1, y_ixN, y_lenN, y_chain, y_call0, y_call, y_callR0, y_next, y_brk, y_cnt, y_asg, y_setO, y_gNm, y_gTp, y_gsNil, y_gsCons, y_subO, y_par, y_aug, y_expr, y_app, y_ext, y_ifS, y_ret, y_retN, y_for, y_while, y_iSeq, y_iTp, y_iR1, y_iR2, y_iEn, y_iZp, y_lc, y_raise, y_un1, y_minL, y_swap, y_cmpO, y_call, Bool.true_eq_false, reduceCtorEq, decide_true, decide_false, ix2_0, ix2_1, ix3_0, ix3_1, ix3_2, LcRun, LpRun, wipeP, restP, noX, dite_true, List.nil_append, List.cons_append, Option.getD_some, Option.getD_none, y_repr, y_tupleL, y_tupleT, y_sum, y_all, y_any, y_eqD, y_neD, y_rev, y_dn, y_orT, y_notT, y_ins, y_bits, y_bAnd, y_bOr, y_rt0, y_rtR, y_nx0, y_rtX, y_nxX, y_exX, inV2, inV3, flatD, vOf, List.all_cons, List.all_nil, Bool.and_self, sz_iff, Nat.reduceAdd, Nat.reduceLeDiff, Nat.zero_add, y_dD, y_dB, y_dI, y_dL, y_dSl, y_dSt, y_dAll0, y_dAllS, dAll_map, y_I0, y_I, y_eqI, y_eqS, y_eqB, y_neI, y_neS, y_neB, y_neg, y_ixL, y_ixT, y_min, y_max, y_abs, y_lenL, y_lenT, y_lenS, y_lenB, y_truL, y_truT, y_inL, y_inT, y_ex1, y_exO, y_exR, at0, at1, at2, at3, isNon, List.getElem?_cons_succ, List.getElem?_cons_zero, List.set_cons_succ, List.set_cons_zero, List.length_cons, List.length_nil, List.map_cons, List.map_nil, true_and, and_true, decide_eq_true_eq, Bool.not_eq_true', Bool.not_true, Bool.not_false, if_true, if_false, Bool.false_eq_true, ite_true, ite_false])
              obtain ⟨z, hz, oz⟩ : ∃ z, atI [PyData.str (Str.ofString "u"), .str (Str.ofString "s")] e = some (.str z) ∧ (z = "u" ∨ z = "s") := by
                rcases (show e = 0 ∨ e = 1 by omega) with rfl | rfl
                · exact ⟨_, at0, .inl rfl⟩
                · exact ⟨_, at1, .inr rfl⟩
              refine ⟨_, hz, ?_⟩
              show szL ((cutA (c.map stD) none (some v)).length + 1) ∧ szL ((cutA (c.map stD) none (some v) ++ ([(z, wd)] : Ch).map stD).length + (cutA (c.map stD) (some v) none).length) ∧ R (.d (.list (cutA (c.map stD) none (some v) ++ ([(z, wd)] : Ch).map stD ++ cutA (c.map stD) (some v) none))) _
              rw [k1, k2, cat3]
              obtain ⟨oc, na⟩ := ok_cast oz (show 1 ≤ wd by omega)
              have h1 : chB 1 (B + 10 ^ 30) [(z, wd)] := chB.one ⟨oc, by rw [if_neg na]; exact wd1⟩
              have h2 := (put_ok (hc.up (Nat.le_refl _) (show B ≤ B + 10 ^ 30 by omega)) h1 (v := v.toNat)).up (m' := m + 2) (by omega) (Int.le_refl _)
              have ed : c.drop v.toNat = (x, a) :: c.drop (v.toNat + 1) := by
                rw [List.drop_eq_getElem_cons hvl]
                congr 1
                exact (List.getElem?_eq_some_iff.mp hgt).2
              refine ⟨sz1 1 (by decide), by rw [List.length_append, List.length_map, List.length_map, List.length_map, List.length_take, List.length_drop]; exact szS (m := 100) (by show _ + 1 + _ ≤ 100; omega) (by decide), fin _ _ _ (.inl rfl) h2 (fun y => ?_) (fun kk hk => ?_) (by omega)⟩
              · have e5 : c.take v.toNat ++ [(z, wd)] ++ c.drop v.toNat = c.take v.toNat ++ [(z, wd), (x, a)] ++ c.drop (v.toNat + 1) := by rw [ed]; simp
                rw [e5, conv_mid (b := [(x, a)]) (fun y => ?_) y, ← ec]
                show stepI (stepI y (z, wd)) (x, a) = stepI y (x, a)
                unfold stepI
                rw [if_neg na, if_neg hx, if_neg hx]
                exact cast_cast wd0
              · have e5 : c.take v.toNat ++ [(z, wd)] ++ c.drop v.toNat = c.take v.toNat ++ [(z, wd), (x, a)] ++ c.drop (v.toNat + 1) := by rw [ed]; simp
                rw [e5]
                rw [ec] at hk
                refine sm_mid (fun k ⟨s, hs, s1, s2⟩ => ?_) (fun hn => absurd hn (noC_cast hx)) hk
                rw [List.mem_singleton.mp hs] at s1 s2
                exact ⟨(x, a), by simp, s1, s2⟩
            · rw [if_neg hw1]
              refine hNX _ ?_
              clear hNX NX
              refine y_cut fun NX hNX => ?_
              (try simp only [y_var, y_c, y_op, y_un, y_and, y_or, y_not, y_if, y_isN, y_notN, y_bOf, y_bTru, y_bNot, y_bYes, y_aNil, y_aCons, y_aStar, y_tup, y_disp, y_fz, y_cb, y_cat, y_of, y_sl, y_dO0, y_dO1, y_ixN, y_lenN, y_chain, y_call0, y_call, y_callR0, y_next, y_brk, y_cnt, y_asg, y_setO, y_gNm, y_gTp, y_gsNil, y_gsCons, y_subO, y_par, y_aug, y_expr, y_app, y_ext, y_ifS, y_ret, y_retN, y_for, y_while, y_iSeq, y_iTp, y_iR1, y_iR2, y_iEn, y_iZp, y_lc, y_raise, y_un1, y_minL, y_swap, y_cmpO, y_call, Bool.true_eq_false, reduceCtorEq, decide_true, decide_false, ix2_0, ix2_1, ix3_0, ix3_1, ix3_2, LcRun, LpRun, wipeP, restP, noX, dite_true, List.nil_append, List.cons_append, Option.getD_some, Option.getD_none, y_repr, y_tupleL, y_tupleT, y_sum, y_all, y_any, y_eqD, y_neD, y_rev, y_dn, y_orT, y_notT, y_ins, y_bits, y_bAnd, y_bOr, y_rt0, y_rtR, y_nx0, y_rtX, y_nxX, y_exX, inV2, inV3, flatD, vOf, List.all_cons, List.all_nil, Bool.and_self, sz_iff, Nat.reduceAdd, Nat.reduceLeDiff, Nat.zero_add, y_dD, y_dB, y_dI, y_dL, y_dSl, y_dSt, y_dAll0, y_dAllS, dAll_map, y_I0, y_I, y_eqI, y_eqS, y_eqB, y_neI, y_neS, y_neB, y_neg, y_ixL, y_ixT, y_min, y_max, y_abs, y_lenL, y_lenT, y_lenS, y_lenB, y_truL, y_truT, y_inL, y_inT, y_ex1, y_exO, y_exR, at0, at1, at2, at3, isNon, List.getElem?_cons_succ, List.getElem?_cons_zero, List.set_cons_succ, List.set_cons_zero, List.length_cons, List.length_nil, List.map_cons, List.map_nil, true_and, and_true, decide_eq_true_eq, Bool.not_eq_true', Bool.not_true, Bool.not_false, if_true, if_false, Bool.false_eq_true, ite_true, ite_false])
              refine ⟨a - 1, rfl, by omega, by omega, hNX _ ?_⟩
              clear hNX NX
              refine y_cut fun NX hNX => ?_
              (try simp only [y_var, y_c, y_op, y_un, y_and, y_or, y_not, y_if, y_isN, y_notN, y_bOf, y_bTru, y_bNot, y_bYes, y_aNil, y_aCons, y_aStar, y_tup, y_disp, y_fz, y_cb, y_cat, y_of, y_sl, y_dO0, y_dO1, y_ixN, y_lenN, y_chain, y_call0, y_call, y_callR0, y_next, y_brk, y_cnt, y_asg, y_setO, y_gNm, y_gTp, y_gsNil, y_gsCons, y_subO, y_par, y_aug, y_expr, y_app, y_ext, y_ifS, y_ret, y_retN, y_for, y_while, y_iSeq, y_iTp, y_iR1, y_iR2, y_iEn, y_iZp, y_lc, y_raise, y_un1, y_minL, y_swap, y_cmpO, y_call, Bool.true_eq_false, reduceCtorEq, decide_true, decide_false, ix2_0, ix2_1, ix3_0, ix3_1, ix3_2, LcRun, LpRun, wipeP, restP, noX, dite_true, List.nil_append, List.cons_append, Option.getD_some, Option.getD_none, y_repr, y_tupleL, y_tupleT, y_sum, y_all, y_any, y_eqD, y_neD, y_rev, y_dn, y_orT, y_notT, y_ins, y_bits, y_bAnd, y_bOr, y_rt0, y_rtR, y_nx0, y_rtX, y_nxX, y_exX, inV2, inV3, flatD, vOf, List.all_cons, List.all_nil, Bool.and_self, sz_iff, Nat.reduceAdd, Nat.reduceLeDiff, Nat.zero_add, y_dD, y_dB, y_dI, y_dL, y_dSl, y_dSt, y_dAll0, y_dAllS, dAll_map, y_I0, y_I, y_eqI, y_eqS, y_eqB, y_neI, y_neS, y_neB, y_neg, y_ixL, y_ixT, y_min, y_max, y_abs, y_lenL, y_lenT, y_lenS, y_lenB, y_truL, y_truT, y_inL, y_inT, y_ex1, y_exO, y_exR, at0, at1, at2, at3, isNon, List.getElem?_cons_succ, List.getElem?_cons_zero, List.set_cons_succ, List.set_cons_zero, List.length_cons, List.length_nil, List.map_cons, List.map_nil, true_and, and_true, decide_eq_true_eq, Bool.not_eq_true', Bool.not_true, Bool.not_false, if_true, if_false, Bool.false_eq_true, ite_true, ite_false])
              refine hNX _ ?_
              clear hNX NX
              have p1 : (2 : Int) ^ (a - 1).toNat ≤ 2 ^ (63 : Int).toNat := two_mono (by omega)
              have p2 : (2 : Int) ^ (63 : Int).toNat = 9223372036854775808 := by decide
              have p3 := two_pos (a - 1).toNat
              obtain ⟨tw1, tw2⟩ := two_ways hw2.2
              have fin2 : ∀ mid : Ch, mid.length = 3 → chB 3 B mid → (∀ y, convI y mid = convI y [(x, a)]) → (∃ s ∈ mid, ¬ s.1 = "add" ∧ s.2 = a) → szL ((cutA (c.map stD) none (some v)).length + 3) ∧ szL ((cutA (c.map stD) none (some v) ++ mid.map stD).length + (cutA (c.map stD) (some (v + 1)) none).length) ∧ R (.d (.list (cutA (c.map stD) none (some v) ++ mid.map stD ++ cutA (c.map stD) (some (v + 1)) none))) k := fun mid ml h1 hcv ⟨s, hs, s1, s2⟩ => by
                rw [k1, k3, cat3]
                have h2 := (repl_ok hc h1 (v := v.toNat) hvl).up (m' := m + 2) (by omega) (show B ≤ B + 10 ^ 30 by omega)
                refine ⟨sz1 3 (by decide), by rw [List.length_append, List.length_map, List.length_map, List.length_map, List.length_take, List.length_drop, ml]; exact szS (m := 100) (by omega) (by decide), fin _ _ _ (.inr rfl) h2 (fun y => ?_) (fun kk hk => ?_) (by omega)⟩
                · rw [conv_mid (b := [(x, a)]) hcv y, ← ec]
                · rw [ec] at hk
                  refine sm_mid (fun k ⟨t, ht, t1, t2⟩ => ?_) (fun hn => absurd hn (noC_cast hx)) hk
                  rw [List.mem_singleton.mp ht] at t2
                  exact ⟨s, hs, s1, by rw [s2]; exact t2⟩
              refine y_cut fun NX hNX => ?_
              (try simp only [y_var, y_c, y_op, y_un, y_and, y_or, y_not, y_if, y_isN, y_notN, y_bOf, y_bTru, y_bNot, y_bYes, y_aNil, y_aCons, y_aStar, y_tup, y_disp, y_fz, y_cb, y_cat, y_of, y_sl, y_dO0, y_dO1, y_ixN, y_lenN, y_chain, y_call0, y_call, y_callR0, y_next, y_brk, y_cnt, y_asg, y_setO, y_gNm, y_gTp, y_gsNil, y_gsCons, y_subO, y_par, y_aug, y_expr, y_app, y_ext, y_ifS, y_ret, y_retN, y_for, y_while, y_iSeq, y_iTp, y_iR1, y_iR2, y_iEn, y_iZp, y_lc, y_raise, y_un1, y_minL, y_swap, y_cmpO, y_call, Bool.true_eq_false, reduceCtorEq, decide_true, decide_false, ix2_0, ix2_1, ix3_0, ix3_1, ix3_2, LcRun, LpRun, wipeP, restP, noX, dite_true, List.nil_append, List.cons_append, Option.getD_some, Option.getD_none, y_repr, y_tupleL, y_tupleT, y_sum, y_all, y_any, y_eqD, y_neD, y_rev, y_dn, y_orT, y_notT, y_ins, y_bits, y_bAnd, y_bOr, y_rt0, y_rtR, y_nx0, y_rtX, y_nxX, y_exX, inV2, inV3, flatD, vOf, List.all_cons, List.all_nil, Bool.and_self, sz_iff, Nat.reduceAdd, Nat.reduceLeDiff, Nat.zero_add, y_dD, y_dB, y_dI, y_dL, y_dSl, y_dSt, y_dAll0, y_dAllS, dAll_map, y_I0, y_I, y_eqI, y_eqS, y_eqB, y_neI, y_neS, y_neB, y_neg, y_ixL, y_ixT, y_min, y_max, y_abs, y_lenL, y_lenT, y_lenS, y_lenB, y_truL, y_truT, y_inL, y_inT, y_ex1, y_exO, y_exR, at0, at1, at2, at3, isNon, List.getElem?_cons_succ, List.getElem?_cons_zero, List.set_cons_succ, List.set_cons_zero, List.length_cons, List.length_nil, List.map_cons, List.map_nil, true_and, and_true, decide_eq_true_eq, Bool.not_eq_true', Bool.not_true, Bool.not_false, if_true, if_false, Bool.false_eq_true, ite_true, ite_false])
              by_cases hxu : x = Str.ofString "u"
              · rw [if_pos hxu]
                refine hNX _ ?_
                clear hNX NX
                (try simp only [y_var, y_c, y_op, y_un, y_and, y_or, y_not, y_if, y_isN, y_notN, y_bOf, y_bTru, y_bNot, y_bYes, y_aNil, y_aCons, y_aStar, y_tup, y_disp, y_fz, y_cb, y_cat, y_of, y_sl, y_dO0, y_dO1, y_ixN, y_lenN, y_chain, y_call0, y_call, y_callR0, y_next, y_brk, y_cnt, y_asg, y_setO, y_gNm, y_gTp, y_gsNil, y_gsCons, y_subO, y_par, y_aug, y_expr, y_app, y_ext, y_ifS, y_ret, y_retN, y_for, y_while, y_iSeq, y_iTp, y_iR1, y_iR2, y_iEn, y_iZp, y_lc, y_raise, y_un1, y_minL, y_swap, y_cmpO, y_call, Bool.true_eq_false, reduceCtorEq, decide_true, decide_false, ix2_0, ix2_1, ix3_0, ix3_1, ix3_2, LcRun, LpRun, wipeP, restP, noX, dite_true, List.nil_append, List.cons_append, Option.getD_some, Option.getD_none, y_repr, y_tupleL, y_tupleT, y_sum, y_all, y_any, y_eqD, y_neD, y_rev, y_dn, y_orT, y_notT, y_ins, y_bits, y_bAnd, y_bOr, y_rt0, y_rtR, y_nx0, y_rtX, y_nxX, y_exX, inV2, inV3, flatD, vOf, List.all_cons, List.all_nil, Bool.and_self, sz_iff, Nat.reduceAdd, Nat.reduceLeDiff, Nat.zero_add, y_dD, y_dB, y_dI, y_dL, y_dSl, y_dSt, y_dAll0, y_dAllS, dAll_map, y_I0, y_I, y_eqI, y_eqS, y_eqB, y_neI, y_neS, y_neB, y_neg, y_ixL, y_ixT, y_min, y_max, y_abs, y_lenL, y_lenT, y_lenS, y_lenB, y_truL, y_truT, y_inL, y_inT, y_ex1, y_exO, y_exR, at0, at1, at2, at3, isNon, List.getElem?_cons_succ, List.getElem?_cons_zero, List.set_cons_succ, List.set_cons_zero, List.length_cons, List.length_nil, List.map_cons, List.map_nil, true_and, and_true, decide_eq_true_eq, Bool.not_eq_true', Bool.not_true, Bool.not_false, if_true, if_false, Bool.false_eq_true, ite_true, ite_false])
                refine fin2 [("add", 0 - 2 ^ (a - 1).toNat), ("s", a), ("add", 2 ^ (a - 1).toNat)] rfl ?_ (fun y => by rw [tw2, hxu]) ⟨("s", a), by simp, (ok_cast (.inr rfl) hw2.2).2, rfl⟩
                refine (chB.one (s := ("add", 0 - 2 ^ (a - 1).toNat)) ⟨ok_add, by rw [if_pos rfl]; exact ⟨by show -B ≤ 0 - 2 ^ (a - 1).toNat; omega, by show 0 - 2 ^ (a - 1).toNat ≤ B; omega⟩⟩).app ((chB.one (s := ("s", a)) ⟨(ok_cast (.inr rfl) hw2.2).1, by rw [if_neg (ok_cast (n := a) (.inr rfl) hw2.2).2]; exact bx⟩).app (chB.one (s := ("add", 2 ^ (a - 1).toNat)) ⟨ok_add, by rw [if_pos rfl]; exact ⟨by show -B ≤ 2 ^ (a - 1).toNat; omega, by show 2 ^ (a - 1).toNat ≤ B; omega⟩⟩))
              · rw [if_neg hxu]
                have hxs : x = Str.ofString "s" := hw2.1.elim (fun h => absurd h hxu) id
                refine hNX _ ?_
                clear hNX NX
                (try simp only [y_var, y_c, y_op, y_un, y_and, y_or, y_not, y_if, y_isN, y_notN, y_bOf, y_bTru, y_bNot, y_bYes, y_aNil, y_aCons, y_aStar, y_tup, y_disp, y_fz, y_cb, y_cat, y_of, y_sl, y_dO0, y_dO1, y_ixN, y_lenN, y_chain, y_call0, y_call, y_callR0, y_next, y_brk, y_cnt, y_asg, y_setO, y_gNm, y_gTp, y_gsNil, y_gsCons, y_subO, y_par, y_aug, y_expr, y_app, y_ext, y_ifS, y_ret, y_retN, y_for, y_while, y_iSeq, y_iTp, y_iR1, y_iR2, y_iEn, y_iZp, y_lc, y_raise, y_un1, y_minL, y_swap, y_cmpO, y_call, Bool.true_eq_false, reduceCtorEq, decide_true, decide_false, ix2_0, ix2_1, ix3_0, ix3_1, ix3_2, LcRun, LpRun, wipeP, restP, noX, dite_true, List.nil_append, List.cons_append, Option.getD_some, Option.getD_none, y_repr, y_tupleL, y_tupleT, y_sum, y_all, y_any, y_eqD, y_neD, y_rev, y_dn, y_orT, y_notT, y_ins, y_bits, y_bAnd, y_bOr, y_rt0, y_rtR, y_nx0, y_rtX, y_nxX, y_exX, inV2, inV3, flatD, vOf, List.all_cons, List.all_nil, Bool.and_self, sz_iff, Nat.reduceAdd, Nat.reduceLeDiff, Nat.zero_add, y_dD, y_dB, y_dI, y_dL, y_dSl, y_dSt, y_dAll0, y_dAllS, dAll_map, y_I0, y_I, y_eqI, y_eqS, y_eqB, y_neI, y_neS, y_neB, y_neg, y_ixL, y_ixT, y_min, y_max, y_abs, y_lenL, y_lenT, y_lenS, y_lenB, y_truL, y_truT, y_inL, y_inT, y_ex1, y_exO, y_exR, at0, at1, at2, at3, isNon, List.getElem?_cons_succ, List.getElem?_cons_zero, List.set_cons_succ, List.set_cons_zero, List.length_cons, List.length_nil, List.map_cons, List.map_nil, true_and, and_true, decide_eq_true_eq, Bool.not_eq_true', Bool.not_true, Bool.not_false, if_true, if_false, Bool.false_eq_true, ite_true, ite_false])
                refine fin2 [("add", 2 ^ (a - 1).toNat), ("u", a), ("add", 0 - 2 ^ (a - 1).toNat)] rfl ?_ (fun y => by rw [tw1, hxs]) ⟨("u", a), by simp, (ok_cast (.inl rfl) hw2.2).2, rfl⟩
                refine (chB.one (s := ("add", 2 ^ (a - 1).toNat)) ⟨ok_add, by rw [if_pos rfl]; exact ⟨by show -B ≤ 2 ^ (a - 1).toNat; omega, by show 2 ^ (a - 1).toNat ≤ B; omega⟩⟩).app ((chB.one (s := ("u", a)) ⟨(ok_cast (.inl rfl) hw2.2).1, by rw [if_neg (ok_cast (n := a) (.inl rfl) hw2.2).2]; exact bx⟩).app (chB.one (s := ("add", 0 - 2 ^ (a - 1).toNat)) ⟨ok_add, by rw [if_pos rfl]; exact ⟨by show -B ≤ 0 - 2 ^ (a - 1).toNat; omega, by show 0 - 2 ^ (a - 1).toNat ≤ B; omega⟩⟩))
    cases he : c.isEmpty with
    | true =>
      rw [if_neg (by decide)]
      exact main 0 _ (by omega) (.inl (List.isEmpty_iff.mp he)) (by omega)
    | false =>
      have hcp : 1 ≤ c.length := by
        cases hh : c with
        | nil => rw [hh] at he; cases he
        | cons => rw [List.length_cons]; omega
      rw [if_pos rfl]
      refine ⟨_, rfl, by omega, by rw [List.length_map]; omega, Int.lt_of_le_of_lt (show _ ≤ (50 : Int) by rw [List.length_map]; omega) (by decide +kernel), fun v v0 v1 => ?_⟩
      rw [List.length_map] at v1
      exact main v _ v0 (.inr (by omega)) (by omega)
end

end Cc

set_option Elab.async false
set_option linter.all false
set_option maxRecDepth 100000
set_option maxHeartbeats 4000000
namespace Cc
open PySem PySem.Spec PyProof.Rows L2
abbrev s_law_agree : Stmt := topS 27
theorem sc_law_agree : FnScope ["one", "two", "casts", "most", "word", "amount", "x"] ["one", "two"] (defScope s_law_agree) := ⟨rfl, rfl, rfl, by decide +kernel, rfl, by decide +kernel, by decide +kernel⟩
section
def pMaxL : PL
  | [.d (.list ds)], R => ∃ ns : List Int, ds = ns.map PyData.int ∧ 0 < ns.length ∧ ∀ m, m ∈ ns → (∀ y, y ∈ ns → y ≤ m) → R (.int m)
  | _, _ => False
theorem cd_maxL {Γ : Gx} : CallD Γ (rMax Γ.K) pMaxL := fun f F H σ ρ vs xs Q R E r p o => by
  unfold pMaxL at p
  split at p
  · obtain ⟨u, rfl, r1⟩ := rp1 r
    obtain ⟨ns, rfl, hp, p⟩ := p
    cases r1 with
    | lst hs ha =>
      have e := ha.ints
      subst e
      exact ⟨_, ns, rfl, .of (E.s1 _ _ hs), hp, fun m hm hle => o _ _ _ _ (p m hm hle) E (Same.refl _) (.int _)⟩
  · exact p.elim
theorem y_maxL {ds : List PyData} {Q : PyData → Prop} : pMaxL [.d (.list ds)] Q ↔ ∃ ns : List Int, ds = ns.map PyData.int ∧ 0 < ns.length ∧ ∀ m, m ∈ ns → (∀ y, y ∈ ns → y ≤ m) → Q (.int m) := Iff.rfl
end
section
variable {P : Program} {w : World} {K : PySem.W.Frag} {mg : Str → Option Value} {base : Heap} {C : Nat → Addr} {CS : Addr}
def phChg : Phi := fun n xs R _ => ∃ (c : Ch) (m : Nat) (B : Int), xs = [.d (chD c)] ∧ chB m B c ∧ 1 ≤ m ∧ m ≤ 40 ∧ 10 ^ 29 ≤ B ∧ n < 90000000 ∧ ∀ (c' : Ch) k, chB m (B + 300) c' → (smC 6 c → smC 7 c') → k ≤ n + 3 → R (.d (chD c')) k
theorem q_chg (T : Tx K mg "_law_changed" s_law_changed) (m_min : mg "min" = none) (m_max : mg "max" = none) (m_len : mg "len" = none) (m_list : mg "list" = none) (h__law_draw : Pr P w K mg base CX0 1 "_law_draw" ["pool", "many"] (spP (poolG K C CS) true phDraw)) : Pr P w K mg base CX0 2 "_law_changed" ["pool", "steps_here"] (spP (poolG K C CS) true phChg) := by
  refine mkPP (Γ := poolG K C CS) T sc_law_changed (fun _ _ _ _ _ _ us hl => match us, hl with | [_, _], _ => rfl) (fun n xs R Xx h => ?_) (fun n xs R Xx h => h) (fun f cdv A outer s H E hG hr => ?_)
  · obtain ⟨_, _, _, rfl, _⟩ := h
    rfl
  · have nd := sc_law_changed.nd
    refine ⟨_, _, (dss_cons (fun h h' => pss_cons h h') (ds_setO (i := 2) (fun h => ps_set nd rfl (.inl rfl) h) (dl_of (fun h => pe_callTy call_list_of (by rfl) m_list (by decide +kernel) (pa_cons h pa_nil)) (de_var (pv 1)))) (dss_cons (fun h h' => pss_cons h h') (ds_if (fun h a b => ps_if h a b) (dt_eqO (i := 2) (fun h => pt_cmpR (op_eqD hr.units) (pv 2) h (nomark _)) (de_fz (dl_disp (fun h => pe_lst h) (da_nil pa_nil)))) (dss_one (fun h => pss_one h) (ds_ret (fun h => ps_ret h) (de_fz (dl_disp (fun h => pe_lst h) (da_cons (fun h t => pa_cons h t) (de_tup (fun h => pe_tup h) (da_cons (fun h t => pa_cons h t) (de_c pe_str (fun _ => .str _)) (da_cons (fun h t => pa_cons h t) (de_c pe_int (fun _ => .int _)) (da_nil pa_nil)))) (da_nil pa_nil)))))) (dss_nil pss_nil)) (dss_cons (fun h h' => pss_cons h h') (ds_set (i := 3) (fun h => ps_set nd rfl (.inl rfl) h) (de_callR0 (i := 0) (fun h => pe_P h__law_draw hr hG (by rfl) (pa_cons (pv 0) h)) (da_cons (fun h t => pa_cons h t) (de_lenN (pe_callB call_len_seq (by rfl) m_len (by decide +kernel) (pa_cons (pv 2) pa_nil))) (da_nil pa_nil)))) (dss_cons (fun h h' => pss_cons h h') (ds_asg (fun h g => ps_asg h g) (de_ixN (fun h => pe_ix (ixSK rfl) (pv 2) h (fun _ _ => rfl)) (de_var (pv 3))) (dg_tup (n := 2) (fun h => pg_tup rfl h) (dgs_cons (fun g h => pgs_cons g h) (dg_name (pg_name (i := 4) nd rfl (.inl rfl))) (dgs_cons (fun g h => pgs_cons g h) (dg_name (pg_name (i := 5) nd rfl (.inl rfl))) (dgs_nil pgs_nil))))) (dss_cons (fun h h' => pss_cons h h') (ds_if (fun h a b => ps_if h a b) (dt_cmp opd_eq (fun h h' => pt_cmpR op_eq h h' (nomark _)) (de_var (pv 4)) (de_c pe_str (fun _ => .str _))) (dss_one (fun h => pss_one h) (ds_asg (fun h g => ps_asg h g) (de_tup (fun h => pe_tup h) (da_cons (fun h t => pa_cons h t) (de_var (pv 4)) (da_cons (fun h t => pa_cons h t) (de_op opd_int0 (fun h h' => pe_op op_add h h') (de_var (pv 5)) (de_op opd_ix (fun h h' => pe_ix (ixSK rfl) h h' (fun _ _ => rfl)) (de_fz (dl_disp (fun h => pe_lst h) (da_cons (fun h t => pa_cons h t) (de_c pe_int (fun _ => .int _)) (da_cons (fun h t => pa_cons h t) (de_un (fun h => pe_un un_neg h) (de_c pe_int (fun _ => .int _))) (da_cons (fun h t => pa_cons h t) (de_c pe_int (fun _ => .int _)) (da_cons (fun h t => pa_cons h t) (de_c pe_int (fun _ => .int _)) (da_nil pa_nil))))))) (de_callR0 (i := 0) (fun h => pe_P h__law_draw hr hG (by rfl) (pa_cons (pv 0) h)) (da_cons (fun h t => pa_cons h t) (de_c pe_int (fun _ => .int _)) (da_nil pa_nil))))) (da_nil pa_nil)))) (dg_subO (i := 2) (fun h => pg_sub (pv 2) h set_list) (de_var (pv 3))))) (dss_cons (fun h h' => pss_cons h h') (ds_set (i := 6) (fun h => ps_set nd rfl (.inl rfl) h) (de_fz (dl_disp (fun h => pe_lst h) (da_cons (fun h t => pa_cons h t) (de_tup (fun h => pe_tup h) (da_cons (fun h t => pa_cons h t) (de_swap (i := 4) (by exact pe_dget (Nat.lt_of_le_of_lt (Nat.add_le_add_left (by decide : 1 ≤ 64) _) hr.units) (pe_disp (pps_cons pe_str pe_str (pps_cons pe_str pe_str pps_nil)) rfl rfl nofun (by decide)) (pv 4) (fun _ _ => rfl))) (da_cons (fun h t => pa_cons h t) (de_var (pv 5)) (da_nil pa_nil)))) (da_cons (fun h t => pa_cons h t) (de_tup (fun h => pe_tup h) (da_cons (fun h t => pa_cons h t) (de_var (pv 4)) (da_cons (fun h t => pa_cons h t) (de_cb cd_min (fun h => pe_callB (call_min2 rfl) (by rfl) m_min (by decide +kernel) h) (da_cons (fun h t => pa_cons h t) (de_c pe_int (fun _ => .int _)) (da_cons (fun h t => pa_cons h t) (de_op opd_int0 (fun h h' => pe_op op_add h h') (de_var (pv 5)) (de_c pe_int (fun _ => .int _))) (da_nil pa_nil)))) (da_nil pa_nil)))) (da_cons (fun h t => pa_cons h t) (de_tup (fun h => pe_tup h) (da_cons (fun h t => pa_cons h t) (de_var (pv 4)) (da_cons (fun h t => pa_cons h t) (de_cb cd_max (fun h => pe_callB (call_max2 rfl) (by rfl) m_max (by decide +kernel) h) (da_cons (fun h t => pa_cons h t) (de_c pe_int (fun _ => .int _)) (da_cons (fun h t => pa_cons h t) (de_op opd_int0 (fun h h' => pe_op op_sub h h') (de_var (pv 5)) (de_c pe_int (fun _ => .int _))) (da_nil pa_nil)))) (da_nil pa_nil)))) (da_nil pa_nil))))))) (dss_one (fun h => pss_one h) (ds_asg (fun h g => ps_asg h g) (de_ixN (fun h => pe_ix (ixSK rfl) (pv 6) h (fun _ _ => rfl)) (de_callR0 (i := 0) (fun h => pe_P h__law_draw hr hG (by rfl) (pa_cons (pv 0) h)) (da_cons (fun h t => pa_cons h t) (de_c pe_int (fun _ => .int _)) (da_nil pa_nil)))) (dg_subO (i := 2) (fun h => pg_sub (pv 2) h set_list) (de_var (pv 3))))))) (dss_one (fun h => pss_one h) (ds_ret (fun h => ps_ret h) (de_var (pv 2))))))))), fun n xs R h => ?_⟩
    obtain ⟨c, m, B, rfl, hc, hm1, hm, hB, hn, q⟩ := h
    rw [show chD c = .list (c.map stD) from rfl]
    have hl := hc.1
    have t29 : (10 : Int) ^ 29 = 100000000000000000000000000000 := by decide
    show (sSeq _ _) [.rng n, .a (.d (.list (c.map stD))), .un, .un, .un, .un, .un] _
    refine y_cut fun NX hNX => ?_
    (try simp only [y_var, y_c, y_op, y_un, y_and, y_or, y_not, y_if, y_isN, y_notN, y_bOf, y_bTru, y_bNot, y_bYes, y_aNil, y_aCons, y_aStar, y_tup, y_disp, y_fz, y_cb, y_cat, y_of, y_sl, y_dO0, y_dO1, y_ixN, y_lenN, y_chain, y_call0, y_call, y_callR0, y_next, y_brk, y_cnt, y_asg, y_setO, y_gNm, y_gTp, y_gsNil, y_gsCons, y_subO, y_par, y_aug, y_expr, y_app, y_ext, y_ifS, y_ret, y_retN, y_for, y_while, y_iSeq, y_iTp, y_iR1, y_iR2, y_iEn, y_iZp, y_lc, y_raise, y_un1, y_maxL, y_minL, y_swap, y_cmpO, y_call, Bool.true_eq_false, reduceCtorEq, decide_true, decide_false, ix2_0, ix2_1, ix3_0, ix3_1, ix3_2, LcRun, LpRun, wipeP, restP, noX, dite_true, List.nil_append, List.cons_append, Option.getD_some, Option.getD_none, y_repr, y_tupleL, y_tupleT, y_sum, y_all, y_any, y_eqD, y_neD, y_rev, y_dn, y_orT, y_notT, y_ins, y_bits, y_bAnd, y_bOr, y_rt0, y_rtR, y_nx0, y_rtX, y_nxX, y_exX, inV2, inV3, flatD, vOf, List.all_cons, List.all_nil, Bool.and_self, sz_iff, Nat.reduceAdd, Nat.reduceLeDiff, Nat.zero_add, y_dD, y_dB, y_dI, y_dL, y_dSl, y_dSt, y_dAll0, y_dAllS, dAll_map, y_I0, y_I, y_eqI, y_eqS, y_eqB, y_neI, y_neS, y_neB, y_neg, y_ixL, y_ixT, y_min, y_max, y_abs, y_lenL, y_lenT, y_lenS, y_lenB, y_truL, y_truT, y_inL, y_inT, y_ex1, y_exO, y_exR, at0, at1, at2, at3, isNon, List.getElem?_cons_succ, List.getElem?_cons_zero, List.set_cons_succ, List.set_cons_zero, List.length_cons, List.length_nil, List.map_cons, List.map_nil, true_and, and_true, decide_eq_true_eq, Bool.not_eq_true', Bool.not_true, Bool.not_false, if_true, if_false, Bool.false_eq_true, ite_true, ite_false])
    refine hNX _ ?_
    clear hNX NX
    refine y_cut fun NX hNX => ?_
    (try simp only [y_var, y_c, y_op, y_un, y_and, y_or, y_not, y_if, y_isN, y_notN, y_bOf, y_bTru, y_bNot, y_bYes, y_aNil, y_aCons, y_aStar, y_tup, y_disp, y_fz, y_cb, y_cat, y_of, y_sl, y_dO0, y_dO1, y_ixN, y_lenN, y_chain, y_call0, y_call, y_callR0, y_next, y_brk, y_cnt, y_asg, y_setO, y_gNm, y_gTp, y_gsNil, y_gsCons, y_subO, y_par, y_aug, y_expr, y_app, y_ext, y_ifS, y_ret, y_retN, y_for, y_while, y_iSeq, y_iTp, y_iR1, y_iR2, y_iEn, y_iZp, y_lc, y_raise, y_un1, y_maxL, y_minL, y_swap, y_cmpO, y_call, Bool.true_eq_false, reduceCtorEq, decide_true, decide_false, ix2_0, ix2_1, ix3_0, ix3_1, ix3_2, LcRun, LpRun, wipeP, restP, noX, dite_true, List.nil_append, List.cons_append, Option.getD_some, Option.getD_none, y_repr, y_tupleL, y_tupleT, y_sum, y_all, y_any, y_eqD, y_neD, y_rev, y_dn, y_orT, y_notT, y_ins, y_bits, y_bAnd, y_bOr, y_rt0, y_rtR, y_nx0, y_rtX, y_nxX, y_exX, inV2, inV3, flatD, vOf, List.all_cons, List.all_nil, Bool.and_self, sz_iff, Nat.reduceAdd, Nat.reduceLeDiff, Nat.zero_add, y_dD, y_dB, y_dI, y_dL, y_dSl, y_dSt, y_dAll0, y_dAllS, dAll_map, y_I0, y_I, y_eqI, y_eqS, y_eqB, y_neI, y_neS, y_neB, y_neg, y_ixL, y_ixT, y_min, y_max, y_abs, y_lenL, y_lenT, y_lenS, y_lenB, y_truL, y_truT, y_inL, y_inT, y_ex1, y_exO, y_exR, at0, at1, at2, at3, isNon, List.getElem?_cons_succ, List.getElem?_cons_zero, List.set_cons_succ, List.set_cons_zero, List.length_cons, List.length_nil, List.map_cons, List.map_nil, true_and, and_true, decide_eq_true_eq, Bool.not_eq_true', Bool.not_true, Bool.not_false, if_true, if_false, Bool.false_eq_true, ite_true, ite_false])
    refine ⟨hc.sh, shE, ?_⟩
    rw [ch_ne]
    cases he : c.isEmpty with
    | true =>
      rw [if_pos rfl]
      exact q [("add", 1)] n ((chB.one ⟨ok_add, by rw [if_pos rfl]; exact ⟨by show -(B + 300) ≤ 1; omega, by show 1 ≤ B + 300; omega⟩⟩).up hm1 (Int.le_refl _)) (fun _ => .inl noC_add) (by omega)
    | false =>
      have hcp : 1 ≤ c.length := by
        cases hh : c with
        | nil => rw [hh] at he; cases he
        | cons => rw [List.length_cons]; omega
      rw [if_neg (by decide)]
      refine hNX _ ?_
      clear hNX NX
      refine y_cut fun NX hNX => ?_
      (try simp only [y_var, y_c, y_op, y_un, y_and, y_or, y_not, y_if, y_isN, y_notN, y_bOf, y_bTru, y_bNot, y_bYes, y_aNil, y_aCons, y_aStar, y_tup, y_disp, y_fz, y_cb, y_cat, y_of, y_sl, y_dO0, y_dO1, y_ixN, y_lenN, y_chain, y_call0, y_call, y_callR0, y_next, y_brk, y_cnt, y_asg, y_setO, y_gNm, y_gTp, y_gsNil, y_gsCons, y_subO, y_par, y_aug, y_expr, y_app, y_ext, y_ifS, y_ret, y_retN, y_for, y_while, y_iSeq, y_iTp, y_iR1, y_iR2, y_iEn, y_iZp, y_lc, y_raise, y_un1, y_maxL, y_minL, y_swap, y_cmpO, y_call, Bool.true_eq_false, reduceCtorEq, decide_true, decide_false, ix2_0, ix2_1, ix3_0, ix3_1, ix3_2, LcRun, LpRun, wipeP, restP, noX, dite_true, List.nil_append, List.cons_append, Option.getD_some, Option.getD_none, y_repr, y_tupleL, y_tupleT, y_sum, y_all, y_any, y_eqD, y_neD, y_rev, y_dn, y_orT, y_notT, y_ins, y_bits, y_bAnd, y_bOr, y_rt0, y_rtR, y_nx0, y_rtX, y_nxX, y_exX, inV2, inV3, flatD, vOf, List.all_cons, List.all_nil, Bool.and_self, sz_iff, Nat.reduceAdd, Nat.reduceLeDiff, Nat.zero_add, y_dD, y_dB, y_dI, y_dL, y_dSl, y_dSt, y_dAll0, y_dAllS, dAll_map, y_I0, y_I, y_eqI, y_eqS, y_eqB, y_neI, y_neS, y_neB, y_neg, y_ixL, y_ixT, y_min, y_max, y_abs, y_lenL, y_lenT, y_lenS, y_lenB, y_truL, y_truT, y_inL, y_inT, y_ex1, y_exO, y_exR, at0, at1, at2, at3, isNon, List.getElem?_cons_succ, List.getElem?_cons_zero, List.set_cons_succ, List.set_cons_zero, List.length_cons, List.length_nil, List.map_cons, List.map_nil, true_and, and_true, decide_eq_true_eq, Bool.not_eq_true', Bool.not_true, Bool.not_false, if_true, if_false, Bool.false_eq_true, ite_true, ite_false])
      refine ⟨_, rfl, by omega, by rw [List.length_map]; omega, Int.lt_of_le_of_lt (show _ ≤ (50 : Int) by rw [List.length_map]; omega) (by decide +kernel), fun v v0 v1 => hNX _ ?_⟩
      rw [List.length_map] at v1
      clear hNX NX
      have hvl : v.toNat < c.length := by omega
      obtain ⟨⟨x, a⟩, hgt⟩ : ∃ s, c[v.toNat]? = some s := ⟨_, List.getElem?_eq_getElem hvl⟩
      have ev : ((v.toNat : Nat) : Int) = v := Int.toNat_of_nonneg v0
      have hat : atI (c.map stD) v = some (stD (x, a)) := by
        have := atI_nat (xs := c.map stD) (j := v.toNat) (by rw [List.getElem?_map, hgt]; rfl)
        rwa [ev] at this
      have hix : ixN (c.map stD).length v = some v.toNat := by
        rw [List.length_map]
        have := ixN_here (n := c.length) (j := v.toNat) hvl
        rwa [Int.zero_add, ev] at this
      have hmem := List.mem_of_getElem? hgt
      obtain ⟨okx, bx⟩ := hc.2 _ hmem
      have ec := take1 hgt
      have fin : ∀ (z : Str) (b : Int) (kk : Nat), okS (z, b) = true ∧ (if (z, b).1 = "add" then -(B + 300) ≤ (z, b).2 ∧ (z, b).2 ≤ B + 300 else (z, b).2 ≤ 64) → (x = "add" → z = "add") → (¬ x = "add" → ¬ z = "add" ∧ (a ≤ 6 → b ≤ 7)) → kk ≤ n + 3 → R (.d (.list ((c.map stD).set v.toNat (.tuple [.str z, .int b])))) kk := fun z b kk h1 h2 h3 hk => by
        have es : (c.map stD).set v.toNat (.tuple [.str z, .int b]) = (c.take v.toNat ++ [(z, b)] ++ c.drop (v.toNat + 1)).map stD := by
          rw [List.set_eq_take_append_cons_drop, if_pos (by rw [List.length_map]; exact hvl), List.map_append, List.map_append, List.map_take, List.map_drop]
          simp [stD]
        rw [es]
        have := (repl_ok (hc.up (Nat.le_refl _) (show B ≤ B + 300 by omega)) (chB.one h1) (v := v.toNat) hvl).up (m' := m) (by omega) (Int.le_refl _)
        refine q _ kk this (fun hs => ?_) hk
        rw [ec] at hs
        rcases hs with hs | ⟨s, hs, s1, s2⟩
        · refine .inl fun t ht => ?_
          rcases List.mem_append.mp ht with ht | ht
          · rcases List.mem_append.mp ht with ht | ht
            · exact hs t (by simp [ht])
            · rw [List.mem_singleton.mp ht]
              exact h2 (hs (x, a) (by simp))
          · exact hs t (by simp [ht])
        · rcases List.mem_append.mp hs with hs | hs
          · rcases List.mem_append.mp hs with hs | hs
            · exact .inr ⟨s, by simp [hs], s1, by omega⟩
            · rw [List.mem_singleton.mp hs] at s1 s2
              obtain ⟨g1, g2⟩ := h3 s1
              exact .inr ⟨(z, b), by simp, g1, g2 s2⟩
          · exact .inr ⟨s, by simp [hs], s1, by omega⟩
      refine y_cut fun NX hNX => ?_
      (try simp only [y_var, y_c, y_op, y_un, y_and, y_or, y_not, y_if, y_isN, y_notN, y_bOf, y_bTru, y_bNot, y_bYes, y_aNil, y_aCons, y_aStar, y_tup, y_disp, y_fz, y_cb, y_cat, y_of, y_sl, y_dO0, y_dO1, y_ixN, y_lenN, y_chain, y_call0, y_call, y_callR0, y_next, y_brk, y_cnt, y_asg, y_setO, y_gNm, y_gTp, y_gsNil, y_gsCons, y_subO, y_par, y_aug, y_expr, y_app, y_ext, y_ifS, y_ret, y_retN, y_for, y_while, y_iSeq, y_iTp, y_iR1, y_iR2, y_iEn, y_iZp, y_lc, y_raise, y_un1, y_maxL, y_minL, y_swap, y_cmpO, y_call, Bool.true_eq_false, reduceCtorEq, decide_true, decide_false, ix2_0, ix2_1, ix3_0, ix3_1, ix3_2, LcRun, LpRun, wipeP, restP, noX, dite_true, List.nil_append, List.cons_append, Option.getD_some, Option.getD_none, y_repr, y_tupleL, y_tupleT, y_sum, y_all, y_any, y_eqD, y_neD, y_rev, y_dn, y_orT, y_notT, y_ins, y_bits, y_bAnd, y_bOr, y_rt0, y_rtR, y_nx0, y_rtX, y_nxX, y_exX, inV2, inV3, flatD, vOf, List.all_cons, List.all_nil, Bool.and_self, sz_iff, Nat.reduceAdd, Nat.reduceLeDiff, Nat.zero_add, y_dD, y_dB, y_dI, y_dL, y_dSl, y_dSt, y_dAll0, y_dAllS, dAll_map, y_I0, y_I, y_eqI, y_eqS, y_eqB, y_neI, y_neS, y_neB, y_neg, y_ixL, y_ixT, y_min, y_max, y_abs, y_lenL, y_lenT, y_lenS, y_lenB, y_truL, y_truT, y_inL, y_inT, y_ex1, y_exO, y_exR, at0, at1, at2, at3, isNon, List.getElem?_cons_succ, List.getElem?_cons_zero, List.set_cons_succ, List.set_cons_zero, List.length_cons, List.length_nil, List.map_cons, List.map_nil, true_and, and_true, decide_eq_true_eq, Bool.not_eq_true', Bool.not_true, Bool.not_false, if_true, if_false, Bool.false_eq_true, ite_true, ite_false])
      refine ⟨_, hat, ?_⟩
      unfold stD
      (try simp only [y_var, y_c, y_op, y_un, y_and, y_or, y_not, y_if, y_isN, y_notN, y_bOf, y_bTru, y_bNot, y_bYes, y_aNil, y_aCons, y_aStar, y_tup, y_disp, y_fz, y_cb, y_cat, y_of, y_sl, y_dO0, y_dO1, y_ixN, y_lenN, y_chain, y_call0, y_call, y_callR0, y_next, y_brk, y_cnt, y_asg, y_setO, y_gNm, y_gTp, y_gsNil, y_gsCons, y_subO, y_par, y_aug, y_expr, y_app, y_ext, y_ifS, y_ret, y_retN, y_for, y_while, y_iSeq, y_iTp, y_iR1, y_iR2, y_iEn, y_iZp, y_lc, y_raise, y_un1, y_maxL, y_minL, y_swap, y_cmpO, y_call, Bool.true_eq_false, reduceCtorEq, decide_true, decide_false, ix2_0, ix2_1, ix3_0, ix3_1, ix3_2, LcRun, LpRun, wipeP, restP, noX, dite_true, List.nil_append, List.cons_append, Option.getD_some, Option.getD_none, y_repr, y_tupleL, y_tupleT, y_sum, y_all, y_any, y_eqD, y_neD, y_rev, y_dn, y_orT, y_notT, y_ins, y_bits, y_bAnd, y_bOr, y_rt0, y_rtR, y_nx0, y_rtX, y_nxX, y_exX, inV2, inV3, flatD, vOf, List.all_cons, List.all_nil, Bool.and_self, sz_iff, Nat.reduceAdd, Nat.reduceLeDiff, Nat.zero_add, y_dD, y_dB, y_dI, y_dL, y_dSl, y_dSt, y_dAll0, y_dAllS, dAll_map, y_I0, y_I, y_eqI, y_eqS, y_eqB, y_neI, y_neS, y_neB, y_neg, y_ixL, y_ixT, y_min, y_max, y_abs, y_lenL, y_lenT, y_lenS, y_lenB, y_truL, y_truT, y_inL, y_inT, y_ex1, y_exO, y_exR, at0, at1, at2, at3, isNon, List.getElem?_cons_succ, List.getElem?_cons_zero, List.set_cons_succ, List.set_cons_zero, List.length_cons, List.length_nil, List.map_cons, List.map_nil, true_and, and_true, decide_eq_true_eq, Bool.not_eq_true', Bool.not_true, Bool.not_false, if_true, if_false, Bool.false_eq_true, ite_true, ite_false])
      refine hNX _ ?_
      clear hNX NX
      refine y_cut fun NX hNX => ?_
      (try simp only [y_var, y_c, y_op, y_un, y_and, y_or, y_not, y_if, y_isN, y_notN, y_bOf, y_bTru, y_bNot, y_bYes, y_aNil, y_aCons, y_aStar, y_tup, y_disp, y_fz, y_cb, y_cat, y_of, y_sl, y_dO0, y_dO1, y_ixN, y_lenN, y_chain, y_call0, y_call, y_callR0, y_next, y_brk, y_cnt, y_asg, y_setO, y_gNm, y_gTp, y_gsNil, y_gsCons, y_subO, y_par, y_aug, y_expr, y_app, y_ext, y_ifS, y_ret, y_retN, y_for, y_while, y_iSeq, y_iTp, y_iR1, y_iR2, y_iEn, y_iZp, y_lc, y_raise, y_un1, y_maxL, y_minL, y_swap, y_cmpO, y_call, Bool.true_eq_false, reduceCtorEq, decide_true, decide_false, ix2_0, ix2_1, ix3_0, ix3_1, ix3_2, LcRun, LpRun, wipeP, restP, noX, dite_true, List.nil_append, List.cons_append, Option.getD_some, Option.getD_none, y_repr, y_tupleL, y_tupleT, y_sum, y_all, y_any, y_eqD, y_neD, y_rev, y_dn, y_orT, y_notT, y_ins, y_bits, y_bAnd, y_bOr, y_rt0, y_rtR, y_nx0, y_rtX, y_nxX, y_exX, inV2, inV3, flatD, vOf, List.all_cons, List.all_nil, Bool.and_self, sz_iff, Nat.reduceAdd, Nat.reduceLeDiff, Nat.zero_add, y_dD, y_dB, y_dI, y_dL, y_dSl, y_dSt, y_dAll0, y_dAllS, dAll_map, y_I0, y_I, y_eqI, y_eqS, y_eqB, y_neI, y_neS, y_neB, y_neg, y_ixL, y_ixT, y_min, y_max, y_abs, y_lenL, y_lenT, y_lenS, y_lenB, y_truL, y_truT, y_inL, y_inT, y_ex1, y_exO, y_exR, at0, at1, at2, at3, isNon, List.getElem?_cons_succ, List.getElem?_cons_zero, List.set_cons_succ, List.set_cons_zero, List.length_cons, List.length_nil, List.map_cons, List.map_nil, true_and, and_true, decide_eq_true_eq, Bool.not_eq_true', Bool.not_true, Bool.not_false, if_true, if_false, Bool.false_eq_true, ite_true, ite_false])
      by_cases hx : x = "add"
      · rw [if_pos hx] at bx ⊢
        have bx : -B ≤ a ∧ a ≤ B := bx
        refine ⟨4, rfl, by omega, by omega, by decide, fun d d0 d1 => ?_⟩
        (try simp only [y_var, y_c, y_op, y_un, y_and, y_or, y_not, y_if, y_isN, y_notN, y_bOf, y_bTru, y_bNot, y_bYes, y_aNil, y_aCons, y_aStar, y_tup, y_disp, y_fz, y_cb, y_cat, y_of, y_sl, y_dO0, y_dO1, y_ixN, y_lenN, y_chain, y_call0, y_call, y_callR0, y_next, y_brk, y_cnt, y_asg, y_setO, y_gNm, y_gTp, y_gsNil, y_gsCons, y_subO, y_par, y_aug, y_expr, y_app, y_ext, y_ifS, y_ret, y_retN, y_for, y_while, y_iSeq, y_iTp, y_iR1, y_iR2, y_iEn, y_iZp, y_lc, y_raise, y_un1, y_maxL, y_minL, y_swap, y_cmpO, y_call, Bool.true_eq_false, reduceCtorEq, decide_true, decide_false, ix2_0, ix2_1, ix3_0, ix3_1, ix3_2, LcRun, LpRun, wipeP, restP, noX, dite_true, List.nil_append, List.cons_append, Option.getD_some, Option.getD_none, y_repr, y_tupleL, y_tupleT, y_sum, y_all, y_any, y_eqD, y_neD, y_rev, y_dn, y_orT, y_notT, y_ins, y_bits, y_bAnd, y_bOr, y_rt0, y_rtR, y_nx0, y_rtX, y_nxX, y_exX, inV2, inV3, flatD, vOf, List.all_cons, List.all_nil, Bool.and_self, sz_iff, Nat.reduceAdd, Nat.reduceLeDiff, Nat.zero_add, y_dD, y_dB, y_dI, y_dL, y_dSl, y_dSt, y_dAll0, y_dAllS, dAll_map, y_I0, y_I, y_eqI, y_eqS, y_eqB, y_neI, y_neS, y_neB, y_neg, y_ixL, y_ixT, y_min, y_max, y_abs, y_lenL, y_lenT, y_lenS, y_lenB, y_truL, y_truT, y_inL, y_inT, y_ex1, y_exO, y_exR, at0, at1, at2, at3, isNon, List.getElem?_cons_succ, List.getElem?_cons_zero, List.set_cons_succ, List.set_cons_zero, List.length_cons, List.length_nil, List.map_cons, List.map_nil, true_and, and_true, decide_eq_true_eq, Bool.not_eq_true', Bool.not_true, Bool.not_false, if_true, if_false, Bool.false_eq_true, ite_true, ite_false])
        obtain ⟨k, hk, k0, k1⟩ : ∃ k : Int, atI [PyData.int 1, .int (-1), .int 256, .int 64] d = some (.int k) ∧ -1 ≤ k ∧ k ≤ 256 := by
          rcases (show d = 0 ∨ d = 1 ∨ d = 2 ∨ d = 3 by omega) with rfl | rfl | rfl | rfl
          · exact ⟨_, at0, by omega, by omega⟩
          · exact ⟨_, at1, by omega, by omega⟩
          · exact ⟨_, at2, by omega, by omega⟩
          · exact ⟨_, at3, by omega, by omega⟩
        refine ⟨_, hk, v.toNat, hix, hNX _ ?_⟩
        clear hNX NX
        (try simp only [y_var, y_c, y_op, y_un, y_and, y_or, y_not, y_if, y_isN, y_notN, y_bOf, y_bTru, y_bNot, y_bYes, y_aNil, y_aCons, y_aStar, y_tup, y_disp, y_fz, y_cb, y_cat, y_of, y_sl, y_dO0, y_dO1, y_ixN, y_lenN, y_chain, y_call0, y_call, y_callR0, y_next, y_brk, y_cnt, y_asg, y_setO, y_gNm, y_gTp, y_gsNil, y_gsCons, y_subO, y_par, y_aug, y_expr, y_app, y_ext, y_ifS, y_ret, y_retN, y_for, y_while, y_iSeq, y_iTp, y_iR1, y_iR2, y_iEn, y_iZp, y_lc, y_raise, y_un1, y_maxL, y_minL, y_swap, y_cmpO, y_call, Bool.true_eq_false, reduceCtorEq, decide_true, decide_false, ix2_0, ix2_1, ix3_0, ix3_1, ix3_2, LcRun, LpRun, wipeP, restP, noX, dite_true, List.nil_append, List.cons_append, Option.getD_some, Option.getD_none, y_repr, y_tupleL, y_tupleT, y_sum, y_all, y_any, y_eqD, y_neD, y_rev, y_dn, y_orT, y_notT, y_ins, y_bits, y_bAnd, y_bOr, y_rt0, y_rtR, y_nx0, y_rtX, y_nxX, y_exX, inV2, inV3, flatD, vOf, List.all_cons, List.all_nil, Bool.and_self, sz_iff, Nat.reduceAdd, Nat.reduceLeDiff, Nat.zero_add, y_dD, y_dB, y_dI, y_dL, y_dSl, y_dSt, y_dAll0, y_dAllS, dAll_map, y_I0, y_I, y_eqI, y_eqS, y_eqB, y_neI, y_neS, y_neB, y_neg, y_ixL, y_ixT, y_min, y_max, y_abs, y_lenL, y_lenT, y_lenS, y_lenB, y_truL, y_truT, y_inL, y_inT, y_ex1, y_exO, y_exR, at0, at1, at2, at3, isNon, List.getElem?_cons_succ, List.getElem?_cons_zero, List.set_cons_succ, List.set_cons_zero, List.length_cons, List.length_nil, List.map_cons, List.map_nil, true_and, and_true, decide_eq_true_eq, Bool.not_eq_true', Bool.not_true, Bool.not_false, if_true, if_false, Bool.false_eq_true, ite_true, ite_false])
        refine fin x (a + k) _ ?_ (fun h => h) (fun h => absurd hx h) (by omega)
        rw [if_pos (show (x, a + k).1 = "add" from hx)]
        refine ⟨?_, by show -(B + 300) ≤ a + k; omega, by show a + k ≤ B + 300; omega⟩
        rw [hx]
        exact ok_add
      · rw [if_neg hx] at bx ⊢
        have bx : a ≤ 64 := bx
        obtain ⟨hw1, hw2⟩ := okS_w okx hx
        obtain ⟨z, oz, hz⟩ := sw_of hw1
        refine y_cut fun NX2 hNX2 => ?_
        (try simp only [y_var, y_c, y_op, y_un, y_and, y_or, y_not, y_if, y_isN, y_notN, y_bOf, y_bTru, y_bNot, y_bYes, y_aNil, y_aCons, y_aStar, y_tup, y_disp, y_fz, y_cb, y_cat, y_of, y_sl, y_dO0, y_dO1, y_ixN, y_lenN, y_chain, y_call0, y_call, y_callR0, y_next, y_brk, y_cnt, y_asg, y_setO, y_gNm, y_gTp, y_gsNil, y_gsCons, y_subO, y_par, y_aug, y_expr, y_app, y_ext, y_ifS, y_ret, y_retN, y_for, y_while, y_iSeq, y_iTp, y_iR1, y_iR2, y_iEn, y_iZp, y_lc, y_raise, y_un1, y_maxL, y_minL, y_swap, y_cmpO, y_call, Bool.true_eq_false, reduceCtorEq, decide_true, decide_false, ix2_0, ix2_1, ix3_0, ix3_1, ix3_2, LcRun, LpRun, wipeP, restP, noX, dite_true, List.nil_append, List.cons_append, Option.getD_some, Option.getD_none, y_repr, y_tupleL, y_tupleT, y_sum, y_all, y_any, y_eqD, y_neD, y_rev, y_dn, y_orT, y_notT, y_ins, y_bits, y_bAnd, y_bOr, y_rt0, y_rtR, y_nx0, y_rtX, y_nxX, y_exX, inV2, inV3, flatD, vOf, List.all_cons, List.all_nil, Bool.and_self, sz_iff, Nat.reduceAdd, Nat.reduceLeDiff, Nat.zero_add, y_dD, y_dB, y_dI, y_dL, y_dSl, y_dSt, y_dAll0, y_dAllS, dAll_map, y_I0, y_I, y_eqI, y_eqS, y_eqB, y_neI, y_neS, y_neB, y_neg, y_ixL, y_ixT, y_min, y_max, y_abs, y_lenL, y_lenT, y_lenS, y_lenB, y_truL, y_truT, y_inL, y_inT, y_ex1, y_exO, y_exR, at0, at1, at2, at3, isNon, List.getElem?_cons_succ, List.getElem?_cons_zero, List.set_cons_succ, List.set_cons_zero, List.length_cons, List.length_nil, List.map_cons, List.map_nil, true_and, and_true, decide_eq_true_eq, Bool.not_eq_true', Bool.not_true, Bool.not_false, if_true, if_false, Bool.false_eq_true, ite_true, ite_false])
        have key : NX2 [.rng (n + 1), .a (.d (.list (c.map stD))), .own (c.map stD), .a (.d (.int v)), .a (.d (.str x)), .a (.d (.int a)), .a (.d (.list [.tuple [.str z, .int a], .tuple [.str x, .int (if a + 1 < 64 then a + 1 else 64)], .tuple [.str x, .int (if a - 1 > 1 then a - 1 else 1)]]))] := by
          refine hNX2 _ ?_
          clear hNX2 NX2
          have go : ∀ (y : Str) (b : Int), (y = "u" ∨ y = "s") → 1 ≤ b → b ≤ 64 → (a ≤ 6 → b ≤ 7) → ∀ kk, kk ≤ n + 3 → R (.d (.list ((c.map stD).set v.toNat (.tuple [.str y, .int b])))) kk := fun y b hy h1 h2 h3 kk hk => by
            obtain ⟨o1, o2⟩ := ok_cast hy h1
            exact fin y b kk ⟨o1, by rw [if_neg (show ¬ (y, b).1 = "add" from o2)]; exact h2⟩ (fun h => absurd h hx) (fun _ => ⟨o2, h3⟩) hk
          (try simp only [y_var, y_c, y_op, y_un, y_and, y_or, y_not, y_if, y_isN, y_notN, y_bOf, y_bTru, y_bNot, y_bYes, y_aNil, y_aCons, y_aStar, y_tup, y_disp, y_fz, y_cb, y_cat, y_of, y_sl, y_dO0, y_dO1, y_ixN, y_lenN, y_chain, y_call0, y_call, y_callR0, y_next, y_brk, y_cnt, y_asg, y_setO, y_gNm, y_gTp, y_gsNil, y_gsCons, y_subO, y_par, y_aug, y_expr, y_app, y_ext, y_ifS, y_ret, y_retN, y_for, y_while, y_iSeq, y_iTp, y_iR1, y_iR2, y_iEn, y_iZp, y_lc, y_raise, y_un1, y_maxL, y_minL, y_swap, y_cmpO, y_call, Bool.true_eq_false, reduceCtorEq, decide_true, decide_false, ix2_0, ix2_1, ix3_0, ix3_1, ix3_2, LcRun, LpRun, wipeP, restP, noX, dite_true, List.nil_append, List.cons_append, Option.getD_some, Option.getD_none, y_repr, y_tupleL, y_tupleT, y_sum, y_all, y_any, y_eqD, y_neD, y_rev, y_dn, y_orT, y_notT, y_ins, y_bits, y_bAnd, y_bOr, y_rt0, y_rtR, y_nx0, y_rtX, y_nxX, y_exX, inV2, inV3, flatD, vOf, List.all_cons, List.all_nil, Bool.and_self, sz_iff, Nat.reduceAdd, Nat.reduceLeDiff, Nat.zero_add, y_dD, y_dB, y_dI, y_dL, y_dSl, y_dSt, y_dAll0, y_dAllS, dAll_map, y_I0, y_I, y_eqI, y_eqS, y_eqB, y_neI, y_neS, y_neB, y_neg, y_ixL, y_ixT, y_min, y_max, y_abs, y_lenL, y_lenT, y_lenS, y_lenB, y_truL, y_truT, y_inL, y_inT, y_ex1, y_exO, y_exR, at0, at1, at2, at3, isNon, List.getElem?_cons_succ, List.getElem?_cons_zero, List.set_cons_succ, List.set_cons_zero, List.length_cons, List.length_nil, List.map_cons, List.map_nil, true_and, and_true, decide_eq_true_eq, Bool.not_eq_true', Bool.not_true, Bool.not_false, if_true, if_false, Bool.false_eq_true, ite_true, ite_false])
          refine ⟨3, rfl, by omega, by omega, by decide, fun d d0 d1 => ?_⟩
          (try simp only [y_var, y_c, y_op, y_un, y_and, y_or, y_not, y_if, y_isN, y_notN, y_bOf, y_bTru, y_bNot, y_bYes, y_aNil, y_aCons, y_aStar, y_tup, y_disp, y_fz, y_cb, y_cat, y_of, y_sl, y_dO0, y_dO1, y_ixN, y_lenN, y_chain, y_call0, y_call, y_callR0, y_next, y_brk, y_cnt, y_asg, y_setO, y_gNm, y_gTp, y_gsNil, y_gsCons, y_subO, y_par, y_aug, y_expr, y_app, y_ext, y_ifS, y_ret, y_retN, y_for, y_while, y_iSeq, y_iTp, y_iR1, y_iR2, y_iEn, y_iZp, y_lc, y_raise, y_un1, y_maxL, y_minL, y_swap, y_cmpO, y_call, Bool.true_eq_false, reduceCtorEq, decide_true, decide_false, ix2_0, ix2_1, ix3_0, ix3_1, ix3_2, LcRun, LpRun, wipeP, restP, noX, dite_true, List.nil_append, List.cons_append, Option.getD_some, Option.getD_none, y_repr, y_tupleL, y_tupleT, y_sum, y_all, y_any, y_eqD, y_neD, y_rev, y_dn, y_orT, y_notT, y_ins, y_bits, y_bAnd, y_bOr, y_rt0, y_rtR, y_nx0, y_rtX, y_nxX, y_exX, inV2, inV3, flatD, vOf, List.all_cons, List.all_nil, Bool.and_self, sz_iff, Nat.reduceAdd, Nat.reduceLeDiff, Nat.zero_add, y_dD, y_dB, y_dI, y_dL, y_dSl, y_dSt, y_dAll0, y_dAllS, dAll_map, y_I0, y_I, y_eqI, y_eqS, y_eqB, y_neI, y_neS, y_neB, y_neg, y_ixL, y_ixT, y_min, y_max, y_abs, y_lenL, y_lenT, y_lenS, y_lenB, y_truL, y_truT, y_inL, y_inT, y_ex1, y_exO, y_exR, at0, at1, at2, at3, isNon, List.getElem?_cons_succ, List.getElem?_cons_zero, List.set_cons_succ, List.set_cons_zero, List.length_cons, List.length_nil, List.map_cons, List.map_nil, true_and, and_true, decide_eq_true_eq, Bool.not_eq_true', Bool.not_true, Bool.not_false, if_true, if_false, Bool.false_eq_true, ite_true, ite_false])
          rcases (show d = 0 ∨ d = 1 ∨ d = 2 by omega) with rfl | rfl | rfl
          · refine ⟨_, at0, v.toNat, hix, hNX _ ?_⟩
            (try simp only [y_var, y_c, y_op, y_un, y_and, y_or, y_not, y_if, y_isN, y_notN, y_bOf, y_bTru, y_bNot, y_bYes, y_aNil, y_aCons, y_aStar, y_tup, y_disp, y_fz, y_cb, y_cat, y_of, y_sl, y_dO0, y_dO1, y_ixN, y_lenN, y_chain, y_call0, y_call, y_callR0, y_next, y_brk, y_cnt, y_asg, y_setO, y_gNm, y_gTp, y_gsNil, y_gsCons, y_subO, y_par, y_aug, y_expr, y_app, y_ext, y_ifS, y_ret, y_retN, y_for, y_while, y_iSeq, y_iTp, y_iR1, y_iR2, y_iEn, y_iZp, y_lc, y_raise, y_un1, y_maxL, y_minL, y_swap, y_cmpO, y_call, Bool.true_eq_false, reduceCtorEq, decide_true, decide_false, ix2_0, ix2_1, ix3_0, ix3_1, ix3_2, LcRun, LpRun, wipeP, restP, noX, dite_true, List.nil_append, List.cons_append, Option.getD_some, Option.getD_none, y_repr, y_tupleL, y_tupleT, y_sum, y_all, y_any, y_eqD, y_neD, y_rev, y_dn, y_orT, y_notT, y_ins, y_bits, y_bAnd, y_bOr, y_rt0, y_rtR, y_nx0, y_rtX, y_nxX, y_exX, inV2, inV3, flatD, vOf, List.all_cons, List.all_nil, Bool.and_self, sz_iff, Nat.reduceAdd, Nat.reduceLeDiff, Nat.zero_add, y_dD, y_dB, y_dI, y_dL, y_dSl, y_dSt, y_dAll0, y_dAllS, dAll_map, y_I0, y_I, y_eqI, y_eqS, y_eqB, y_neI, y_neS, y_neB, y_neg, y_ixL, y_ixT, y_min, y_max, y_abs, y_lenL, y_lenT, y_lenS, y_lenB, y_truL, y_truT, y_inL, y_inT, y_ex1, y_exO, y_exR, at0, at1, at2, at3, isNon, List.getElem?_cons_succ, List.getElem?_cons_zero, List.set_cons_succ, List.set_cons_zero, List.length_cons, List.length_nil, List.map_cons, List.map_nil, true_and, and_true, decide_eq_true_eq, Bool.not_eq_true', Bool.not_true, Bool.not_false, if_true, if_false, Bool.false_eq_true, ite_true, ite_false])
            exact go z a oz (by omega) bx (by omega) _ (by omega)
          · refine ⟨_, at1, v.toNat, hix, hNX _ ?_⟩
            (try simp only [y_var, y_c, y_op, y_un, y_and, y_or, y_not, y_if, y_isN, y_notN, y_bOf, y_bTru, y_bNot, y_bYes, y_aNil, y_aCons, y_aStar, y_tup, y_disp, y_fz, y_cb, y_cat, y_of, y_sl, y_dO0, y_dO1, y_ixN, y_lenN, y_chain, y_call0, y_call, y_callR0, y_next, y_brk, y_cnt, y_asg, y_setO, y_gNm, y_gTp, y_gsNil, y_gsCons, y_subO, y_par, y_aug, y_expr, y_app, y_ext, y_ifS, y_ret, y_retN, y_for, y_while, y_iSeq, y_iTp, y_iR1, y_iR2, y_iEn, y_iZp, y_lc, y_raise, y_un1, y_maxL, y_minL, y_swap, y_cmpO, y_call, Bool.true_eq_false, reduceCtorEq, decide_true, decide_false, ix2_0, ix2_1, ix3_0, ix3_1, ix3_2, LcRun, LpRun, wipeP, restP, noX, dite_true, List.nil_append, List.cons_append, Option.getD_some, Option.getD_none, y_repr, y_tupleL, y_tupleT, y_sum, y_all, y_any, y_eqD, y_neD, y_rev, y_dn, y_orT, y_notT, y_ins, y_bits, y_bAnd, y_bOr, y_rt0, y_rtR, y_nx0, y_rtX, y_nxX, y_exX, inV2, inV3, flatD, vOf, List.all_cons, List.all_nil, Bool.and_self, sz_iff, Nat.reduceAdd, Nat.reduceLeDiff, Nat.zero_add, y_dD, y_dB, y_dI, y_dL, y_dSl, y_dSt, y_dAll0, y_dAllS, dAll_map, y_I0, y_I, y_eqI, y_eqS, y_eqB, y_neI, y_neS, y_neB, y_neg, y_ixL, y_ixT, y_min, y_max, y_abs, y_lenL, y_lenT, y_lenS, y_lenB, y_truL, y_truT, y_inL, y_inT, y_ex1, y_exO, y_exR, at0, at1, at2, at3, isNon, List.getElem?_cons_succ, List.getElem?_cons_zero, List.set_cons_succ, List.set_cons_zero, List.length_cons, List.length_nil, List.map_cons, List.map_nil, true_and, and_true, decide_eq_true_eq, Bool.not_eq_true', Bool.not_true, Bool.not_false, if_true, if_false, Bool.false_eq_true, ite_true, ite_false])
            exact go x _ hw1 (by split <;> omega) (by split <;> omega) (by split <;> omega) _ (by omega)
          · refine ⟨_, at2, v.toNat, hix, hNX _ ?_⟩
            (try simp only [y_var, y_c, y_op, y_un, y_and, y_or, y_not, y_if, y_isN, y_notN, y_bOf, y_bTru, y_bNot, y_bYes, y_aNil, y_aCons, y_aStar, y_tup, y_disp, y_fz, y_cb, y_cat, y_of, y_sl, y_dO0, y_dO1, y_ixN, y_lenN, y_chain, y_call0, y_call, y_callR0, y_next, y_brk, y_cnt, y_asg, y_setO, y_gNm, y_gTp, y_gsNil, y_gsCons, y_subO, y_par, y_aug, y_expr, y_app, y_ext, y_ifS, y_ret, y_retN, y_for, y_while, y_iSeq, y_iTp, y_iR1, y_iR2, y_iEn, y_iZp, y_lc, y_raise, y_un1, y_maxL, y_minL, y_swap, y_cmpO, y_call, Bool.true_eq_false, reduceCtorEq, decide_true, decide_false, ix2_0, ix2_1, ix3_0, ix3_1, ix3_2, LcRun, LpRun, wipeP, restP, noX, dite_true, List.nil_append, List.cons_append, Option.getD_some, Option.getD_none, y_repr, y_tupleL, y_tupleT, y_sum, y_all, y_any, y_eqD, y_neD, y_rev, y_dn, y_orT, y_notT, y_ins, y_bits, y_bAnd, y_bOr, y_rt0, y_rtR, y_nx0, y_rtX, y_nxX, y_exX, inV2, inV3, flatD, vOf, List.all_cons, List.all_nil, Bool.and_self, sz_iff, Nat.reduceAdd, Nat.reduceLeDiff, Nat.zero_add, y_dD, y_dB, y_dI, y_dL, y_dSl, y_dSt, y_dAll0, y_dAllS, dAll_map, y_I0, y_I, y_eqI, y_eqS, y_eqB, y_neI, y_neS, y_neB, y_neg, y_ixL, y_ixT, y_min, y_max, y_abs, y_lenL, y_lenT, y_lenS, y_lenB, y_truL, y_truT, y_inL, y_inT, y_ex1, y_exO, y_exR, at0, at1, at2, at3, isNon, List.getElem?_cons_succ, List.getElem?_cons_zero, List.set_cons_succ, List.set_cons_zero, List.length_cons, List.length_nil, List.map_cons, List.map_nil, true_and, and_true, decide_eq_true_eq, Bool.not_eq_true', Bool.not_true, Bool.not_false, if_true, if_false, Bool.false_eq_true, ite_true, ite_false])
            exact go x _ hw1 (by split <;> omega) (by split <;> omega) (by split <;> omega) _ (by omega)
        rcases hz with ⟨e1, e2⟩ | ⟨e1, e2⟩
        · rw [e2] at key
          exact .inl ⟨e1, key⟩
        · rw [e2] at key
          exact .inr ⟨e1, key⟩
end

end Cc

set_option Elab.async false
set_option linter.all false
set_option maxRecDepth 100000
set_option maxHeartbeats 4000000
namespace Cc
open PySem PySem.Spec PyProof.Rows L2
section
theorem pow_dvd2 {a b : Nat} (h : a ≤ b) : (2 : Int) ^ a ∣ 2 ^ b := ⟨2 ^ (b - a), by rw [← Int.pow_add]; congr 1; omega⟩
theorem cast_cong {y : Int} {x : Str} {n : Int} : (2 : Int) ^ n.toNat ∣ castI y x n - y := by
  unfold castI
  rw [Int.emod_def]
  exact ⟨-((y - lowI x n) / 2 ^ n.toNat), by rw [Int.mul_neg]; omega⟩
theorem cast_eq {y z : Int} {x : Str} {n : Int} (h : (2 : Int) ^ n.toNat ∣ y - z) : castI y x n = castI z x n := by
  unfold castI
  congr 1
  refine Int.emod_eq_emod_iff_emod_sub_eq_zero.mpr (Int.emod_eq_zero_of_dvd ?_)
  have e : y - lowI x n - (z - lowI x n) = y - z := by omega
  rw [e]
  exact h
def addS (c : Ch) : Int := (c.map fun (s : Str × Int) => if s.1 = "add" then s.2 else 0).sum
theorem tot_take (S : Spr) (x : Str) (n : Int) : (takeS S x n).tot = if x = "add" then S.tot + n else S.tot := by
  unfold takeS
  by_cases e : x = "add"
  · rw [if_pos e, if_pos e]
  · rw [if_neg e, if_neg e]
    split
    · rfl
    · unfold wider
      dsimp only
      split <;> rfl
theorem tot_fold : ∀ (c : Ch) (S : Spr), (c.foldl (fun S s => takeS S s.1 s.2) S).tot = S.tot + addS c
  | [], S => by simp [addS]
  | s :: c, S => by
    rw [List.foldl_cons, tot_fold c, tot_take]
    unfold addS
    rw [List.map_cons, List.sum_cons]
    split <;> omega
theorem tot_add (c : Ch) : (spreadS c).tot = addS c := by
  unfold spreadS
  rw [tot_fold]
  show 0 + addS c = _
  omega
def allW (w : Nat) (c : Ch) : Prop := ∀ s ∈ c, ¬ s.1 = "add" → w ≤ s.2.toNat
theorem step_cong {w : Nat} {y z : Int} {s : Str × Int} (hs : ¬ s.1 = "add" → w ≤ s.2.toNat) (h : (2 : Int) ^ w ∣ y - z) : (2 : Int) ^ w ∣ stepI y s - stepI z s := by
  unfold stepI
  by_cases e : s.1 = "add"
  · rw [if_pos e, if_pos e]
    have : y + s.2 - (z + s.2) = y - z := by omega
    rwa [this]
  · rw [if_neg e, if_neg e]
    have d := pow_dvd2 (hs e)
    have h1 := Int.dvd_trans d (cast_cong (y := y) (x := s.1) (n := s.2))
    have h2 := Int.dvd_trans d (cast_cong (y := z) (x := s.1) (n := s.2))
    have e2 : castI y s.1 s.2 - castI z s.1 s.2 = (castI y s.1 s.2 - y) - (castI z s.1 s.2 - z) + (y - z) := by omega
    rw [e2]
    exact Int.dvd_add (Int.dvd_sub h1 h2) h
theorem conv_shift {w : Nat} : ∀ {c : Ch} {y : Int}, allW w c → (2 : Int) ^ w ∣ convI y c - (y + addS c)
  | [], y, _ => ⟨0, by show y - (y + 0) = _; omega⟩
  | s :: c, y, h => by
    have ih := conv_shift (c := c) (y := stepI y s) fun t ht => h t (List.mem_cons_of_mem _ ht)
    rw [conv_cons]
    have es : addS (s :: c) = (if s.1 = "add" then s.2 else 0) + addS c := by
      unfold addS
      rw [List.map_cons, List.sum_cons]
    have hs : (2 : Int) ^ w ∣ stepI y s - (y + if s.1 = "add" then s.2 else 0) := by
      unfold stepI
      by_cases e : s.1 = "add"
      · rw [if_pos e, if_pos e]
        exact ⟨0, by omega⟩
      · rw [if_neg e, if_neg e, Int.add_zero]
        exact Int.dvd_trans (pow_dvd2 (h s (List.mem_cons_self ..) e)) cast_cong
    have e2 : convI (stepI y s) c - (y + addS (s :: c)) = (convI (stepI y s) c - (stepI y s + addS c)) + (stepI y s - (y + if s.1 = "add" then s.2 else 0)) := by
      rw [es]
      omega
    rw [e2]
    exact Int.dvd_add ih hs
theorem conv_same {w : Nat} : ∀ {c : Ch} {y z : Int}, allW w c → (∃ s ∈ c, ¬ s.1 = "add" ∧ s.2.toNat = w) → (2 : Int) ^ w ∣ y - z → convI y c = convI z c
  | [], _, _, _, ⟨_, h, _⟩, _ => nomatch h
  | s :: c, y, z, h, ⟨t, ht, t1, t2⟩, hd => by
    rw [conv_cons, conv_cons]
    have h' : allW w c := fun t ht => h t (List.mem_cons_of_mem _ ht)
    by_cases e : ¬ s.1 = "add" ∧ s.2.toNat = w
    · have : stepI y s = stepI z s := by
        unfold stepI
        rw [if_neg e.1, if_neg e.1]
        exact cast_eq (by rw [e.2]; exact hd)
      rw [this]
    · refine conv_same h' ⟨t, ?_, t1, t2⟩ (step_cong (h s (List.mem_cons_self ..)) hd)
      rcases List.mem_cons.mp ht with rfl | ht
      · exact absurd ⟨t1, t2⟩ e
      · exact ht
theorem least_w : ∀ {c : Ch}, (∃ s ∈ c, ¬ s.1 = "add") → ∃ w, (∃ s ∈ c, ¬ s.1 = "add" ∧ s.2.toNat = w) ∧ allW w c
  | [], ⟨_, h, _⟩ => nomatch h
  | s :: c, ⟨t, ht, t1⟩ => by
    by_cases hc : ∃ s ∈ c, ¬ s.1 = "add"
    · obtain ⟨w, ⟨u, hu, u1, u2⟩, hw⟩ := least_w hc
      by_cases e : ¬ s.1 = "add" ∧ s.2.toNat < w
      · refine ⟨s.2.toNat, ⟨s, List.mem_cons_self .., e.1, rfl⟩, fun v hv v1 => ?_⟩
        rcases List.mem_cons.mp hv with rfl | hv
        · exact Nat.le_refl _
        · have := hw v hv v1
          omega
      · refine ⟨w, ⟨u, List.mem_cons_of_mem _ hu, u1, u2⟩, fun v hv v1 => ?_⟩
        rcases List.mem_cons.mp hv with rfl | hv
        · by_cases z : v.2.toNat < w
          · exact absurd ⟨v1, z⟩ e
          · omega
        · exact hw v hv v1
    · have hs : ¬ s.1 = "add" := by
        rcases List.mem_cons.mp ht with rfl | ht
        · exact t1
        · exact absurd ⟨t, ht, t1⟩ hc
      refine ⟨s.2.toNat, ⟨s, List.mem_cons_self .., hs, rfl⟩, fun v hv v1 => ?_⟩
      rcases List.mem_cons.mp hv with rfl | hv
      · exact Nat.le_refl _
      · exact absurd ⟨v, hv, v1⟩ hc
theorem conv_adds : ∀ {c : Ch} {y : Int}, (¬ ∃ s ∈ c, ¬ s.1 = "add") → convI y c = y + addS c
  | [], y, _ => by show y = y + 0; omega
  | s :: c, y, h => by
    have hs : s.1 = "add" := Decidable.byContradiction fun z => h ⟨s, List.mem_cons_self .., z⟩
    rw [conv_cons, conv_adds fun ⟨t, ht, t1⟩ => h ⟨t, List.mem_cons_of_mem _ ht, t1⟩]
    unfold stepI addS
    rw [if_pos hs, List.map_cons, List.sum_cons, if_pos hs]
    omega
end

section
theorem allW_of {c : Ch} {w : Nat} (h : ∀ s ∈ c, ¬ s.1 = "add" → w ≤ s.2.toNat) : allW w c := h
/-- both have no casts, or periods that divide P; alike on 0 to P: alike everywhere -/
theorem agree {c d : Ch} {P : Int} (P1 : 1 ≤ P) (hc : noC c ∨ ∀ y z, P ∣ y - z → convI y c = convI z c) (hd : noC d ∨ ∀ y z, P ∣ y - z → convI y d = convI z d) (h : ∀ x, 0 ≤ x → x ≤ P → convI x c = convI x d) : ∀ y, convI y c = convI y d := by
  have adds : ∀ {c : Ch}, noC c → ∀ y, convI y c = y + addS c := fun {c} h y => conv_adds fun ⟨s, hs, h1⟩ => h1 (h s hs)
  have dm : ∀ y : Int, P ∣ y - y % P := fun y => ⟨y / P, by rw [Int.emod_def]; omega⟩
  have d0 : P ∣ P - 0 := ⟨1, by omega⟩
  have h0 := h 0 (by omega) (by omega)
  have hP := h P (by omega) (by omega)
  rcases hc with hc | hc <;> rcases hd with hd | hd
  · intro y
    rw [adds hc, adds hd] at *
    omega
  · have := hd P 0 d0
    rw [adds hc] at h0 hP
    omega
  · have := hc P 0 d0
    rw [adds hd] at h0 hP
    omega
  · intro y
    have a := Int.emod_nonneg y (show P ≠ 0 by omega)
    have b := Int.emod_lt_of_pos y (show 0 < P by omega)
    rw [hc _ _ (dm y), hd _ _ (dm y)]
    exact h _ a (by omega)
/-- a chain with a cast of at most k bits has a period of k bits -/
theorem period_of {c : Ch} {k : Int} (ok : ∀ s ∈ c, okS s = true) (h : hasC k c) {y z : Int} (hd : (2 : Int) ^ k.toNat ∣ y - z) : convI y c = convI z c := by
  obtain ⟨s, hs, h1, h2⟩ := h
  obtain ⟨w, hw1, hw2⟩ := least_w ⟨s, hs, h1⟩
  have := hw2 s hs h1
  exact conv_same hw2 hw1 (Int.dvd_trans (pow_dvd2 (by omega)) hd)
end
section
variable {P : Program} {w : World} {Γ : Gx} {mg : Str → Option Value} {base : Heap}
def phAgr : Phi := fun _ xs R _ => ∃ (c d : Ch) (m : Nat) (B : Int), xs = [.d (chD c), .d (chD d)] ∧ chB m B c ∧ chB m B d ∧ m ≤ 100 ∧ smC 7 c ∧ smC 7 d ∧ ∀ b : Bool, (b = true ↔ ∀ y, convI y c = convI y d) → R (.d (.bool b)) 0
theorem q_agr (T : Tx Γ.K mg "_law_agree" s_law_agree) (m_max : mg "max" = none) (m_range : mg "range" = none) (h__law_power : Pr P w Γ.K mg base CX0 1 "_law_power" ["many"] (spP Γ false phPower)) (h__law_done : Pr P w Γ.K mg base CX0 2 "_law_done" ["x", "steps_here"] (spP Γ false phDone)) :
    Pr P w Γ.K mg base CX0 3 "_law_agree" ["one", "two"] (spP Γ false phAgr) := by
  refine mkPP T sc_law_agree (fun _ _ _ _ _ _ us hl => match us, hl with | [_, _], _ => rfl) (fun n xs R Xx h => ?_) (fun n xs R Xx h => h) (fun f cdv A outer s H E hG hr => ?_)
  · obtain ⟨_, _, _, _, rfl, _⟩ := h
    rfl
  · have nd := sc_law_agree.nd
    refine ⟨_, _, (dss_cons (fun h h' => pss_cons h h') (ds_setLc (own := [("word", 4), ("amount", 5)]) (i := 2) rfl nd rfl rfl (sw_true rfl rfl rfl (by decide +kernel)) (di_list (fun h => pi_list h) (de_fz (dl_cat (fun h h' => pe_op op_cat h h') (de_var (pv 0)) (de_var (pv 1))))) (blkOk_by (own := [("word", 4), ("amount", 5)]) (N := ["one", "two", "casts", "most", "word", "amount", "x"]) (sc := defScope s_law_agree) (by decide +kernel)) (fun _ _ _ _ _ => (dg_tup (n := 2) (fun h => pg_tup rfl h) (dgs_cons (fun g h => pgs_cons g h) (dg_name (pg_name (i := 4) nd rfl (.inl rfl))) (dgs_cons (fun g h => pgs_cons g h) (dg_name (pg_name (i := 5) nd rfl (.inl rfl))) (dgs_nil pgs_nil))))) (fun _ _ _ _ _ => (dts_one (dt_pw (fun h => PW.pt h) (dw_and (fun h h' => pw_and h h') (dt_cmp opd_ne (fun h h' => pt_cmpR op_ne h h' (nomark _)) (de_var (pv 4)) (de_c pe_str (fun _ => .str _))) (dw_and1 (fun h => pw_and1 h) (dt_cmp opd_bl0 (fun h h' => pt_cmpR op_lt h h' (nomark _)) (de_var (pv 5)) (de_c pe_int (fun _ => .int _)))))))) (fun _ _ _ _ _ => (de_var (pv 5)))) (dss_cons (fun h h' => pss_cons h h') (ds_set (i := 3) (fun h => ps_set nd rfl (.inl rfl) h) (de_op opd_int0 (fun h h' => pe_op op_add h h') (de_call0 (fun h => pe_P h__law_power hr hG (by rfl) h) (da_cons (fun h t => pa_cons h t) (de_cb cd_maxL (fun h => pe_callB (cr_max rfl) (by rfl) m_max (by decide +kernel) h) (da_cons (fun h t => pa_cons h t) (de_fz (dl_cat (fun h h' => pe_op op_cat h h') (de_var (pv 2)) (de_fz (dl_disp (fun h => pe_lst h) (da_cons (fun h t => pa_cons h t) (de_c pe_int (fun _ => .int _)) (da_nil pa_nil)))))) (da_nil pa_nil))) (da_nil pa_nil))) (de_c pe_int (fun _ => .int _)))) (dss_one (fun h => pss_one h) (ds_ret (fun h => ps_ret h) (de_op opd_eqD (fun h h' => pe_cmpR (op_eqD hr.units) h h' (nomark _)) (de_fz (dl_comp (own := [("x", 6)])  rfl nd (di_r1 (by exact fun h => pi_range1 rfl m_range (pa_cons h pa_nil)) (de_var (pv 3))) (blkOk_by (own := [("x", 6)]) (N := ["one", "two", "casts", "most", "word", "amount", "x"]) (sc := defScope s_law_agree) (by decide +kernel)) (fun _ _ _ _ _ => (dg_name (pg_name (i := 6) nd rfl (.inl rfl)))) (fun _ _ _ _ _ => (dts_one (dt_cmp opd_ne (fun h h' => pt_cmpR op_ne h h' (nomark _)) (de_call0 (fun h => pe_P h__law_done hr hG (by rfl) h) (da_cons (fun h t => pa_cons h t) (de_var (pv 6)) (da_cons (fun h t => pa_cons h t) (de_var (pv 0)) (da_nil pa_nil)))) (de_call0 (fun h => pe_P h__law_done hr hG (by rfl) h) (da_cons (fun h t => pa_cons h t) (de_var (pv 6)) (da_cons (fun h t => pa_cons h t) (de_var (pv 1)) (da_nil pa_nil))))))) (fun _ _ _ _ _ => (de_var (pv 6))))) (de_fz (dl_disp (fun h => pe_lst h) (da_nil pa_nil)))))))), fun n xs R h => ?_⟩
    obtain ⟨c, d, m, B, rfl, hc, hd, hm, sc, sd, q⟩ := h
    rw [show chD c = .list (c.map stD) from rfl, show chD d = .list (d.map stD) from rfl]
    have hl := hc.1
    have hl' := hd.1
    show (sSeq _ _) [.a (.d (.list (c.map stD))), .a (.d (.list (d.map stD))), .un, .un, .un, .un, .un] _
    refine y_cut fun NX hNX => ?_
    (try simp only [y_var, y_c, y_op, y_un, y_and, y_or, y_not, y_if, y_isN, y_notN, y_bOf, y_bTru, y_bNot, y_bYes, y_aNil, y_aCons, y_aStar, y_tup, y_disp, y_fz, y_cb, y_cat, y_of, y_sl, y_dO0, y_dO1, y_ixN, y_lenN, y_chain, y_call0, y_call, y_callR0, y_next, y_brk, y_cnt, y_asg, y_setO, y_gNm, y_gTp, y_gsNil, y_gsCons, y_subO, y_par, y_aug, y_expr, y_app, y_ext, y_ifS, y_ret, y_retN, y_for, y_while, y_iSeq, y_iTp, y_iR1, y_iR2, y_iEn, y_iZp, y_lc, y_raise, y_un1, y_maxL, y_minL, y_swap, y_cmpO, y_call, Bool.true_eq_false, reduceCtorEq, decide_true, decide_false, ix2_0, ix2_1, ix3_0, ix3_1, ix3_2, LcRun, LpRun, wipeP, restP, noX, dite_true, List.nil_append, List.cons_append, Option.getD_some, Option.getD_none, y_repr, y_tupleL, y_tupleT, y_sum, y_all, y_any, y_eqD, y_neD, y_rev, y_dn, y_orT, y_notT, y_ins, y_bits, y_bAnd, y_bOr, y_rt0, y_rtR, y_nx0, y_rtX, y_nxX, y_exX, inV2, inV3, flatD, vOf, List.all_cons, List.all_nil, Bool.and_self, sz_iff, Nat.reduceAdd, Nat.reduceLeDiff, Nat.zero_add, y_dD, y_dB, y_dI, y_dL, y_dSl, y_dSt, y_dAll0, y_dAllS, dAll_map, y_I0, y_I, y_eqI, y_eqS, y_eqB, y_neI, y_neS, y_neB, y_neg, y_ixL, y_ixT, y_min, y_max, y_abs, y_lenL, y_lenT, y_lenS, y_lenB, y_truL, y_truT, y_inL, y_inT, y_ex1, y_exO, y_exR, at0, at1, at2, at3, isNon, List.getElem?_cons_succ, List.getElem?_cons_zero, List.set_cons_succ, List.set_cons_zero, List.length_cons, List.length_nil, List.map_cons, List.map_nil, true_and, and_true, decide_eq_true_eq, Bool.not_eq_true', Bool.not_true, Bool.not_false, if_true, if_false, Bool.false_eq_true, ite_true, ite_false])
    refine ⟨szS (m := 300) (by rw [List.length_map, List.length_map]; omega) (by decide), ?_⟩
    rw [← List.map_append, List.map_map]
    refine compF (xs := c ++ d) (enc := Cc.A.d ∘ stD) (fun s => if s.1 = "add" then none else if s.2 < 8 then some (.int s.2) else none) (fun v hv => by simp only [List.mem_cons, List.not_mem_nil, or_false] at hv; first | (subst hv; exact trivial) | (rcases hv with rfl | rfl <;> exact trivial) | (rcases hv with rfl | rfl | rfl <;> exact trivial)) (by rw [List.length_append, sizeLine_eq]; omega) (fun p hp acc KK hz hK => ?_) ?_
    · simp only [Function.comp_apply]
      unfold stD
      (try simp only [y_var, y_c, y_op, y_un, y_and, y_or, y_not, y_if, y_isN, y_notN, y_bOf, y_bTru, y_bNot, y_bYes, y_aNil, y_aCons, y_aStar, y_tup, y_disp, y_fz, y_cb, y_cat, y_of, y_sl, y_dO0, y_dO1, y_ixN, y_lenN, y_chain, y_call0, y_call, y_callR0, y_next, y_brk, y_cnt, y_asg, y_setO, y_gNm, y_gTp, y_gsNil, y_gsCons, y_subO, y_par, y_aug, y_expr, y_app, y_ext, y_ifS, y_ret, y_retN, y_for, y_while, y_iSeq, y_iTp, y_iR1, y_iR2, y_iEn, y_iZp, y_lc, y_raise, y_un1, y_maxL, y_minL, y_swap, y_cmpO, y_call, Bool.true_eq_false, reduceCtorEq, decide_true, decide_false, ix2_0, ix2_1, ix3_0, ix3_1, ix3_2, LcRun, LpRun, wipeP, restP, noX, dite_true, List.nil_append, List.cons_append, Option.getD_some, Option.getD_none, y_repr, y_tupleL, y_tupleT, y_sum, y_all, y_any, y_eqD, y_neD, y_rev, y_dn, y_orT, y_notT, y_ins, y_bits, y_bAnd, y_bOr, y_rt0, y_rtR, y_nx0, y_rtX, y_nxX, y_exX, inV2, inV3, flatD, vOf, List.all_cons, List.all_nil, Bool.and_self, sz_iff, Nat.reduceAdd, Nat.reduceLeDiff, Nat.zero_add, y_dD, y_dB, y_dI, y_dL, y_dSl, y_dSt, y_dAll0, y_dAllS, dAll_map, y_I0, y_I, y_eqI, y_eqS, y_eqB, y_neI, y_neS, y_neB, y_neg, y_ixL, y_ixT, y_min, y_max, y_abs, y_lenL, y_lenT, y_lenS, y_lenB, y_truL, y_truT, y_inL, y_inT, y_ex1, y_exO, y_exR, at0, at1, at2, at3, isNon, List.getElem?_cons_succ, List.getElem?_cons_zero, List.set_cons_succ, List.set_cons_zero, List.length_cons, List.length_nil, List.map_cons, List.map_nil, true_and, and_true, decide_eq_true_eq, Bool.not_eq_true', Bool.not_true, Bool.not_false, if_true, if_false, Bool.false_eq_true, ite_true, ite_false])
      by_cases e : p.1 = "add"
      · rw [if_pos e] at hK
        rw [decide_eq_true e]
        exact hK
      · rw [if_neg e] at hK
        rw [decide_eq_false e]
        rw [if_pos rfl]
        by_cases h8 : p.2 < 8
        · rw [if_pos h8] at hK ⊢
          exact ⟨hz, hK⟩
        · rw [if_neg h8] at hK ⊢
          exact hK
    · (try simp only [y_var, y_c, y_op, y_un, y_and, y_or, y_not, y_if, y_isN, y_notN, y_bOf, y_bTru, y_bNot, y_bYes, y_aNil, y_aCons, y_aStar, y_tup, y_disp, y_fz, y_cb, y_cat, y_of, y_sl, y_dO0, y_dO1, y_ixN, y_lenN, y_chain, y_call0, y_call, y_callR0, y_next, y_brk, y_cnt, y_asg, y_setO, y_gNm, y_gTp, y_gsNil, y_gsCons, y_subO, y_par, y_aug, y_expr, y_app, y_ext, y_ifS, y_ret, y_retN, y_for, y_while, y_iSeq, y_iTp, y_iR1, y_iR2, y_iEn, y_iZp, y_lc, y_raise, y_un1, y_maxL, y_minL, y_swap, y_cmpO, y_call, Bool.true_eq_false, reduceCtorEq, decide_true, decide_false, ix2_0, ix2_1, ix3_0, ix3_1, ix3_2, LcRun, LpRun, wipeP, restP, noX, dite_true, List.nil_append, List.cons_append, Option.getD_some, Option.getD_none, y_repr, y_tupleL, y_tupleT, y_sum, y_all, y_any, y_eqD, y_neD, y_rev, y_dn, y_orT, y_notT, y_ins, y_bits, y_bAnd, y_bOr, y_rt0, y_rtR, y_nx0, y_rtX, y_nxX, y_exX, inV2, inV3, flatD, vOf, List.all_cons, List.all_nil, Bool.and_self, sz_iff, Nat.reduceAdd, Nat.reduceLeDiff, Nat.zero_add, y_dD, y_dB, y_dI, y_dL, y_dSl, y_dSt, y_dAll0, y_dAllS, dAll_map, y_I0, y_I, y_eqI, y_eqS, y_eqB, y_neI, y_neS, y_neB, y_neg, y_ixL, y_ixT, y_min, y_max, y_abs, y_lenL, y_lenT, y_lenS, y_lenB, y_truL, y_truT, y_inL, y_inT, y_ex1, y_exO, y_exR, at0, at1, at2, at3, isNon, List.getElem?_cons_succ, List.getElem?_cons_zero, List.set_cons_succ, List.set_cons_zero, List.length_cons, List.length_nil, List.map_cons, List.map_nil, true_and, and_true, decide_eq_true_eq, Bool.not_eq_true', Bool.not_true, Bool.not_false, if_true, if_false, Bool.false_eq_true, ite_true, ite_false])
      refine hNX _ ?_
      clear hNX NX
      have eC : (c ++ d).filterMap (fun (s : Str × Int) => if s.1 = "add" then none else if s.2 < 8 then some (PyData.int s.2) else none) = (((c ++ d).filter fun (s : Str × Int) => !decide (s.1 = "add") && decide (s.2 < 8)).map (·.2)).map PyData.int := by
        generalize c ++ d = e
        induction e with
        | nil => rfl
        | cons s e ih =>
          rw [List.filterMap_cons, List.filter_cons]
          by_cases e1 : s.1 = "add"
          · rw [if_pos e1, decide_eq_true e1, if_neg (by simp)]
            exact ih
          · rw [if_neg e1, decide_eq_false e1]
            by_cases e2 : s.2 < 8
            · rw [if_pos e2, decide_eq_true e2, if_pos (by decide), List.map_cons, List.map_cons]
              show _ :: _ = _
              rw [ih]
            · rw [if_neg e2, decide_eq_false e2, if_neg (by decide)]
              exact ih
      have hmem : ∀ n : Int, n ∈ ((c ++ d).filter fun (s : Str × Int) => !decide (s.1 = "add") && decide (s.2 < 8)).map (·.2) ↔ ∃ s ∈ c ++ d, (¬ s.1 = "add" ∧ s.2 < 8) ∧ s.2 = n := fun n => by
        rw [List.mem_map]
        constructor
        · rintro ⟨s, hs, e⟩
          obtain ⟨a, b⟩ := List.mem_filter.mp hs
          exact ⟨s, a, by simpa using b, e⟩
        · rintro ⟨s, hs, a, e⟩
          exact ⟨s, List.mem_filter.mpr ⟨hs, by simpa using a⟩, e⟩
      rw [eC]
      have hlen : (((c ++ d).filter fun (s : Str × Int) => !decide (s.1 = "add") && decide (s.2 < 8)).map (·.2)).length ≤ 200 := by
        rw [List.length_map]
        exact Nat.le_trans (List.length_filter_le ..) (by rw [List.length_append]; omega)
      generalize ((c ++ d).filter fun (s : Str × Int) => !decide (s.1 = "add") && decide (s.2 < 8)).map (·.2) = cs at hmem hlen ⊢
      refine y_cut fun NX hNX => ?_
      (try simp only [y_var, y_c, y_op, y_un, y_and, y_or, y_not, y_if, y_isN, y_notN, y_bOf, y_bTru, y_bNot, y_bYes, y_aNil, y_aCons, y_aStar, y_tup, y_disp, y_fz, y_cb, y_cat, y_of, y_sl, y_dO0, y_dO1, y_ixN, y_lenN, y_chain, y_call0, y_call, y_callR0, y_next, y_brk, y_cnt, y_asg, y_setO, y_gNm, y_gTp, y_gsNil, y_gsCons, y_subO, y_par, y_aug, y_expr, y_app, y_ext, y_ifS, y_ret, y_retN, y_for, y_while, y_iSeq, y_iTp, y_iR1, y_iR2, y_iEn, y_iZp, y_lc, y_raise, y_un1, y_maxL, y_minL, y_swap, y_cmpO, y_call, Bool.true_eq_false, reduceCtorEq, decide_true, decide_false, ix2_0, ix2_1, ix3_0, ix3_1, ix3_2, LcRun, LpRun, wipeP, restP, noX, dite_true, List.nil_append, List.cons_append, Option.getD_some, Option.getD_none, y_repr, y_tupleL, y_tupleT, y_sum, y_all, y_any, y_eqD, y_neD, y_rev, y_dn, y_orT, y_notT, y_ins, y_bits, y_bAnd, y_bOr, y_rt0, y_rtR, y_nx0, y_rtX, y_nxX, y_exX, inV2, inV3, flatD, vOf, List.all_cons, List.all_nil, Bool.and_self, sz_iff, Nat.reduceAdd, Nat.reduceLeDiff, Nat.zero_add, y_dD, y_dB, y_dI, y_dL, y_dSl, y_dSt, y_dAll0, y_dAllS, dAll_map, y_I0, y_I, y_eqI, y_eqS, y_eqB, y_neI, y_neS, y_neB, y_neg, y_ixL, y_ixT, y_min, y_max, y_abs, y_lenL, y_lenT, y_lenS, y_lenB, y_truL, y_truT, y_inL, y_inT, y_ex1, y_exO, y_exR, at0, at1, at2, at3, isNon, List.getElem?_cons_succ, List.getElem?_cons_zero, List.set_cons_succ, List.set_cons_zero, List.length_cons, List.length_nil, List.map_cons, List.map_nil, true_and, and_true, decide_eq_true_eq, Bool.not_eq_true', Bool.not_true, Bool.not_false, if_true, if_false, Bool.false_eq_true, ite_true, ite_false])
      refine ⟨szS (m := 300) (by rw [List.length_map]; omega) (by decide), cs ++ [0], by rw [List.map_append]; rfl, by rw [List.length_append, List.length_singleton]; omega, fun mx hmx hle => ?_⟩
      (try simp only [y_var, y_c, y_op, y_un, y_and, y_or, y_not, y_if, y_isN, y_notN, y_bOf, y_bTru, y_bNot, y_bYes, y_aNil, y_aCons, y_aStar, y_tup, y_disp, y_fz, y_cb, y_cat, y_of, y_sl, y_dO0, y_dO1, y_ixN, y_lenN, y_chain, y_call0, y_call, y_callR0, y_next, y_brk, y_cnt, y_asg, y_setO, y_gNm, y_gTp, y_gsNil, y_gsCons, y_subO, y_par, y_aug, y_expr, y_app, y_ext, y_ifS, y_ret, y_retN, y_for, y_while, y_iSeq, y_iTp, y_iR1, y_iR2, y_iEn, y_iZp, y_lc, y_raise, y_un1, y_maxL, y_minL, y_swap, y_cmpO, y_call, Bool.true_eq_false, reduceCtorEq, decide_true, decide_false, ix2_0, ix2_1, ix3_0, ix3_1, ix3_2, LcRun, LpRun, wipeP, restP, noX, dite_true, List.nil_append, List.cons_append, Option.getD_some, Option.getD_none, y_repr, y_tupleL, y_tupleT, y_sum, y_all, y_any, y_eqD, y_neD, y_rev, y_dn, y_orT, y_notT, y_ins, y_bits, y_bAnd, y_bOr, y_rt0, y_rtR, y_nx0, y_rtX, y_nxX, y_exX, inV2, inV3, flatD, vOf, List.all_cons, List.all_nil, Bool.and_self, sz_iff, Nat.reduceAdd, Nat.reduceLeDiff, Nat.zero_add, y_dD, y_dB, y_dI, y_dL, y_dSl, y_dSt, y_dAll0, y_dAllS, dAll_map, y_I0, y_I, y_eqI, y_eqS, y_eqB, y_neI, y_neS, y_neB, y_neg, y_ixL, y_ixT, y_min, y_max, y_abs, y_lenL, y_lenT, y_lenS, y_lenB, y_truL, y_truT, y_inL, y_inT, y_ex1, y_exO, y_exR, at0, at1, at2, at3, isNon, List.getElem?_cons_succ, List.getElem?_cons_zero, List.set_cons_succ, List.set_cons_zero, List.length_cons, List.length_nil, List.map_cons, List.map_nil, true_and, and_true, decide_eq_true_eq, Bool.not_eq_true', Bool.not_true, Bool.not_false, if_true, if_false, Bool.false_eq_true, ite_true, ite_false])
      have m0 : 0 ≤ mx := hle 0 (by simp)
      have m7 : mx ≤ 7 := by
        rcases List.mem_append.mp hmx with h | h
        · obtain ⟨s, _, h1, h2⟩ := (hmem mx).mp h
          omega
        · rw [List.mem_singleton.mp h]; decide
      have p7 : (2 : Int) ^ mx.toNat ≤ 2 ^ (7 : Int).toNat := two_mono m7
      have p7' : (2 : Int) ^ (7 : Int).toNat = 128 := by decide
      have pp := two_pos mx.toNat
      refine ⟨mx, rfl, m0, by omega, ?_⟩
      (try simp only [y_var, y_c, y_op, y_un, y_and, y_or, y_not, y_if, y_isN, y_notN, y_bOf, y_bTru, y_bNot, y_bYes, y_aNil, y_aCons, y_aStar, y_tup, y_disp, y_fz, y_cb, y_cat, y_of, y_sl, y_dO0, y_dO1, y_ixN, y_lenN, y_chain, y_call0, y_call, y_callR0, y_next, y_brk, y_cnt, y_asg, y_setO, y_gNm, y_gTp, y_gsNil, y_gsCons, y_subO, y_par, y_aug, y_expr, y_app, y_ext, y_ifS, y_ret, y_retN, y_for, y_while, y_iSeq, y_iTp, y_iR1, y_iR2, y_iEn, y_iZp, y_lc, y_raise, y_un1, y_maxL, y_minL, y_swap, y_cmpO, y_call, Bool.true_eq_false, reduceCtorEq, decide_true, decide_false, ix2_0, ix2_1, ix3_0, ix3_1, ix3_2, LcRun, LpRun, wipeP, restP, noX, dite_true, List.nil_append, List.cons_append, Option.getD_some, Option.getD_none, y_repr, y_tupleL, y_tupleT, y_sum, y_all, y_any, y_eqD, y_neD, y_rev, y_dn, y_orT, y_notT, y_ins, y_bits, y_bAnd, y_bOr, y_rt0, y_rtR, y_nx0, y_rtX, y_nxX, y_exX, inV2, inV3, flatD, vOf, List.all_cons, List.all_nil, Bool.and_self, sz_iff, Nat.reduceAdd, Nat.reduceLeDiff, Nat.zero_add, y_dD, y_dB, y_dI, y_dL, y_dSl, y_dSt, y_dAll0, y_dAllS, dAll_map, y_I0, y_I, y_eqI, y_eqS, y_eqB, y_neI, y_neS, y_neB, y_neg, y_ixL, y_ixT, y_min, y_max, y_abs, y_lenL, y_lenT, y_lenS, y_lenB, y_truL, y_truT, y_inL, y_inT, y_ex1, y_exO, y_exR, at0, at1, at2, at3, isNon, List.getElem?_cons_succ, List.getElem?_cons_zero, List.set_cons_succ, List.set_cons_zero, List.length_cons, List.length_nil, List.map_cons, List.map_nil, true_and, and_true, decide_eq_true_eq, Bool.not_eq_true', Bool.not_true, Bool.not_false, if_true, if_false, Bool.false_eq_true, ite_true, ite_false])
      refine hNX _ ?_
      clear hNX NX
      have okc : ∀ s ∈ c, okS s = true := fun s hs => (hc.2 s hs).1
      have okd : ∀ s ∈ d, okS s = true := fun s hs => (hd.2 s hs).1
      have per : ∀ e : Ch, (∀ s ∈ e, okS s = true) → (∀ s ∈ e, s ∈ c ++ d) → smC 7 e → noC e ∨ ∀ y z, (2 : Int) ^ mx.toNat ∣ y - z → convI y e = convI z e := fun e oke sub he => by
        rcases he with he | ⟨s, hs, h1, h2⟩
        · exact .inl he
        · refine .inr fun y z hd => period_of oke ⟨s, hs, h1, ?_⟩ hd
          exact hle s.2 (List.mem_append.mpr (.inl ((hmem s.2).mpr ⟨s, sub s hs, ⟨h1, by omega⟩, rfl⟩)))
      have perc := per c okc (fun s hs => List.mem_append.mpr (.inl hs)) sc
      have perd := per d okd (fun s hs => List.mem_append.mpr (.inr hs)) sd
      generalize hP : (2 : Int) ^ mx.toNat = P at *
      (try simp only [y_var, y_c, y_op, y_un, y_and, y_or, y_not, y_if, y_isN, y_notN, y_bOf, y_bTru, y_bNot, y_bYes, y_aNil, y_aCons, y_aStar, y_tup, y_disp, y_fz, y_cb, y_cat, y_of, y_sl, y_dO0, y_dO1, y_ixN, y_lenN, y_chain, y_call0, y_call, y_callR0, y_next, y_brk, y_cnt, y_asg, y_setO, y_gNm, y_gTp, y_gsNil, y_gsCons, y_subO, y_par, y_aug, y_expr, y_app, y_ext, y_ifS, y_ret, y_retN, y_for, y_while, y_iSeq, y_iTp, y_iR1, y_iR2, y_iEn, y_iZp, y_lc, y_raise, y_un1, y_maxL, y_minL, y_swap, y_cmpO, y_call, Bool.true_eq_false, reduceCtorEq, decide_true, decide_false, ix2_0, ix2_1, ix3_0, ix3_1, ix3_2, LcRun, LpRun, wipeP, restP, noX, dite_true, List.nil_append, List.cons_append, Option.getD_some, Option.getD_none, y_repr, y_tupleL, y_tupleT, y_sum, y_all, y_any, y_eqD, y_neD, y_rev, y_dn, y_orT, y_notT, y_ins, y_bits, y_bAnd, y_bOr, y_rt0, y_rtR, y_nx0, y_rtX, y_nxX, y_exX, inV2, inV3, flatD, vOf, List.all_cons, List.all_nil, Bool.and_self, sz_iff, Nat.reduceAdd, Nat.reduceLeDiff, Nat.zero_add, y_dD, y_dB, y_dI, y_dL, y_dSl, y_dSt, y_dAll0, y_dAllS, dAll_map, y_I0, y_I, y_eqI, y_eqS, y_eqB, y_neI, y_neS, y_neB, y_neg, y_ixL, y_ixT, y_min, y_max, y_abs, y_lenL, y_lenT, y_lenS, y_lenB, y_truL, y_truT, y_inL, y_inT, y_ex1, y_exO, y_exR, at0, at1, at2, at3, isNon, List.getElem?_cons_succ, List.getElem?_cons_zero, List.set_cons_succ, List.set_cons_zero, List.length_cons, List.length_nil, List.map_cons, List.map_nil, true_and, and_true, decide_eq_true_eq, Bool.not_eq_true', Bool.not_true, Bool.not_false, if_true, if_false, Bool.false_eq_true, ite_true, ite_false])
      refine ⟨by omega, by omega, ?_⟩
      unfold rngA
      refine compF (xs := List.range (P + 1).toNat) (fun (i : Nat) => if convI (0 + (i : Int)) c = convI (0 + (i : Int)) d then none else some (.int (0 + (i : Int)))) (fun v hv => by simp only [List.mem_cons, List.not_mem_nil, or_false] at hv; first | (subst hv; exact trivial) | (rcases hv with rfl | rfl <;> exact trivial) | (rcases hv with rfl | rfl | rfl <;> exact trivial)) (by rw [List.length_range, sizeLine_eq]; omega) (fun p hp acc KK hz hK => ?_) ?_
      · (try simp only [y_var, y_c, y_op, y_un, y_and, y_or, y_not, y_if, y_isN, y_notN, y_bOf, y_bTru, y_bNot, y_bYes, y_aNil, y_aCons, y_aStar, y_tup, y_disp, y_fz, y_cb, y_cat, y_of, y_sl, y_dO0, y_dO1, y_ixN, y_lenN, y_chain, y_call0, y_call, y_callR0, y_next, y_brk, y_cnt, y_asg, y_setO, y_gNm, y_gTp, y_gsNil, y_gsCons, y_subO, y_par, y_aug, y_expr, y_app, y_ext, y_ifS, y_ret, y_retN, y_for, y_while, y_iSeq, y_iTp, y_iR1, y_iR2, y_iEn, y_iZp, y_lc, y_raise, y_un1, y_maxL, y_minL, y_swap, y_cmpO, y_call, Bool.true_eq_false, reduceCtorEq, decide_true, decide_false, ix2_0, ix2_1, ix3_0, ix3_1, ix3_2, LcRun, LpRun, wipeP, restP, noX, dite_true, List.nil_append, List.cons_append, Option.getD_some, Option.getD_none, y_repr, y_tupleL, y_tupleT, y_sum, y_all, y_any, y_eqD, y_neD, y_rev, y_dn, y_orT, y_notT, y_ins, y_bits, y_bAnd, y_bOr, y_rt0, y_rtR, y_nx0, y_rtX, y_nxX, y_exX, inV2, inV3, flatD, vOf, List.all_cons, List.all_nil, Bool.and_self, sz_iff, Nat.reduceAdd, Nat.reduceLeDiff, Nat.zero_add, y_dD, y_dB, y_dI, y_dL, y_dSl, y_dSt, y_dAll0, y_dAllS, dAll_map, y_I0, y_I, y_eqI, y_eqS, y_eqB, y_neI, y_neS, y_neB, y_neg, y_ixL, y_ixT, y_min, y_max, y_abs, y_lenL, y_lenT, y_lenS, y_lenB, y_truL, y_truT, y_inL, y_inT, y_ex1, y_exO, y_exR, at0, at1, at2, at3, isNon, List.getElem?_cons_succ, List.getElem?_cons_zero, List.set_cons_succ, List.set_cons_zero, List.length_cons, List.length_nil, List.map_cons, List.map_nil, true_and, and_true, decide_eq_true_eq, Bool.not_eq_true', Bool.not_true, Bool.not_false, if_true, if_false, Bool.false_eq_true, ite_true, ite_false])
        refine ⟨_, c, rfl, hc.okM, ?_⟩
        (try simp only [y_var, y_c, y_op, y_un, y_and, y_or, y_not, y_if, y_isN, y_notN, y_bOf, y_bTru, y_bNot, y_bYes, y_aNil, y_aCons, y_aStar, y_tup, y_disp, y_fz, y_cb, y_cat, y_of, y_sl, y_dO0, y_dO1, y_ixN, y_lenN, y_chain, y_call0, y_call, y_callR0, y_next, y_brk, y_cnt, y_asg, y_setO, y_gNm, y_gTp, y_gsNil, y_gsCons, y_subO, y_par, y_aug, y_expr, y_app, y_ext, y_ifS, y_ret, y_retN, y_for, y_while, y_iSeq, y_iTp, y_iR1, y_iR2, y_iEn, y_iZp, y_lc, y_raise, y_un1, y_maxL, y_minL, y_swap, y_cmpO, y_call, Bool.true_eq_false, reduceCtorEq, decide_true, decide_false, ix2_0, ix2_1, ix3_0, ix3_1, ix3_2, LcRun, LpRun, wipeP, restP, noX, dite_true, List.nil_append, List.cons_append, Option.getD_some, Option.getD_none, y_repr, y_tupleL, y_tupleT, y_sum, y_all, y_any, y_eqD, y_neD, y_rev, y_dn, y_orT, y_notT, y_ins, y_bits, y_bAnd, y_bOr, y_rt0, y_rtR, y_nx0, y_rtX, y_nxX, y_exX, inV2, inV3, flatD, vOf, List.all_cons, List.all_nil, Bool.and_self, sz_iff, Nat.reduceAdd, Nat.reduceLeDiff, Nat.zero_add, y_dD, y_dB, y_dI, y_dL, y_dSl, y_dSt, y_dAll0, y_dAllS, dAll_map, y_I0, y_I, y_eqI, y_eqS, y_eqB, y_neI, y_neS, y_neB, y_neg, y_ixL, y_ixT, y_min, y_max, y_abs, y_lenL, y_lenT, y_lenS, y_lenB, y_truL, y_truT, y_inL, y_inT, y_ex1, y_exO, y_exR, at0, at1, at2, at3, isNon, List.getElem?_cons_succ, List.getElem?_cons_zero, List.set_cons_succ, List.set_cons_zero, List.length_cons, List.length_nil, List.map_cons, List.map_nil, true_and, and_true, decide_eq_true_eq, Bool.not_eq_true', Bool.not_true, Bool.not_false, if_true, if_false, Bool.false_eq_true, ite_true, ite_false])
        refine ⟨_, d, rfl, hd.okM, ?_⟩
        (try simp only [y_var, y_c, y_op, y_un, y_and, y_or, y_not, y_if, y_isN, y_notN, y_bOf, y_bTru, y_bNot, y_bYes, y_aNil, y_aCons, y_aStar, y_tup, y_disp, y_fz, y_cb, y_cat, y_of, y_sl, y_dO0, y_dO1, y_ixN, y_lenN, y_chain, y_call0, y_call, y_callR0, y_next, y_brk, y_cnt, y_asg, y_setO, y_gNm, y_gTp, y_gsNil, y_gsCons, y_subO, y_par, y_aug, y_expr, y_app, y_ext, y_ifS, y_ret, y_retN, y_for, y_while, y_iSeq, y_iTp, y_iR1, y_iR2, y_iEn, y_iZp, y_lc, y_raise, y_un1, y_maxL, y_minL, y_swap, y_cmpO, y_call, Bool.true_eq_false, reduceCtorEq, decide_true, decide_false, ix2_0, ix2_1, ix3_0, ix3_1, ix3_2, LcRun, LpRun, wipeP, restP, noX, dite_true, List.nil_append, List.cons_append, Option.getD_some, Option.getD_none, y_repr, y_tupleL, y_tupleT, y_sum, y_all, y_any, y_eqD, y_neD, y_rev, y_dn, y_orT, y_notT, y_ins, y_bits, y_bAnd, y_bOr, y_rt0, y_rtR, y_nx0, y_rtX, y_nxX, y_exX, inV2, inV3, flatD, vOf, List.all_cons, List.all_nil, Bool.and_self, sz_iff, Nat.reduceAdd, Nat.reduceLeDiff, Nat.zero_add, y_dD, y_dB, y_dI, y_dL, y_dSl, y_dSt, y_dAll0, y_dAllS, dAll_map, y_I0, y_I, y_eqI, y_eqS, y_eqB, y_neI, y_neS, y_neB, y_neg, y_ixL, y_ixT, y_min, y_max, y_abs, y_lenL, y_lenT, y_lenS, y_lenB, y_truL, y_truT, y_inL, y_inT, y_ex1, y_exO, y_exR, at0, at1, at2, at3, isNon, List.getElem?_cons_succ, List.getElem?_cons_zero, List.set_cons_succ, List.set_cons_zero, List.length_cons, List.length_nil, List.map_cons, List.map_nil, true_and, and_true, decide_eq_true_eq, Bool.not_eq_true', Bool.not_true, Bool.not_false, if_true, if_false, Bool.false_eq_true, ite_true, ite_false])
        by_cases e : convI (0 + (p : Int)) c = convI (0 + (p : Int)) d
        · rw [if_pos e] at hK
          rw [decide_eq_true e]
          exact hK
        · rw [if_neg e] at hK
          rw [decide_eq_false e]
          exact ⟨hz, hK⟩
      · (try simp only [y_var, y_c, y_op, y_un, y_and, y_or, y_not, y_if, y_isN, y_notN, y_bOf, y_bTru, y_bNot, y_bYes, y_aNil, y_aCons, y_aStar, y_tup, y_disp, y_fz, y_cb, y_cat, y_of, y_sl, y_dO0, y_dO1, y_ixN, y_lenN, y_chain, y_call0, y_call, y_callR0, y_next, y_brk, y_cnt, y_asg, y_setO, y_gNm, y_gTp, y_gsNil, y_gsCons, y_subO, y_par, y_aug, y_expr, y_app, y_ext, y_ifS, y_ret, y_retN, y_for, y_while, y_iSeq, y_iTp, y_iR1, y_iR2, y_iEn, y_iZp, y_lc, y_raise, y_un1, y_maxL, y_minL, y_swap, y_cmpO, y_call, Bool.true_eq_false, reduceCtorEq, decide_true, decide_false, ix2_0, ix2_1, ix3_0, ix3_1, ix3_2, LcRun, LpRun, wipeP, restP, noX, dite_true, List.nil_append, List.cons_append, Option.getD_some, Option.getD_none, y_repr, y_tupleL, y_tupleT, y_sum, y_all, y_any, y_eqD, y_neD, y_rev, y_dn, y_orT, y_notT, y_ins, y_bits, y_bAnd, y_bOr, y_rt0, y_rtR, y_nx0, y_rtX, y_nxX, y_exX, inV2, inV3, flatD, vOf, List.all_cons, List.all_nil, Bool.and_self, sz_iff, Nat.reduceAdd, Nat.reduceLeDiff, Nat.zero_add, y_dD, y_dB, y_dI, y_dL, y_dSl, y_dSt, y_dAll0, y_dAllS, dAll_map, y_I0, y_I, y_eqI, y_eqS, y_eqB, y_neI, y_neS, y_neB, y_neg, y_ixL, y_ixT, y_min, y_max, y_abs, y_lenL, y_lenT, y_lenS, y_lenB, y_truL, y_truT, y_inL, y_inT, y_ex1, y_exO, y_exR, at0, at1, at2, at3, isNon, List.getElem?_cons_succ, List.getElem?_cons_zero, List.set_cons_succ, List.set_cons_zero, List.length_cons, List.length_nil, List.map_cons, List.map_nil, true_and, and_true, decide_eq_true_eq, Bool.not_eq_true', Bool.not_true, Bool.not_false, if_true, if_false, Bool.false_eq_true, ite_true, ite_false])
        have eF : ∃ ns : List Int, (List.range (P + 1).toNat).filterMap (fun (i : Nat) => if convI (0 + (i : Int)) c = convI (0 + (i : Int)) d then none else some (PyData.int (0 + (i : Int)))) = ns.map PyData.int ∧ (ns = [] ↔ ∀ i, i < (P + 1).toNat → convI (0 + (i : Int)) c = convI (0 + (i : Int)) d) := by
          refine ⟨(List.range (P + 1).toNat).filterMap (fun (i : Nat) => if convI (0 + (i : Int)) c = convI (0 + (i : Int)) d then none else some (0 + (i : Int))), ?_, ?_⟩
          · rw [List.map_filterMap]
            congr 1
            funext i
            split <;> rfl
          · rw [List.filterMap_eq_nil_iff]
            constructor
            · intro h i hi
              have := h i (List.mem_range.mpr hi)
              by_cases e : convI (0 + (i : Int)) c = convI (0 + (i : Int)) d
              · exact e
              · rw [if_neg e] at this; cases this
            · intro h i hi
              exact if_pos (h i (List.mem_range.mp hi))
        obtain ⟨ns, e1, e2⟩ := eF
        rw [e1]
        refine ⟨shL0 _, shE, q _ ?_⟩
        rw [eqvL0, List.isEmpty_iff, e2]
        constructor
        · intro h
          refine agree (P := P) (by omega) perc perd fun x x0 x1 => ?_
          have := h x.toNat (by omega)
          rwa [Int.zero_add, Int.toNat_of_nonneg x0] at this
        · exact fun h i _ => h _
end

end Cc

set_option Elab.async false
set_option linter.all false
set_option maxRecDepth 100000
set_option maxHeartbeats 4000000
namespace Cc
open PySem PySem.Spec PyProof.Rows L2
abbrev s_law_right : Stmt := topS 28
theorem sc_law_right : FnScope ["pool", "far", "one", "two", "turn", "other", "kept", "due", "told"] ["pool"] (defScope s_law_right) := ⟨rfl, rfl, rfl, by decide +kernel, rfl, by decide +kernel, by decide +kernel⟩
abbrev s_law_wide_right : Stmt := topS 29
theorem sc_law_wide_right : FnScope ["pool", "one", "other", "tried", "turn", "x"] ["pool"] (defScope s_law_wide_right) := ⟨rfl, rfl, rfl, by decide +kernel, rfl, by decide +kernel, by decide +kernel⟩
section
def rev2 {α : Type} : List α → List α
  | [a, b] => [b, a]
  | l => l
theorem Vals.rev2 : ∀ {vs : List V} {us : List Value}, Vals vs us → Vals (Cc.rev2 vs) (Cc.rev2 us)
  | _, _, .nil => .nil
  | _, _, .cons a .nil => .cons a .nil
  | _, _, .cons a (.cons b .nil) => .cons b (.cons a .nil)
  | _, _, .cons a (.cons b (.cons c r)) => .cons a (.cons b (.cons c r))
theorem rev2_rp {Γ : Gx} {F : Hp} : ∀ {vs : List V} {xs : List Cc.A}, RpAll Γ F vs xs → RpAll Γ F (rev2 vs) (rev2 xs)
  | [], [], h => h
  | [_], [_], h => h
  | [_, _], [_, _], ⟨a, b, _⟩ => ⟨b, a, trivial⟩
  | _ :: _ :: _ :: _, _ :: _ :: _ :: _, h => h
  | [], _ :: _, h => h.elim
  | _ :: _, [], h => h.elim
  | [_], _ :: _ :: _, h => h.2.elim
  | _ :: _ :: _, [_], h => h.2.elim
  | [_, _], _ :: _ :: _ :: _, h => h.2.2.elim
  | _ :: _ :: _ :: _, [_, _], h => h.2.2.elim
end
section
variable {P : Program} {w : World} {K : PySem.W.Frag} {mg : Str → Option Value} {base : Heap} {C : Nat → Addr} {CS : Addr}
theorem y_hide {k : SS} {ρ : List Sl} {P : EndsP} (h : ∀ NX : List Sl → Prop, (∀ ρ', P.nx ρ' → NX ρ') → k ρ ⟨NX, P.rt, P.bk, P.ct, P.ex⟩) : k ρ P := h P.nx fun _ h => h
theorem y_ifF {t : BB} {k k' : SS} {ρ : List Sl} {P : EndsP} (h : ∀ RB : Bool → List Sl → Prop, RB false ρ → t ρ RB P.ex) (hk : k' ρ P) : sIf t k k' ρ P :=
  y_ifS.mpr (h _ (by rw [if_neg (by decide)]; exact hk))
theorem y_orF {a b : BB} {ρ : List Sl} {R Xx} (h : ∀ RB : Bool → List Sl → Prop, RB false ρ → a ρ RB Xx) (hb : b ρ R Xx) : bOr a b ρ R Xx :=
  h _ (by rw [if_neg (by decide)]; exact hb)
theorem rokB (a b : Bool) : Rok (.list [.bool a, .bool b]) := by
  unfold Rok
  cases a <;> cases b <;> decide +kernel
theorem rok2 {c d : Ch} {m : Nat} {B : Int} (hB : B ≤ 10 ^ 40) (hm : m ≤ 100) (hc : chB m B c) (hd : chB m B d) : Rok (.list [.list (c.map stD), .list (d.map stD)]) := by
  have t40 : (10 : Int) ^ 40 = 10000000000000000000000000000000000000000 := by decide
  have sm : ∀ {c : Ch}, (∀ s ∈ c, okS s = true ∧ (if s.1 = "add" then -B ≤ s.2 ∧ s.2 ≤ B else s.2 ≤ 64)) → smallL (c.map stD) ∧ PyData.bulkAll (c.map stD) ≤ 10 * c.length := fun {c} => by
    induction c with
    | nil => exact fun _ => ⟨trivial, Nat.le_refl _⟩
    | cons p c ih =>
      intro h
      obtain ⟨i1, i2⟩ := ih fun q hq => h q (List.mem_cons_of_mem _ hq)
      obtain ⟨o1, o2⟩ := h p (List.mem_cons_self ..)
      have hw : p.1 = "add" ∨ p.1 = "u" ∨ p.1 = "s" := by
        by_cases e : p.1 = "add"
        · exact .inl e
        · exact .inr (okS_w (x := p.1) (n := p.2) o1 e).1
      have hn : p.2.natAbs < 10000000000000000000000000000000000000001 := by
        by_cases e : p.1 = "add"
        · rw [if_pos e] at o2
          omega
        · rw [if_neg e] at o2
          have := (okS_w (x := p.1) (n := p.2) o1 e).2
          omega
      constructor
      · refine ⟨?_, i1⟩
        simp only [stD, smallD, smallL]
        refine ⟨?_, Nat.lt_trans hn (by decide +kernel), trivial⟩
        rcases hw with e | e | e <;> rw [e] <;> decide +kernel
      · have e : p.1.cps.size = p.1.length := rfl
        have hl : p.1.length ≤ 3 := by rcases hw with e | e | e <;> rw [e] <;> decide
        rw [List.map_cons, List.length_cons]
        simp only [stD, PyData.bulk, PyData.bulkAll]
        omega
  obtain ⟨a1, a2⟩ := sm hc.2
  obtain ⟨b1, b2⟩ := sm hd.2
  have c1 := (ch_lay fun s hs => (hc.2 s hs).1).2
  have d1 := (ch_lay fun s hs => (hd.2 s hs).1).2
  have lc := hc.1
  have ld := hd.1
  refine rok_of (by simp only [smallD, smallL]; exact ⟨a1, b1, trivial⟩) ?_ ?_
  · simp only [PyData.depth, PyData.depthAll]
    omega
  · simp only [PyData.bulk, PyData.bulkAll]
    omega
theorem chB_of {k : Nat} {b : Int} {c : Ch} (h : chainOkB k b c) (hb : b ≤ 64) : chB k (10 ^ 30) c := ⟨h.1, fun s hs => by
  obtain ⟨a, b⟩ := h.2 s hs
  refine ⟨a, ?_⟩
  by_cases e : s.1 = "add"
  · rw [if_pos e] at b ⊢
    exact b
  · rw [if_neg e] at b ⊢
    omega⟩
def phRight : Phi := fun n xs R _ => xs = [] ∧ n < 50000000 ∧ ∀ m, m ≤ n + 30000 → R (.d (.bool true)) m
theorem q_right (T : Tx K mg "_law_right" s_law_right) (m_repr : mg "repr" = none) (m_enumerate : mg "enumerate" = none) (h__law_draw : Pr P w K mg base CX0 1 "_law_draw" ["pool", "many"] (spP (poolG K C CS) true phDraw)) (h__law_steps : Pr P w K mg base CX0 3 "_law_steps" ["pool", "most", "bits", "far"] (spP (poolG K C CS) true phSteps))
    (h__law_narrow : Pr P w K mg base CX0 2 "_law_narrow" ["pool", "steps_here"] (spP (poolG K C CS) true phNar)) (h__law_other_way : Pr P w K mg base CX0 3 "_law_other_way" ["pool", "steps_here"] (spP (poolG K C CS) true phOth)) (h__law_changed : Pr P w K mg base CX0 2 "_law_changed" ["pool", "steps_here"] (spP (poolG K C CS) true phChg))
    (h__law_agree : Pr P w K mg base CX0 3 "_law_agree" ["one", "two"] (spP (poolG K C CS) false phAgr)) (h_form : Pr P w K mg base (L2.CX P w) 6 "form" ["chain"] (spP (poolG K C CS) false phForm)) (h_same_function : Pr P w K mg base (L2.CX P w) 7 "same_function" ["first", "second"] (spP (poolG K C CS) false phSame)) (k_same_function : PrK P w K mg base (L2.CX P w) 7 "same_function" s_same_function ["first", "second"] (spP (poolG K C CS) false phSame)) :
    Pr P w K mg base CX0 8 "_law_right" ["pool"] (spP (poolG K C CS) true phRight) := by
  refine mkPP (Γ := poolG K C CS) T sc_law_right (fun _ _ _ _ _ _ us hl => match us, hl with | [_], _ => rfl) (fun n xs R Xx h => ?_) (fun n xs R Xx h => h) (fun f cdv A outer s H E hG hr => ?_)
  · obtain ⟨rfl, _⟩ := h
    rfl
  · have nd := sc_law_right.nd
    refine ⟨_, _, (dss_cons (fun h h' => pss_cons h h') (ds_set (i := 1) (fun h => ps_set nd rfl (.inl rfl) h) (de_op opd_ix (fun h h' => pe_ix (ixSK rfl) h h' (fun _ _ => rfl)) (de_fz (dl_disp (fun h => pe_lst h) (da_cons (fun h t => pa_cons h t) (de_c pe_int (fun _ => .int _)) (da_cons (fun h t => pa_cons h t) (de_c pe_int (fun _ => .int _)) (da_cons (fun h t => pa_cons h t) (de_op opd_int (fun h h' => pe_op op_powX h h') (de_c pe_int (fun _ => .int _)) (de_c pe_int (fun _ => .int _))) (da_nil pa_nil)))))) (de_callR0 (i := 0) (fun h => pe_P h__law_draw hr hG (by rfl) (pa_cons (pv 0) h)) (da_cons (fun h t => pa_cons h t) (de_c pe_int (fun _ => .int _)) (da_nil pa_nil))))) (dss_cons (fun h h' => pss_cons h h') (ds_set (i := 2) (fun h => ps_set nd rfl (.inl rfl) h) (de_callR0 (i := 0) (fun h => pe_P h__law_narrow hr hG (by rfl) (pa_cons (pv 0) h)) (da_cons (fun h t => pa_cons h t) (de_callR0 (i := 0) (fun h => pe_P h__law_steps hr hG (by rfl) (pa_cons (pv 0) h)) (da_cons (fun h t => pa_cons h t) (de_c pe_int (fun _ => .int _)) (da_cons (fun h t => pa_cons h t) (de_op opd_ix (fun h h' => pe_ix (ixSK rfl) h h' (fun _ _ => rfl)) (de_fz (dl_disp (fun h => pe_lst h) (da_cons (fun h t => pa_cons h t) (de_c pe_int (fun _ => .int _)) (da_cons (fun h t => pa_cons h t) (de_c pe_int (fun _ => .int _)) (da_cons (fun h t => pa_cons h t) (de_c pe_int (fun _ => .int _)) (da_nil pa_nil)))))) (de_callR0 (i := 0) (fun h => pe_P h__law_draw hr hG (by rfl) (pa_cons (pv 0) h)) (da_cons (fun h t => pa_cons h t) (de_c pe_int (fun _ => .int _)) (da_nil pa_nil)))) (da_cons (fun h t => pa_cons h t) (de_var (pv 1)) (da_nil pa_nil))))) (da_nil pa_nil)))) (dss_cons (fun h h' => pss_cons h h') (ds_setO (i := 3) (fun h => ps_set nd rfl (.inl rfl) h) (dl_disp (fun h => pe_lst h) (da_cons (fun h t => pa_cons h t) (de_callR0 (i := 0) (fun h => pe_P h__law_other_way hr hG (by rfl) (pa_cons (pv 0) h)) (da_cons (fun h t => pa_cons h t) (de_var (pv 2)) (da_nil pa_nil))) (da_cons (fun h t => pa_cons h t) (de_callR0 (i := 0) (fun h => pe_P h__law_changed hr hG (by rfl) (pa_cons (pv 0) h)) (da_cons (fun h t => pa_cons h t) (de_var (pv 2)) (da_nil pa_nil))) (da_cons (fun h t => pa_cons h t) (de_callR0 (i := 0) (fun h => pe_P h__law_other_way hr hG (by rfl) (pa_cons (pv 0) h)) (da_cons (fun h t => pa_cons h t) (de_callR0 (i := 0) (fun h => pe_P h__law_changed hr hG (by rfl) (pa_cons (pv 0) h)) (da_cons (fun h t => pa_cons h t) (de_var (pv 2)) (da_nil pa_nil))) (da_nil pa_nil))) (da_nil pa_nil)))))) (dss_cons (fun h h' => pss_cons h h') (ds_app (i := 3) (fun h => ps_expr (pe_bm PySem.F.plainAttrs_list PySem.F.slot_list_append PySem.F.type_list_append mt_append (pv 3) (pa_cons h pa_nil))) (de_callR0 (i := 0) (fun h => pe_P h__law_narrow hr hG (by rfl) (pa_cons (pv 0) h)) (da_cons (fun h t => pa_cons h t) (de_callR0 (i := 0) (fun h => pe_P h__law_steps hr hG (by rfl) (pa_cons (pv 0) h)) (da_cons (fun h t => pa_cons h t) (de_c pe_int (fun _ => .int _)) (da_cons (fun h t => pa_cons h t) (de_c pe_int (fun _ => .int _)) (da_cons (fun h t => pa_cons h t) (de_c pe_int (fun _ => .int _)) (da_nil pa_nil))))) (da_nil pa_nil)))) (dss_cons (fun h h' => pss_cons h h') (ds_for (fun hi hg hb => ps_for PassesOwn.never rfl hi hg hb) (di_en (fun h => pi_enum (by rfl) m_enumerate (pa_cons h pa_nil)) (de_var (pv 3))) (dg_tup (n := 2) (fun h => pg_tup rfl h) (dgs_cons (fun g h => pgs_cons g h) (dg_name (pg_name (i := 4) nd rfl (.inl rfl))) (dgs_cons (fun g h => pgs_cons g h) (dg_name (pg_name (i := 5) nd rfl (.inl rfl))) (dgs_nil pgs_nil)))) (dss_cons (fun h h' => pss_cons h h') (ds_par (i := 6) (j := 7) (fun h => ps_par (by rfl) nd rfl rfl (by decide) rfl rfl h (by rfl)) (da_cons (fun h t => pa_cons h t) (de_cb cd_repr (fun h => pe_callB (cr_repD hG hr.units) (by rfl) m_repr (by decide +kernel) h) (da_cons (fun h t => pa_cons h t) (de_fz (dl_disp (fun h => pe_lst h) (da_cons (fun h t => pa_cons h t) (de_var (pv 2)) (da_cons (fun h t => pa_cons h t) (de_var (pv 5)) (da_nil pa_nil))))) (da_nil pa_nil))) (da_cons (fun h t => pa_cons h t) (de_or (fun h h' => pe_or h h') (de_op opd_eq (fun h h' => pe_cmpR op_eq h h' (nomark _)) (de_var (pv 4)) (de_c pe_int (fun _ => .int _))) (de_one (fun h => pe_one h) (de_call0 (fun h => pe_P h__law_agree hr hG (by rfl) h) (da_cons (fun h t => pa_cons h t) (de_var (pv 2)) (da_cons (fun h t => pa_cons h t) (de_var (pv 5)) (da_nil pa_nil)))))) (da_nil pa_nil)))) (dss_cons (fun h h' => pss_cons h h') (ds_set (i := 8) (fun h => ps_set nd rfl (.inl rfl) h) (de_fz (dl_disp (fun h => pe_lst h) (da_cons (fun h t => pa_cons h t) (de_callX (fun h => pe_PX h_same_function hr hG (by rfl) takes0 h) (da_cons (fun h t => pa_cons h t) (de_var (pv 2)) (da_cons (fun h t => pa_cons h t) (de_var (pv 5)) (da_nil pa_nil)))) (da_cons (fun h t => pa_cons h t) (de_callKX (gA := rev2) (by exact fun h => rev2_rp h) (fun h => pe_KX k_same_function hr hG (by rfl) takes0 (ks := ["second", "first"]) (g := rev2) (gV := rev2) (fun _ _ _ _ _ _ us hl => match us, hl with | [_, _], _ => rfl) Vals.rev2 h) (dk_cons (fun h t => pk_cons h t) (de_var (pv 2)) (dk_cons (fun h t => pk_cons h t) (de_var (pv 5)) (dk_nil pk_nil)))) (da_nil pa_nil)))))) (dss_one (fun h => pss_one h) (ds_if (fun h a b => ps_if h a b) (dt_pw (fun h => PW.pt h) (dw_or (fun h h' => pw_or h h') (dt_cmp opd_ne (fun h h' => pt_cmpR op_ne h h' (nomark _)) (de_cb cd_repr (fun h => pe_callB (cr_repD hG hr.units) (by rfl) m_repr (by decide +kernel) h) (da_cons (fun h t => pa_cons h t) (de_var (pv 8)) (da_nil pa_nil))) (de_cb cd_repr (fun h => pe_callB (cr_repD hG hr.units) (by rfl) m_repr (by decide +kernel) h) (da_cons (fun h t => pa_cons h t) (de_fz (dl_disp (fun h => pe_lst h) (da_cons (fun h t => pa_cons h t) (de_var (pv 7)) (da_cons (fun h t => pa_cons h t) (de_var (pv 7)) (da_nil pa_nil))))) (da_nil pa_nil)))) (dw_or (fun h h' => pw_or h h') (dt_cmp opd_ne (fun h h' => pt_cmpR op_ne h h' (nomark _)) (de_cb cd_repr (fun h => pe_callB (cr_repD hG hr.units) (by rfl) m_repr (by decide +kernel) h) (da_cons (fun h t => pa_cons h t) (de_fz (dl_disp (fun h => pe_lst h) (da_cons (fun h t => pa_cons h t) (de_var (pv 2)) (da_cons (fun h t => pa_cons h t) (de_var (pv 5)) (da_nil pa_nil))))) (da_nil pa_nil))) (de_var (pv 6))) (dw_or1 (fun h => pw_or1 h) (dt_cmp opd_ne (fun h h' => pt_cmpR op_ne h h' (nomark _)) (de_op opd_eqD (fun h h' => pe_cmpR (op_eqD hr.units) h h' (nomark _)) (de_callX (fun h => pe_PX h_form hr hG (by rfl) takes0 h) (da_cons (fun h t => pa_cons h t) (de_var (pv 2)) (da_nil pa_nil))) (de_callX (fun h => pe_PX h_form hr hG (by rfl) takes0 h) (da_cons (fun h t => pa_cons h t) (de_var (pv 5)) (da_nil pa_nil)))) (de_var (pv 7))))))) (dss_one (fun h => pss_one h) (ds_ret (fun h => ps_ret h) (de_c pe_bl (fun _ => .bl _)))) (dss_nil pss_nil)))))) (dss_one (fun h => pss_one h) (ds_ret (fun h => ps_ret h) (de_callX (fun h => pe_PX h_same_function hr hG (by rfl) takes0 h) (da_cons (fun h t => pa_cons h t) (de_var (pv 2)) (da_cons (fun h t => pa_cons h t) (de_var (pv 2)) (da_nil pa_nil))))))))))), fun n xs R h => ?_⟩
    obtain ⟨rfl, hn, q⟩ := h
    show (sSeq _ _) [.rng n, .un, .un, .un, .un, .un, .un, .un, .un] _
    refine y_cut fun NX hNX => ?_
    (try simp only [y_var, y_c, y_op, y_un, y_and, y_or, y_not, y_if, y_isN, y_notN, y_bOf, y_bTru, y_bNot, y_bYes, y_aNil, y_aCons, y_aStar, y_tup, y_disp, y_fz, y_cb, y_cat, y_of, y_sl, y_dO0, y_dO1, y_ixN, y_lenN, y_chain, y_call0, y_call, y_callR0, y_next, y_brk, y_cnt, y_asg, y_setO, y_gNm, y_gTp, y_gsNil, y_gsCons, y_subO, y_par, y_aug, y_expr, y_app, y_ext, y_ifS, y_ret, y_retN, y_for, y_while, y_iSeq, y_iTp, y_iR1, y_iR2, y_iEn, y_iZp, y_lc, y_raise, y_un1, y_maxL, y_minL, y_swap, y_cmpO, y_call, Bool.true_eq_false, reduceCtorEq, decide_true, decide_false, ix2_0, ix2_1, ix3_0, ix3_1, ix3_2, LcRun, LpRun, wipeP, restP, noX, dite_true, List.nil_append, List.cons_append, Option.getD_some, Option.getD_none, y_repr, y_tupleL, y_tupleT, y_sum, y_all, y_any, y_eqD, y_neD, y_rev, y_dn, y_orT, y_notT, y_ins, y_bits, y_bAnd, y_bOr, y_rt0, y_rtR, y_nx0, y_rtX, y_nxX, y_exX, inV2, inV3, flatD, vOf, List.all_cons, List.all_nil, Bool.and_self, sz_iff, Nat.reduceAdd, Nat.reduceLeDiff, Nat.zero_add, y_dD, y_dB, y_dI, y_dL, y_dSl, y_dSt, y_dAll0, y_dAllS, dAll_map, y_I0, y_I, y_eqI, y_eqS, y_eqB, y_neI, y_neS, y_neB, y_neg, y_ixL, y_ixT, y_min, y_max, y_abs, y_lenL, y_lenT, y_lenS, y_lenB, y_truL, y_truT, y_inL, y_inT, y_ex1, y_exO, y_exR, at0, at1, at2, at3, isNon, List.getElem?_cons_succ, List.getElem?_cons_zero, List.set_cons_succ, List.set_cons_zero, List.length_cons, List.length_nil, List.map_cons, List.map_nil, true_and, and_true, decide_eq_true_eq, Bool.not_eq_true', Bool.not_true, Bool.not_false, if_true, if_false, Bool.false_eq_true, ite_true, ite_false])
    have t20 : (10 : Int) ^ (20 : Int).toNat = 100000000000000000000 := by decide
    have t30 : (10 : Int) ^ 30 = 1000000000000000000000000000000 := by decide
    have t29 : (10 : Int) ^ 29 = 100000000000000000000000000000 := by decide
    have t40 : (10 : Int) ^ 40 = 10000000000000000000000000000000000000000 := by decide
    refine ⟨⟨by omega, by omega, pow_ok (by omega) (by omega)⟩, 3, rfl, by omega, by omega, by decide, fun v v0 v1 => ?_⟩
    (try simp only [y_var, y_c, y_op, y_un, y_and, y_or, y_not, y_if, y_isN, y_notN, y_bOf, y_bTru, y_bNot, y_bYes, y_aNil, y_aCons, y_aStar, y_tup, y_disp, y_fz, y_cb, y_cat, y_of, y_sl, y_dO0, y_dO1, y_ixN, y_lenN, y_chain, y_call0, y_call, y_callR0, y_next, y_brk, y_cnt, y_asg, y_setO, y_gNm, y_gTp, y_gsNil, y_gsCons, y_subO, y_par, y_aug, y_expr, y_app, y_ext, y_ifS, y_ret, y_retN, y_for, y_while, y_iSeq, y_iTp, y_iR1, y_iR2, y_iEn, y_iZp, y_lc, y_raise, y_un1, y_maxL, y_minL, y_swap, y_cmpO, y_call, Bool.true_eq_false, reduceCtorEq, decide_true, decide_false, ix2_0, ix2_1, ix3_0, ix3_1, ix3_2, LcRun, LpRun, wipeP, restP, noX, dite_true, List.nil_append, List.cons_append, Option.getD_some, Option.getD_none, y_repr, y_tupleL, y_tupleT, y_sum, y_all, y_any, y_eqD, y_neD, y_rev, y_dn, y_orT, y_notT, y_ins, y_bits, y_bAnd, y_bOr, y_rt0, y_rtR, y_nx0, y_rtX, y_nxX, y_exX, inV2, inV3, flatD, vOf, List.all_cons, List.all_nil, Bool.and_self, sz_iff, Nat.reduceAdd, Nat.reduceLeDiff, Nat.zero_add, y_dD, y_dB, y_dI, y_dL, y_dSl, y_dSt, y_dAll0, y_dAllS, dAll_map, y_I0, y_I, y_eqI, y_eqS, y_eqB, y_neI, y_neS, y_neB, y_neg, y_ixL, y_ixT, y_min, y_max, y_abs, y_lenL, y_lenT, y_lenS, y_lenB, y_truL, y_truT, y_inL, y_inT, y_ex1, y_exO, y_exR, at0, at1, at2, at3, isNon, List.getElem?_cons_succ, List.getElem?_cons_zero, List.set_cons_succ, List.set_cons_zero, List.length_cons, List.length_nil, List.map_cons, List.map_nil, true_and, and_true, decide_eq_true_eq, Bool.not_eq_true', Bool.not_true, Bool.not_false, if_true, if_false, Bool.false_eq_true, ite_true, ite_false])
    rw [t20]
    obtain ⟨far, hfar, f0, f1⟩ : ∃ far : Int, atI [PyData.int 20, .int 300, .int 100000000000000000000] v = some (.int far) ∧ 1 ≤ far ∧ far ≤ 100000000000000000000 := by
      rcases (show v = 0 ∨ v = 1 ∨ v = 2 by omega) with rfl | rfl | rfl
      · exact ⟨_, at0, by omega, by omega⟩
      · exact ⟨_, at1, by omega, by omega⟩
      · exact ⟨_, at2, by omega, by omega⟩
    refine ⟨_, hfar, hNX _ ?_⟩
    clear hNX NX
    refine y_cut fun NX hNX => ?_
    (try simp only [y_var, y_c, y_op, y_un, y_and, y_or, y_not, y_if, y_isN, y_notN, y_bOf, y_bTru, y_bNot, y_bYes, y_aNil, y_aCons, y_aStar, y_tup, y_disp, y_fz, y_cb, y_cat, y_of, y_sl, y_dO0, y_dO1, y_ixN, y_lenN, y_chain, y_call0, y_call, y_callR0, y_next, y_brk, y_cnt, y_asg, y_setO, y_gNm, y_gTp, y_gsNil, y_gsCons, y_subO, y_par, y_aug, y_expr, y_app, y_ext, y_ifS, y_ret, y_retN, y_for, y_while, y_iSeq, y_iTp, y_iR1, y_iR2, y_iEn, y_iZp, y_lc, y_raise, y_un1, y_maxL, y_minL, y_swap, y_cmpO, y_call, Bool.true_eq_false, reduceCtorEq, decide_true, decide_false, ix2_0, ix2_1, ix3_0, ix3_1, ix3_2, LcRun, LpRun, wipeP, restP, noX, dite_true, List.nil_append, List.cons_append, Option.getD_some, Option.getD_none, y_repr, y_tupleL, y_tupleT, y_sum, y_all, y_any, y_eqD, y_neD, y_rev, y_dn, y_orT, y_notT, y_ins, y_bits, y_bAnd, y_bOr, y_rt0, y_rtR, y_nx0, y_rtX, y_nxX, y_exX, inV2, inV3, flatD, vOf, List.all_cons, List.all_nil, Bool.and_self, sz_iff, Nat.reduceAdd, Nat.reduceLeDiff, Nat.zero_add, y_dD, y_dB, y_dI, y_dL, y_dSl, y_dSt, y_dAll0, y_dAllS, dAll_map, y_I0, y_I, y_eqI, y_eqS, y_eqB, y_neI, y_neS, y_neB, y_neg, y_ixL, y_ixT, y_min, y_max, y_abs, y_lenL, y_lenT, y_lenS, y_lenB, y_truL, y_truT, y_inL, y_inT, y_ex1, y_exO, y_exR, at0, at1, at2, at3, isNon, List.getElem?_cons_succ, List.getElem?_cons_zero, List.set_cons_succ, List.set_cons_zero, List.length_cons, List.length_nil, List.map_cons, List.map_nil, true_and, and_true, decide_eq_true_eq, Bool.not_eq_true', Bool.not_true, Bool.not_false, if_true, if_false, Bool.false_eq_true, ite_true, ite_false])
    refine ⟨3, rfl, by omega, by omega, by decide, fun e e0 e1 => ?_⟩
    (try simp only [y_var, y_c, y_op, y_un, y_and, y_or, y_not, y_if, y_isN, y_notN, y_bOf, y_bTru, y_bNot, y_bYes, y_aNil, y_aCons, y_aStar, y_tup, y_disp, y_fz, y_cb, y_cat, y_of, y_sl, y_dO0, y_dO1, y_ixN, y_lenN, y_chain, y_call0, y_call, y_callR0, y_next, y_brk, y_cnt, y_asg, y_setO, y_gNm, y_gTp, y_gsNil, y_gsCons, y_subO, y_par, y_aug, y_expr, y_app, y_ext, y_ifS, y_ret, y_retN, y_for, y_while, y_iSeq, y_iTp, y_iR1, y_iR2, y_iEn, y_iZp, y_lc, y_raise, y_un1, y_maxL, y_minL, y_swap, y_cmpO, y_call, Bool.true_eq_false, reduceCtorEq, decide_true, decide_false, ix2_0, ix2_1, ix3_0, ix3_1, ix3_2, LcRun, LpRun, wipeP, restP, noX, dite_true, List.nil_append, List.cons_append, Option.getD_some, Option.getD_none, y_repr, y_tupleL, y_tupleT, y_sum, y_all, y_any, y_eqD, y_neD, y_rev, y_dn, y_orT, y_notT, y_ins, y_bits, y_bAnd, y_bOr, y_rt0, y_rtR, y_nx0, y_rtX, y_nxX, y_exX, inV2, inV3, flatD, vOf, List.all_cons, List.all_nil, Bool.and_self, sz_iff, Nat.reduceAdd, Nat.reduceLeDiff, Nat.zero_add, y_dD, y_dB, y_dI, y_dL, y_dSl, y_dSt, y_dAll0, y_dAllS, dAll_map, y_I0, y_I, y_eqI, y_eqS, y_eqB, y_neI, y_neS, y_neB, y_neg, y_ixL, y_ixT, y_min, y_max, y_abs, y_lenL, y_lenT, y_lenS, y_lenB, y_truL, y_truT, y_inL, y_inT, y_ex1, y_exO, y_exR, at0, at1, at2, at3, isNon, List.getElem?_cons_succ, List.getElem?_cons_zero, List.set_cons_succ, List.set_cons_zero, List.length_cons, List.length_nil, List.map_cons, List.map_nil, true_and, and_true, decide_eq_true_eq, Bool.not_eq_true', Bool.not_true, Bool.not_false, if_true, if_false, Bool.false_eq_true, ite_true, ite_false])
    obtain ⟨bits, hbits, b0, b1⟩ : ∃ bits : Int, atI [PyData.int 4, .int 7, .int 40] e = some (.int bits) ∧ 1 ≤ bits ∧ bits ≤ 40 := by
      rcases (show e = 0 ∨ e = 1 ∨ e = 2 by omega) with rfl | rfl | rfl
      · exact ⟨_, at0, by omega, by omega⟩
      · exact ⟨_, at1, by omega, by omega⟩
      · exact ⟨_, at2, by omega, by omega⟩
    refine ⟨_, hbits, 10, bits, far, rfl, by omega, by omega, by omega, b0, by omega, f0, by omega, fun c0 hc0 => ?_⟩
    (try simp only [y_var, y_c, y_op, y_un, y_and, y_or, y_not, y_if, y_isN, y_notN, y_bOf, y_bTru, y_bNot, y_bYes, y_aNil, y_aCons, y_aStar, y_tup, y_disp, y_fz, y_cb, y_cat, y_of, y_sl, y_dO0, y_dO1, y_ixN, y_lenN, y_chain, y_call0, y_call, y_callR0, y_next, y_brk, y_cnt, y_asg, y_setO, y_gNm, y_gTp, y_gsNil, y_gsCons, y_subO, y_par, y_aug, y_expr, y_app, y_ext, y_ifS, y_ret, y_retN, y_for, y_while, y_iSeq, y_iTp, y_iR1, y_iR2, y_iEn, y_iZp, y_lc, y_raise, y_un1, y_maxL, y_minL, y_swap, y_cmpO, y_call, Bool.true_eq_false, reduceCtorEq, decide_true, decide_false, ix2_0, ix2_1, ix3_0, ix3_1, ix3_2, LcRun, LpRun, wipeP, restP, noX, dite_true, List.nil_append, List.cons_append, Option.getD_some, Option.getD_none, y_repr, y_tupleL, y_tupleT, y_sum, y_all, y_any, y_eqD, y_neD, y_rev, y_dn, y_orT, y_notT, y_ins, y_bits, y_bAnd, y_bOr, y_rt0, y_rtR, y_nx0, y_rtX, y_nxX, y_exX, inV2, inV3, flatD, vOf, List.all_cons, List.all_nil, Bool.and_self, sz_iff, Nat.reduceAdd, Nat.reduceLeDiff, Nat.zero_add, y_dD, y_dB, y_dI, y_dL, y_dSl, y_dSt, y_dAll0, y_dAllS, dAll_map, y_I0, y_I, y_eqI, y_eqS, y_eqB, y_neI, y_neS, y_neB, y_neg, y_ixL, y_ixT, y_min, y_max, y_abs, y_lenL, y_lenT, y_lenS, y_lenB, y_truL, y_truT, y_inL, y_inT, y_ex1, y_exO, y_exR, at0, at1, at2, at3, isNon, List.getElem?_cons_succ, List.getElem?_cons_zero, List.set_cons_succ, List.set_cons_zero, List.length_cons, List.length_nil, List.map_cons, List.map_nil, true_and, and_true, decide_eq_true_eq, Bool.not_eq_true', Bool.not_true, Bool.not_false, if_true, if_false, Bool.false_eq_true, ite_true, ite_false])
    have hc0 := chB_of hc0 (by omega)
    refine ⟨c0, 10, _, rfl, hc0, by omega, by omega, fun c k1 hc sc hk1 => hNX _ ?_⟩
    clear hNX NX
    refine y_cut fun NX hNX => ?_
    (try simp only [y_var, y_c, y_op, y_un, y_and, y_or, y_not, y_if, y_isN, y_notN, y_bOf, y_bTru, y_bNot, y_bYes, y_aNil, y_aCons, y_aStar, y_tup, y_disp, y_fz, y_cb, y_cat, y_of, y_sl, y_dO0, y_dO1, y_ixN, y_lenN, y_chain, y_call0, y_call, y_callR0, y_next, y_brk, y_cnt, y_asg, y_setO, y_gNm, y_gTp, y_gsNil, y_gsCons, y_subO, y_par, y_aug, y_expr, y_app, y_ext, y_ifS, y_ret, y_retN, y_for, y_while, y_iSeq, y_iTp, y_iR1, y_iR2, y_iEn, y_iZp, y_lc, y_raise, y_un1, y_maxL, y_minL, y_swap, y_cmpO, y_call, Bool.true_eq_false, reduceCtorEq, decide_true, decide_false, ix2_0, ix2_1, ix3_0, ix3_1, ix3_2, LcRun, LpRun, wipeP, restP, noX, dite_true, List.nil_append, List.cons_append, Option.getD_some, Option.getD_none, y_repr, y_tupleL, y_tupleT, y_sum, y_all, y_any, y_eqD, y_neD, y_rev, y_dn, y_orT, y_notT, y_ins, y_bits, y_bAnd, y_bOr, y_rt0, y_rtR, y_nx0, y_rtX, y_nxX, y_exX, inV2, inV3, flatD, vOf, List.all_cons, List.all_nil, Bool.and_self, sz_iff, Nat.reduceAdd, Nat.reduceLeDiff, Nat.zero_add, y_dD, y_dB, y_dI, y_dL, y_dSl, y_dSt, y_dAll0, y_dAllS, dAll_map, y_I0, y_I, y_eqI, y_eqS, y_eqB, y_neI, y_neS, y_neB, y_neg, y_ixL, y_ixT, y_min, y_max, y_abs, y_lenL, y_lenT, y_lenS, y_lenB, y_truL, y_truT, y_inL, y_inT, y_ex1, y_exO, y_exR, at0, at1, at2, at3, isNon, List.getElem?_cons_succ, List.getElem?_cons_zero, List.set_cons_succ, List.set_cons_zero, List.length_cons, List.length_nil, List.map_cons, List.map_nil, true_and, and_true, decide_eq_true_eq, Bool.not_eq_true', Bool.not_true, Bool.not_false, if_true, if_false, Bool.false_eq_true, ite_true, ite_false])
    refine ⟨c, 10, _, rfl, hc, by omega, by omega, by omega, fun o1 k2 ho1 same1 sm1 hk2 => ?_⟩
    (try simp only [y_var, y_c, y_op, y_un, y_and, y_or, y_not, y_if, y_isN, y_notN, y_bOf, y_bTru, y_bNot, y_bYes, y_aNil, y_aCons, y_aStar, y_tup, y_disp, y_fz, y_cb, y_cat, y_of, y_sl, y_dO0, y_dO1, y_ixN, y_lenN, y_chain, y_call0, y_call, y_callR0, y_next, y_brk, y_cnt, y_asg, y_setO, y_gNm, y_gTp, y_gsNil, y_gsCons, y_subO, y_par, y_aug, y_expr, y_app, y_ext, y_ifS, y_ret, y_retN, y_for, y_while, y_iSeq, y_iTp, y_iR1, y_iR2, y_iEn, y_iZp, y_lc, y_raise, y_un1, y_maxL, y_minL, y_swap, y_cmpO, y_call, Bool.true_eq_false, reduceCtorEq, decide_true, decide_false, ix2_0, ix2_1, ix3_0, ix3_1, ix3_2, LcRun, LpRun, wipeP, restP, noX, dite_true, List.nil_append, List.cons_append, Option.getD_some, Option.getD_none, y_repr, y_tupleL, y_tupleT, y_sum, y_all, y_any, y_eqD, y_neD, y_rev, y_dn, y_orT, y_notT, y_ins, y_bits, y_bAnd, y_bOr, y_rt0, y_rtR, y_nx0, y_rtX, y_nxX, y_exX, inV2, inV3, flatD, vOf, List.all_cons, List.all_nil, Bool.and_self, sz_iff, Nat.reduceAdd, Nat.reduceLeDiff, Nat.zero_add, y_dD, y_dB, y_dI, y_dL, y_dSl, y_dSt, y_dAll0, y_dAllS, dAll_map, y_I0, y_I, y_eqI, y_eqS, y_eqB, y_neI, y_neS, y_neB, y_neg, y_ixL, y_ixT, y_min, y_max, y_abs, y_lenL, y_lenT, y_lenS, y_lenB, y_truL, y_truT, y_inL, y_inT, y_ex1, y_exO, y_exR, at0, at1, at2, at3, isNon, List.getElem?_cons_succ, List.getElem?_cons_zero, List.set_cons_succ, List.set_cons_zero, List.length_cons, List.length_nil, List.map_cons, List.map_nil, true_and, and_true, decide_eq_true_eq, Bool.not_eq_true', Bool.not_true, Bool.not_false, if_true, if_false, Bool.false_eq_true, ite_true, ite_false])
    refine ⟨c, 10, _, rfl, hc, by omega, by omega, by omega, by omega, fun g1 k3 hg1 sg1 hk3 => ?_⟩
    (try simp only [y_var, y_c, y_op, y_un, y_and, y_or, y_not, y_if, y_isN, y_notN, y_bOf, y_bTru, y_bNot, y_bYes, y_aNil, y_aCons, y_aStar, y_tup, y_disp, y_fz, y_cb, y_cat, y_of, y_sl, y_dO0, y_dO1, y_ixN, y_lenN, y_chain, y_call0, y_call, y_callR0, y_next, y_brk, y_cnt, y_asg, y_setO, y_gNm, y_gTp, y_gsNil, y_gsCons, y_subO, y_par, y_aug, y_expr, y_app, y_ext, y_ifS, y_ret, y_retN, y_for, y_while, y_iSeq, y_iTp, y_iR1, y_iR2, y_iEn, y_iZp, y_lc, y_raise, y_un1, y_maxL, y_minL, y_swap, y_cmpO, y_call, Bool.true_eq_false, reduceCtorEq, decide_true, decide_false, ix2_0, ix2_1, ix3_0, ix3_1, ix3_2, LcRun, LpRun, wipeP, restP, noX, dite_true, List.nil_append, List.cons_append, Option.getD_some, Option.getD_none, y_repr, y_tupleL, y_tupleT, y_sum, y_all, y_any, y_eqD, y_neD, y_rev, y_dn, y_orT, y_notT, y_ins, y_bits, y_bAnd, y_bOr, y_rt0, y_rtR, y_nx0, y_rtX, y_nxX, y_exX, inV2, inV3, flatD, vOf, List.all_cons, List.all_nil, Bool.and_self, sz_iff, Nat.reduceAdd, Nat.reduceLeDiff, Nat.zero_add, y_dD, y_dB, y_dI, y_dL, y_dSl, y_dSt, y_dAll0, y_dAllS, dAll_map, y_I0, y_I, y_eqI, y_eqS, y_eqB, y_neI, y_neS, y_neB, y_neg, y_ixL, y_ixT, y_min, y_max, y_abs, y_lenL, y_lenT, y_lenS, y_lenB, y_truL, y_truT, y_inL, y_inT, y_ex1, y_exO, y_exR, at0, at1, at2, at3, isNon, List.getElem?_cons_succ, List.getElem?_cons_zero, List.set_cons_succ, List.set_cons_zero, List.length_cons, List.length_nil, List.map_cons, List.map_nil, true_and, and_true, decide_eq_true_eq, Bool.not_eq_true', Bool.not_true, Bool.not_false, if_true, if_false, Bool.false_eq_true, ite_true, ite_false])
    refine ⟨c, 10, _, rfl, hc, by omega, by omega, by omega, by omega, fun g2 k4 hg2 sg2 hk4 => ?_⟩
    (try simp only [y_var, y_c, y_op, y_un, y_and, y_or, y_not, y_if, y_isN, y_notN, y_bOf, y_bTru, y_bNot, y_bYes, y_aNil, y_aCons, y_aStar, y_tup, y_disp, y_fz, y_cb, y_cat, y_of, y_sl, y_dO0, y_dO1, y_ixN, y_lenN, y_chain, y_call0, y_call, y_callR0, y_next, y_brk, y_cnt, y_asg, y_setO, y_gNm, y_gTp, y_gsNil, y_gsCons, y_subO, y_par, y_aug, y_expr, y_app, y_ext, y_ifS, y_ret, y_retN, y_for, y_while, y_iSeq, y_iTp, y_iR1, y_iR2, y_iEn, y_iZp, y_lc, y_raise, y_un1, y_maxL, y_minL, y_swap, y_cmpO, y_call, Bool.true_eq_false, reduceCtorEq, decide_true, decide_false, ix2_0, ix2_1, ix3_0, ix3_1, ix3_2, LcRun, LpRun, wipeP, restP, noX, dite_true, List.nil_append, List.cons_append, Option.getD_some, Option.getD_none, y_repr, y_tupleL, y_tupleT, y_sum, y_all, y_any, y_eqD, y_neD, y_rev, y_dn, y_orT, y_notT, y_ins, y_bits, y_bAnd, y_bOr, y_rt0, y_rtR, y_nx0, y_rtX, y_nxX, y_exX, inV2, inV3, flatD, vOf, List.all_cons, List.all_nil, Bool.and_self, sz_iff, Nat.reduceAdd, Nat.reduceLeDiff, Nat.zero_add, y_dD, y_dB, y_dI, y_dL, y_dSl, y_dSt, y_dAll0, y_dAllS, dAll_map, y_I0, y_I, y_eqI, y_eqS, y_eqB, y_neI, y_neS, y_neB, y_neg, y_ixL, y_ixT, y_min, y_max, y_abs, y_lenL, y_lenT, y_lenS, y_lenB, y_truL, y_truT, y_inL, y_inT, y_ex1, y_exO, y_exR, at0, at1, at2, at3, isNon, List.getElem?_cons_succ, List.getElem?_cons_zero, List.set_cons_succ, List.set_cons_zero, List.length_cons, List.length_nil, List.map_cons, List.map_nil, true_and, and_true, decide_eq_true_eq, Bool.not_eq_true', Bool.not_true, Bool.not_false, if_true, if_false, Bool.false_eq_true, ite_true, ite_false])
    refine ⟨g2, 10, _, rfl, hg2, by omega, by omega, by omega, fun o2 k5 ho2 same2 sm2 hk5 => ?_⟩
    (try simp only [y_var, y_c, y_op, y_un, y_and, y_or, y_not, y_if, y_isN, y_notN, y_bOf, y_bTru, y_bNot, y_bYes, y_aNil, y_aCons, y_aStar, y_tup, y_disp, y_fz, y_cb, y_cat, y_of, y_sl, y_dO0, y_dO1, y_ixN, y_lenN, y_chain, y_call0, y_call, y_callR0, y_next, y_brk, y_cnt, y_asg, y_setO, y_gNm, y_gTp, y_gsNil, y_gsCons, y_subO, y_par, y_aug, y_expr, y_app, y_ext, y_ifS, y_ret, y_retN, y_for, y_while, y_iSeq, y_iTp, y_iR1, y_iR2, y_iEn, y_iZp, y_lc, y_raise, y_un1, y_maxL, y_minL, y_swap, y_cmpO, y_call, Bool.true_eq_false, reduceCtorEq, decide_true, decide_false, ix2_0, ix2_1, ix3_0, ix3_1, ix3_2, LcRun, LpRun, wipeP, restP, noX, dite_true, List.nil_append, List.cons_append, Option.getD_some, Option.getD_none, y_repr, y_tupleL, y_tupleT, y_sum, y_all, y_any, y_eqD, y_neD, y_rev, y_dn, y_orT, y_notT, y_ins, y_bits, y_bAnd, y_bOr, y_rt0, y_rtR, y_nx0, y_rtX, y_nxX, y_exX, inV2, inV3, flatD, vOf, List.all_cons, List.all_nil, Bool.and_self, sz_iff, Nat.reduceAdd, Nat.reduceLeDiff, Nat.zero_add, y_dD, y_dB, y_dI, y_dL, y_dSl, y_dSt, y_dAll0, y_dAllS, dAll_map, y_I0, y_I, y_eqI, y_eqS, y_eqB, y_neI, y_neS, y_neB, y_neg, y_ixL, y_ixT, y_min, y_max, y_abs, y_lenL, y_lenT, y_lenS, y_lenB, y_truL, y_truT, y_inL, y_inT, y_ex1, y_exO, y_exR, at0, at1, at2, at3, isNon, List.getElem?_cons_succ, List.getElem?_cons_zero, List.set_cons_succ, List.set_cons_zero, List.length_cons, List.length_nil, List.map_cons, List.map_nil, true_and, and_true, decide_eq_true_eq, Bool.not_eq_true', Bool.not_true, Bool.not_false, if_true, if_false, Bool.false_eq_true, ite_true, ite_false])
    refine hNX _ ?_
    clear hNX NX
    refine y_cut fun NX hNX => ?_
    (try simp only [y_var, y_c, y_op, y_un, y_and, y_or, y_not, y_if, y_isN, y_notN, y_bOf, y_bTru, y_bNot, y_bYes, y_aNil, y_aCons, y_aStar, y_tup, y_disp, y_fz, y_cb, y_cat, y_of, y_sl, y_dO0, y_dO1, y_ixN, y_lenN, y_chain, y_call0, y_call, y_callR0, y_next, y_brk, y_cnt, y_asg, y_setO, y_gNm, y_gTp, y_gsNil, y_gsCons, y_subO, y_par, y_aug, y_expr, y_app, y_ext, y_ifS, y_ret, y_retN, y_for, y_while, y_iSeq, y_iTp, y_iR1, y_iR2, y_iEn, y_iZp, y_lc, y_raise, y_un1, y_maxL, y_minL, y_swap, y_cmpO, y_call, Bool.true_eq_false, reduceCtorEq, decide_true, decide_false, ix2_0, ix2_1, ix3_0, ix3_1, ix3_2, LcRun, LpRun, wipeP, restP, noX, dite_true, List.nil_append, List.cons_append, Option.getD_some, Option.getD_none, y_repr, y_tupleL, y_tupleT, y_sum, y_all, y_any, y_eqD, y_neD, y_rev, y_dn, y_orT, y_notT, y_ins, y_bits, y_bAnd, y_bOr, y_rt0, y_rtR, y_nx0, y_rtX, y_nxX, y_exX, inV2, inV3, flatD, vOf, List.all_cons, List.all_nil, Bool.and_self, sz_iff, Nat.reduceAdd, Nat.reduceLeDiff, Nat.zero_add, y_dD, y_dB, y_dI, y_dL, y_dSl, y_dSt, y_dAll0, y_dAllS, dAll_map, y_I0, y_I, y_eqI, y_eqS, y_eqB, y_neI, y_neS, y_neB, y_neg, y_ixL, y_ixT, y_min, y_max, y_abs, y_lenL, y_lenT, y_lenS, y_lenB, y_truL, y_truT, y_inL, y_inT, y_ex1, y_exO, y_exR, at0, at1, at2, at3, isNon, List.getElem?_cons_succ, List.getElem?_cons_zero, List.set_cons_succ, List.set_cons_zero, List.length_cons, List.length_nil, List.map_cons, List.map_nil, true_and, and_true, decide_eq_true_eq, Bool.not_eq_true', Bool.not_true, Bool.not_false, if_true, if_false, Bool.false_eq_true, ite_true, ite_false])
    refine ⟨4, 6, 20, rfl, by omega, by omega, by omega, by omega, by omega, by omega, by omega, fun c4 hc4 => ?_⟩
    (try simp only [y_var, y_c, y_op, y_un, y_and, y_or, y_not, y_if, y_isN, y_notN, y_bOf, y_bTru, y_bNot, y_bYes, y_aNil, y_aCons, y_aStar, y_tup, y_disp, y_fz, y_cb, y_cat, y_of, y_sl, y_dO0, y_dO1, y_ixN, y_lenN, y_chain, y_call0, y_call, y_callR0, y_next, y_brk, y_cnt, y_asg, y_setO, y_gNm, y_gTp, y_gsNil, y_gsCons, y_subO, y_par, y_aug, y_expr, y_app, y_ext, y_ifS, y_ret, y_retN, y_for, y_while, y_iSeq, y_iTp, y_iR1, y_iR2, y_iEn, y_iZp, y_lc, y_raise, y_un1, y_maxL, y_minL, y_swap, y_cmpO, y_call, Bool.true_eq_false, reduceCtorEq, decide_true, decide_false, ix2_0, ix2_1, ix3_0, ix3_1, ix3_2, LcRun, LpRun, wipeP, restP, noX, dite_true, List.nil_append, List.cons_append, Option.getD_some, Option.getD_none, y_repr, y_tupleL, y_tupleT, y_sum, y_all, y_any, y_eqD, y_neD, y_rev, y_dn, y_orT, y_notT, y_ins, y_bits, y_bAnd, y_bOr, y_rt0, y_rtR, y_nx0, y_rtX, y_nxX, y_exX, inV2, inV3, flatD, vOf, List.all_cons, List.all_nil, Bool.and_self, sz_iff, Nat.reduceAdd, Nat.reduceLeDiff, Nat.zero_add, y_dD, y_dB, y_dI, y_dL, y_dSl, y_dSt, y_dAll0, y_dAllS, dAll_map, y_I0, y_I, y_eqI, y_eqS, y_eqB, y_neI, y_neS, y_neB, y_neg, y_ixL, y_ixT, y_min, y_max, y_abs, y_lenL, y_lenT, y_lenS, y_lenB, y_truL, y_truT, y_inL, y_inT, y_ex1, y_exO, y_exR, at0, at1, at2, at3, isNon, List.getElem?_cons_succ, List.getElem?_cons_zero, List.set_cons_succ, List.set_cons_zero, List.length_cons, List.length_nil, List.map_cons, List.map_nil, true_and, and_true, decide_eq_true_eq, Bool.not_eq_true', Bool.not_true, Bool.not_false, if_true, if_false, Bool.false_eq_true, ite_true, ite_false])
    have hc4 := chB_of hc4 (by omega)
    refine ⟨c4, 4, _, rfl, hc4, by omega, by omega, fun d4 k6 hd4 sd4 hk6 => ?_⟩
    (try simp only [y_var, y_c, y_op, y_un, y_and, y_or, y_not, y_if, y_isN, y_notN, y_bOf, y_bTru, y_bNot, y_bYes, y_aNil, y_aCons, y_aStar, y_tup, y_disp, y_fz, y_cb, y_cat, y_of, y_sl, y_dO0, y_dO1, y_ixN, y_lenN, y_chain, y_call0, y_call, y_callR0, y_next, y_brk, y_cnt, y_asg, y_setO, y_gNm, y_gTp, y_gsNil, y_gsCons, y_subO, y_par, y_aug, y_expr, y_app, y_ext, y_ifS, y_ret, y_retN, y_for, y_while, y_iSeq, y_iTp, y_iR1, y_iR2, y_iEn, y_iZp, y_lc, y_raise, y_un1, y_maxL, y_minL, y_swap, y_cmpO, y_call, Bool.true_eq_false, reduceCtorEq, decide_true, decide_false, ix2_0, ix2_1, ix3_0, ix3_1, ix3_2, LcRun, LpRun, wipeP, restP, noX, dite_true, List.nil_append, List.cons_append, Option.getD_some, Option.getD_none, y_repr, y_tupleL, y_tupleT, y_sum, y_all, y_any, y_eqD, y_neD, y_rev, y_dn, y_orT, y_notT, y_ins, y_bits, y_bAnd, y_bOr, y_rt0, y_rtR, y_nx0, y_rtX, y_nxX, y_exX, inV2, inV3, flatD, vOf, List.all_cons, List.all_nil, Bool.and_self, sz_iff, Nat.reduceAdd, Nat.reduceLeDiff, Nat.zero_add, y_dD, y_dB, y_dI, y_dL, y_dSl, y_dSt, y_dAll0, y_dAllS, dAll_map, y_I0, y_I, y_eqI, y_eqS, y_eqB, y_neI, y_neS, y_neB, y_neg, y_ixL, y_ixT, y_min, y_max, y_abs, y_lenL, y_lenT, y_lenS, y_lenB, y_truL, y_truT, y_inL, y_inT, y_ex1, y_exO, y_exR, at0, at1, at2, at3, isNon, List.getElem?_cons_succ, List.getElem?_cons_zero, List.set_cons_succ, List.set_cons_zero, List.length_cons, List.length_nil, List.map_cons, List.map_nil, true_and, and_true, decide_eq_true_eq, Bool.not_eq_true', Bool.not_true, Bool.not_false, if_true, if_false, Bool.false_eq_true, ite_true, ite_false])
    refine hNX _ ?_
    clear hNX NX
    generalize hBB : (3 : Int) * 10 ^ 30 = BB
    have up : ∀ {k : Nat} {B : Int} {c : Ch}, chB k B c → k ≤ 12 → B ≤ BB → chB 12 BB c := fun h h1 h2 => h.up h1 h2
    have uc := up hc (by omega) (by omega)
    have sc7 : smC 7 c := by
      rcases sc with h | ⟨s, hs, h1, h2⟩
      · exact .inl h
      · exact .inr ⟨s, hs, h1, by omega⟩
    have all : ∀ d ∈ [o1, g1, o2, d4], chB 12 BB d ∧ smC 7 d := fun d hd => by
      rcases List.mem_cons.mp hd with rfl | hd
      · exact ⟨up ho1 (by omega) (by omega), sm1 7 sc7⟩
      rcases List.mem_cons.mp hd with rfl | hd
      · exact ⟨up hg1 (by omega) (by omega), sg1 sc⟩
      rcases List.mem_cons.mp hd with rfl | hd
      · exact ⟨up ho2 (by omega) (by omega), sm2 7 (sg2 sc)⟩
      rw [List.mem_singleton.mp hd]
      refine ⟨up hd4 (by omega) (by omega), ?_⟩
      rcases sd4 with h | ⟨s, hs, h1, h2⟩
      · exact .inl h
      · exact .inr ⟨s, hs, h1, by omega⟩
    refine y_cut fun NX hNX => ?_
    (try simp only [y_var, y_c, y_op, y_un, y_and, y_or, y_not, y_if, y_isN, y_notN, y_bOf, y_bTru, y_bNot, y_bYes, y_aNil, y_aCons, y_aStar, y_tup, y_disp, y_fz, y_cb, y_cat, y_of, y_sl, y_dO0, y_dO1, y_ixN, y_lenN, y_chain, y_call0, y_call, y_callR0, y_next, y_brk, y_cnt, y_asg, y_setO, y_gNm, y_gTp, y_gsNil, y_gsCons, y_subO, y_par, y_aug, y_expr, y_app, y_ext, y_ifS, y_ret, y_retN, y_for, y_while, y_iSeq, y_iTp, y_iR1, y_iR2, y_iEn, y_iZp, y_lc, y_raise, y_un1, y_maxL, y_minL, y_swap, y_cmpO, y_call, Bool.true_eq_false, reduceCtorEq, decide_true, decide_false, ix2_0, ix2_1, ix3_0, ix3_1, ix3_2, LcRun, LpRun, wipeP, restP, noX, dite_true, List.nil_append, List.cons_append, Option.getD_some, Option.getD_none, y_repr, y_tupleL, y_tupleT, y_sum, y_all, y_any, y_eqD, y_neD, y_rev, y_dn, y_orT, y_notT, y_ins, y_bits, y_bAnd, y_bOr, y_rt0, y_rtR, y_nx0, y_rtX, y_nxX, y_exX, inV2, inV3, flatD, vOf, List.all_cons, List.all_nil, Bool.and_self, sz_iff, Nat.reduceAdd, Nat.reduceLeDiff, Nat.zero_add, y_dD, y_dB, y_dI, y_dL, y_dSl, y_dSt, y_dAll0, y_dAllS, dAll_map, y_I0, y_I, y_eqI, y_eqS, y_eqB, y_neI, y_neS, y_neB, y_neg, y_ixL, y_ixT, y_min, y_max, y_abs, y_lenL, y_lenT, y_lenS, y_lenB, y_truL, y_truT, y_inL, y_inT, y_ex1, y_exO, y_exR, at0, at1, at2, at3, isNon, List.getElem?_cons_succ, List.getElem?_cons_zero, List.set_cons_succ, List.set_cons_zero, List.length_cons, List.length_nil, List.map_cons, List.map_nil, true_and, and_true, decide_eq_true_eq, Bool.not_eq_true', Bool.not_true, Bool.not_false, if_true, if_false, Bool.false_eq_true, ite_true, ite_false])
    have same_all : ∀ d ∈ [o1, g1, o2, d4], bndC d ∧ firstBad d = none := fun d hd => (all d hd).1.bnd (by omega)
    obtain ⟨bc, fc⟩ := uc.bnd (by omega)
    refine loop (fun i ρ => ∃ y4 y5 y6 y7 y8, ρ = [.rng k6, .a (.d (.int far)), .a (.d (chD c)), .a (.d (.list [chD o1, chD g1, chD o2, chD d4])), y4, y5, y6, y7, y8]) ⟨_, _, _, _, _, rfl⟩ (fun i x ρ hx h => ?_) (fun ρ h => ?_)
    · obtain ⟨y4, y5, y6, y7, y8, rfl⟩ := h
      obtain ⟨o, ho, ex⟩ : ∃ o, [o1, g1, o2, d4][i]? = some o ∧ x = .d (.tuple [.int (i : Nat), chD o]) := by
        have hi := (List.getElem?_eq_some_iff.mp hx).1
        rw [enA_len] at hi
        have hi : i < 4 := hi
        obtain ⟨o, ho⟩ : ∃ o, [o1, g1, o2, d4][i]? = some o := ⟨_, List.getElem?_eq_getElem hi⟩
        have : ([o1, g1, o2, d4].map chD)[i]? = some (chD o) := by rw [List.getElem?_map, ho]; rfl
        have := enA_get this
        rw [show (enA ([o1, g1, o2, d4].map chD)) = enA [chD o1, chD g1, chD o2, chD d4] from rfl, hx] at this
        exact ⟨o, ho, Option.some.inj this⟩
      subst ex
      have hmem := List.mem_of_getElem? ho
      obtain ⟨uo, so⟩ := all o hmem
      obtain ⟨bo, fo⟩ := same_all o hmem
      have rk := rok2 (show BB ≤ 10 ^ 40 by omega) (by omega) uc uo
      have go : ∀ b : Bool, (b = true ↔ ∀ y, convI y c = convI y o) → ∀ w : Bool, (w = true ↔ ∀ y, convI y o = convI y c) → w = b := fun b hb w hw => by
        rw [Bool.eq_iff_iff, hb, hw]
        exact ⟨fun h y => (h y).symm, fun h y => (h y).symm⟩
      (try simp only [y_var, y_c, y_op, y_un, y_and, y_or, y_not, y_if, y_isN, y_notN, y_bOf, y_bTru, y_bNot, y_bYes, y_aNil, y_aCons, y_aStar, y_tup, y_disp, y_fz, y_cb, y_cat, y_of, y_sl, y_dO0, y_dO1, y_ixN, y_lenN, y_chain, y_call0, y_call, y_callR0, y_next, y_brk, y_cnt, y_asg, y_setO, y_gNm, y_gTp, y_gsNil, y_gsCons, y_subO, y_par, y_aug, y_expr, y_app, y_ext, y_ifS, y_ret, y_retN, y_for, y_while, y_iSeq, y_iTp, y_iR1, y_iR2, y_iEn, y_iZp, y_lc, y_raise, y_un1, y_maxL, y_minL, y_swap, y_cmpO, y_call, Bool.true_eq_false, reduceCtorEq, decide_true, decide_false, ix2_0, ix2_1, ix3_0, ix3_1, ix3_2, LcRun, LpRun, wipeP, restP, noX, dite_true, List.nil_append, List.cons_append, Option.getD_some, Option.getD_none, y_repr, y_tupleL, y_tupleT, y_sum, y_all, y_any, y_eqD, y_neD, y_rev, y_dn, y_orT, y_notT, y_ins, y_bits, y_bAnd, y_bOr, y_rt0, y_rtR, y_nx0, y_rtX, y_nxX, y_exX, inV2, inV3, flatD, vOf, List.all_cons, List.all_nil, Bool.and_self, sz_iff, Nat.reduceAdd, Nat.reduceLeDiff, Nat.zero_add, y_dD, y_dB, y_dI, y_dL, y_dSl, y_dSt, y_dAll0, y_dAllS, dAll_map, y_I0, y_I, y_eqI, y_eqS, y_eqB, y_neI, y_neS, y_neB, y_neg, y_ixL, y_ixT, y_min, y_max, y_abs, y_lenL, y_lenT, y_lenS, y_lenB, y_truL, y_truT, y_inL, y_inT, y_ex1, y_exO, y_exR, at0, at1, at2, at3, isNon, List.getElem?_cons_succ, List.getElem?_cons_zero, List.set_cons_succ, List.set_cons_zero, List.length_cons, List.length_nil, List.map_cons, List.map_nil, true_and, and_true, decide_eq_true_eq, Bool.not_eq_true', Bool.not_true, Bool.not_false, if_true, if_false, Bool.false_eq_true, ite_true, ite_false])
      refine y_cut fun NX hNX => ?_
      (try simp only [y_var, y_c, y_op, y_un, y_and, y_or, y_not, y_if, y_isN, y_notN, y_bOf, y_bTru, y_bNot, y_bYes, y_aNil, y_aCons, y_aStar, y_tup, y_disp, y_fz, y_cb, y_cat, y_of, y_sl, y_dO0, y_dO1, y_ixN, y_lenN, y_chain, y_call0, y_call, y_callR0, y_next, y_brk, y_cnt, y_asg, y_setO, y_gNm, y_gTp, y_gsNil, y_gsCons, y_subO, y_par, y_aug, y_expr, y_app, y_ext, y_ifS, y_ret, y_retN, y_for, y_while, y_iSeq, y_iTp, y_iR1, y_iR2, y_iEn, y_iZp, y_lc, y_raise, y_un1, y_maxL, y_minL, y_swap, y_cmpO, y_call, Bool.true_eq_false, reduceCtorEq, decide_true, decide_false, ix2_0, ix2_1, ix3_0, ix3_1, ix3_2, LcRun, LpRun, wipeP, restP, noX, dite_true, List.nil_append, List.cons_append, Option.getD_some, Option.getD_none, y_repr, y_tupleL, y_tupleT, y_sum, y_all, y_any, y_eqD, y_neD, y_rev, y_dn, y_orT, y_notT, y_ins, y_bits, y_bAnd, y_bOr, y_rt0, y_rtR, y_nx0, y_rtX, y_nxX, y_exX, inV2, inV3, flatD, vOf, List.all_cons, List.all_nil, Bool.and_self, sz_iff, Nat.reduceAdd, Nat.reduceLeDiff, Nat.zero_add, y_dD, y_dB, y_dI, y_dL, y_dSl, y_dSt, y_dAll0, y_dAllS, dAll_map, y_I0, y_I, y_eqI, y_eqS, y_eqB, y_neI, y_neS, y_neB, y_neg, y_ixL, y_ixT, y_min, y_max, y_abs, y_lenL, y_lenT, y_lenS, y_lenB, y_truL, y_truT, y_inL, y_inT, y_ex1, y_exO, y_exR, at0, at1, at2, at3, isNon, List.getElem?_cons_succ, List.getElem?_cons_zero, List.set_cons_succ, List.set_cons_zero, List.length_cons, List.length_nil, List.map_cons, List.map_nil, true_and, and_true, decide_eq_true_eq, Bool.not_eq_true', Bool.not_true, Bool.not_false, if_true, if_false, Bool.false_eq_true, ite_true, ite_false])
      have main : ∀ b : Bool, (b = true ↔ ∀ y, convI y c = convI y o) → NX [.rng k6, .a (.d (.int far)), .a (.d (chD c)), .a (.d (.list [chD o1, chD g1, chD o2, chD d4])), .a (.d (.int (i : Nat))), .a (.d (chD o)), .a (.d (.str (PyData.list [chD c, chD o]).shown)), .a (.d (.bool b)), y8] := fun b hb => by
        refine hNX _ ?_
        clear hNX NX
        refine y_cut fun NX hNX => ?_
        (try simp only [y_var, y_c, y_op, y_un, y_and, y_or, y_not, y_if, y_isN, y_notN, y_bOf, y_bTru, y_bNot, y_bYes, y_aNil, y_aCons, y_aStar, y_tup, y_disp, y_fz, y_cb, y_cat, y_of, y_sl, y_dO0, y_dO1, y_ixN, y_lenN, y_chain, y_call0, y_call, y_callR0, y_next, y_brk, y_cnt, y_asg, y_setO, y_gNm, y_gTp, y_gsNil, y_gsCons, y_subO, y_par, y_aug, y_expr, y_app, y_ext, y_ifS, y_ret, y_retN, y_for, y_while, y_iSeq, y_iTp, y_iR1, y_iR2, y_iEn, y_iZp, y_lc, y_raise, y_un1, y_maxL, y_minL, y_swap, y_cmpO, y_call, Bool.true_eq_false, reduceCtorEq, decide_true, decide_false, ix2_0, ix2_1, ix3_0, ix3_1, ix3_2, LcRun, LpRun, wipeP, restP, noX, dite_true, List.nil_append, List.cons_append, Option.getD_some, Option.getD_none, y_repr, y_tupleL, y_tupleT, y_sum, y_all, y_any, y_eqD, y_neD, y_rev, y_dn, y_orT, y_notT, y_ins, y_bits, y_bAnd, y_bOr, y_rt0, y_rtR, y_nx0, y_rtX, y_nxX, y_exX, inV2, inV3, flatD, vOf, List.all_cons, List.all_nil, Bool.and_self, sz_iff, Nat.reduceAdd, Nat.reduceLeDiff, Nat.zero_add, y_dD, y_dB, y_dI, y_dL, y_dSl, y_dSt, y_dAll0, y_dAllS, dAll_map, y_I0, y_I, y_eqI, y_eqS, y_eqB, y_neI, y_neS, y_neB, y_neg, y_ixL, y_ixT, y_min, y_max, y_abs, y_lenL, y_lenT, y_lenS, y_lenB, y_truL, y_truT, y_inL, y_inT, y_ex1, y_exO, y_exR, at0, at1, at2, at3, isNon, List.getElem?_cons_succ, List.getElem?_cons_zero, List.set_cons_succ, List.set_cons_zero, List.length_cons, List.length_nil, List.map_cons, List.map_nil, true_and, and_true, decide_eq_true_eq, Bool.not_eq_true', Bool.not_true, Bool.not_false, if_true, if_false, Bool.false_eq_true, ite_true, ite_false])
        refine ⟨c, o, rfl, bc, bo, fc, fo, fun b1 hb1 => ?_⟩
        (try simp only [y_var, y_c, y_op, y_un, y_and, y_or, y_not, y_if, y_isN, y_notN, y_bOf, y_bTru, y_bNot, y_bYes, y_aNil, y_aCons, y_aStar, y_tup, y_disp, y_fz, y_cb, y_cat, y_of, y_sl, y_dO0, y_dO1, y_ixN, y_lenN, y_chain, y_call0, y_call, y_callR0, y_next, y_brk, y_cnt, y_asg, y_setO, y_gNm, y_gTp, y_gsNil, y_gsCons, y_subO, y_par, y_aug, y_expr, y_app, y_ext, y_ifS, y_ret, y_retN, y_for, y_while, y_iSeq, y_iTp, y_iR1, y_iR2, y_iEn, y_iZp, y_lc, y_raise, y_un1, y_maxL, y_minL, y_swap, y_cmpO, y_call, Bool.true_eq_false, reduceCtorEq, decide_true, decide_false, ix2_0, ix2_1, ix3_0, ix3_1, ix3_2, LcRun, LpRun, wipeP, restP, noX, dite_true, List.nil_append, List.cons_append, Option.getD_some, Option.getD_none, y_repr, y_tupleL, y_tupleT, y_sum, y_all, y_any, y_eqD, y_neD, y_rev, y_dn, y_orT, y_notT, y_ins, y_bits, y_bAnd, y_bOr, y_rt0, y_rtR, y_nx0, y_rtX, y_nxX, y_exX, inV2, inV3, flatD, vOf, List.all_cons, List.all_nil, Bool.and_self, sz_iff, Nat.reduceAdd, Nat.reduceLeDiff, Nat.zero_add, y_dD, y_dB, y_dI, y_dL, y_dSl, y_dSt, y_dAll0, y_dAllS, dAll_map, y_I0, y_I, y_eqI, y_eqS, y_eqB, y_neI, y_neS, y_neB, y_neg, y_ixL, y_ixT, y_min, y_max, y_abs, y_lenL, y_lenT, y_lenS, y_lenB, y_truL, y_truT, y_inL, y_inT, y_ex1, y_exO, y_exR, at0, at1, at2, at3, isNon, List.getElem?_cons_succ, List.getElem?_cons_zero, List.set_cons_succ, List.set_cons_zero, List.length_cons, List.length_nil, List.map_cons, List.map_nil, true_and, and_true, decide_eq_true_eq, Bool.not_eq_true', Bool.not_true, Bool.not_false, if_true, if_false, Bool.false_eq_true, ite_true, ite_false])
        refine ⟨o, c, rfl, bo, bc, fo, fc, fun b2 hb2 => ?_⟩
        (try simp only [y_var, y_c, y_op, y_un, y_and, y_or, y_not, y_if, y_isN, y_notN, y_bOf, y_bTru, y_bNot, y_bYes, y_aNil, y_aCons, y_aStar, y_tup, y_disp, y_fz, y_cb, y_cat, y_of, y_sl, y_dO0, y_dO1, y_ixN, y_lenN, y_chain, y_call0, y_call, y_callR0, y_next, y_brk, y_cnt, y_asg, y_setO, y_gNm, y_gTp, y_gsNil, y_gsCons, y_subO, y_par, y_aug, y_expr, y_app, y_ext, y_ifS, y_ret, y_retN, y_for, y_while, y_iSeq, y_iTp, y_iR1, y_iR2, y_iEn, y_iZp, y_lc, y_raise, y_un1, y_maxL, y_minL, y_swap, y_cmpO, y_call, Bool.true_eq_false, reduceCtorEq, decide_true, decide_false, ix2_0, ix2_1, ix3_0, ix3_1, ix3_2, LcRun, LpRun, wipeP, restP, noX, dite_true, List.nil_append, List.cons_append, Option.getD_some, Option.getD_none, y_repr, y_tupleL, y_tupleT, y_sum, y_all, y_any, y_eqD, y_neD, y_rev, y_dn, y_orT, y_notT, y_ins, y_bits, y_bAnd, y_bOr, y_rt0, y_rtR, y_nx0, y_rtX, y_nxX, y_exX, inV2, inV3, flatD, vOf, List.all_cons, List.all_nil, Bool.and_self, sz_iff, Nat.reduceAdd, Nat.reduceLeDiff, Nat.zero_add, y_dD, y_dB, y_dI, y_dL, y_dSl, y_dSt, y_dAll0, y_dAllS, dAll_map, y_I0, y_I, y_eqI, y_eqS, y_eqB, y_neI, y_neS, y_neB, y_neg, y_ixL, y_ixT, y_min, y_max, y_abs, y_lenL, y_lenT, y_lenS, y_lenB, y_truL, y_truT, y_inL, y_inT, y_ex1, y_exO, y_exR, at0, at1, at2, at3, isNon, List.getElem?_cons_succ, List.getElem?_cons_zero, List.set_cons_succ, List.set_cons_zero, List.length_cons, List.length_nil, List.map_cons, List.map_nil, true_and, and_true, decide_eq_true_eq, Bool.not_eq_true', Bool.not_true, Bool.not_false, if_true, if_false, Bool.false_eq_true, ite_true, ite_false])
        have e1 : b1 = b := by rw [Bool.eq_iff_iff, hb1, hb]
        have e2 := go b hb b2 hb2
        subst e1 e2
        refine hNX _ ?_
        clear hNX NX
        have rb := rokB b2 b2
        refine y_ifF (fun RB hRB => ?_) (show sNext _ _ from ⟨_, _, _, _, _, rfl⟩)
        refine y_orF (fun R1 h1 => ?_) (y_orF (fun R2 h2 => ?_) ?_)
        · (try simp only [y_var, y_c, y_op, y_un, y_and, y_or, y_not, y_if, y_isN, y_notN, y_bOf, y_bTru, y_bNot, y_bYes, y_aNil, y_aCons, y_aStar, y_tup, y_disp, y_fz, y_cb, y_cat, y_of, y_sl, y_dO0, y_dO1, y_ixN, y_lenN, y_chain, y_call0, y_call, y_callR0, y_next, y_brk, y_cnt, y_asg, y_setO, y_gNm, y_gTp, y_gsNil, y_gsCons, y_subO, y_par, y_aug, y_expr, y_app, y_ext, y_ifS, y_ret, y_retN, y_for, y_while, y_iSeq, y_iTp, y_iR1, y_iR2, y_iEn, y_iZp, y_lc, y_raise, y_un1, y_maxL, y_minL, y_swap, y_cmpO, y_call, Bool.true_eq_false, reduceCtorEq, decide_true, decide_false, ix2_0, ix2_1, ix3_0, ix3_1, ix3_2, LcRun, LpRun, wipeP, restP, noX, dite_true, List.nil_append, List.cons_append, Option.getD_some, Option.getD_none, y_repr, y_tupleL, y_tupleT, y_sum, y_all, y_any, y_eqD, y_neD, y_rev, y_dn, y_orT, y_notT, y_ins, y_bits, y_bAnd, y_bOr, y_rt0, y_rtR, y_nx0, y_rtX, y_nxX, y_exX, inV2, inV3, flatD, vOf, List.all_cons, List.all_nil, Bool.and_self, sz_iff, Nat.reduceAdd, Nat.reduceLeDiff, Nat.zero_add, y_dD, y_dB, y_dI, y_dL, y_dSl, y_dSt, y_dAll0, y_dAllS, dAll_map, y_I0, y_I, y_eqI, y_eqS, y_eqB, y_neI, y_neS, y_neB, y_neg, y_ixL, y_ixT, y_min, y_max, y_abs, y_lenL, y_lenT, y_lenS, y_lenB, y_truL, y_truT, y_inL, y_inT, y_ex1, y_exO, y_exR, at0, at1, at2, at3, isNon, List.getElem?_cons_succ, List.getElem?_cons_zero, List.set_cons_succ, List.set_cons_zero, List.length_cons, List.length_nil, List.map_cons, List.map_nil, true_and, and_true, decide_eq_true_eq, Bool.not_eq_true', Bool.not_true, Bool.not_false, if_true, if_false, Bool.false_eq_true, ite_true, ite_false])
          refine ⟨rb.1, rb.2.1, rb.2.2, ?_⟩
          (try simp only [y_var, y_c, y_op, y_un, y_and, y_or, y_not, y_if, y_isN, y_notN, y_bOf, y_bTru, y_bNot, y_bYes, y_aNil, y_aCons, y_aStar, y_tup, y_disp, y_fz, y_cb, y_cat, y_of, y_sl, y_dO0, y_dO1, y_ixN, y_lenN, y_chain, y_call0, y_call, y_callR0, y_next, y_brk, y_cnt, y_asg, y_setO, y_gNm, y_gTp, y_gsNil, y_gsCons, y_subO, y_par, y_aug, y_expr, y_app, y_ext, y_ifS, y_ret, y_retN, y_for, y_while, y_iSeq, y_iTp, y_iR1, y_iR2, y_iEn, y_iZp, y_lc, y_raise, y_un1, y_maxL, y_minL, y_swap, y_cmpO, y_call, Bool.true_eq_false, reduceCtorEq, decide_true, decide_false, ix2_0, ix2_1, ix3_0, ix3_1, ix3_2, LcRun, LpRun, wipeP, restP, noX, dite_true, List.nil_append, List.cons_append, Option.getD_some, Option.getD_none, y_repr, y_tupleL, y_tupleT, y_sum, y_all, y_any, y_eqD, y_neD, y_rev, y_dn, y_orT, y_notT, y_ins, y_bits, y_bAnd, y_bOr, y_rt0, y_rtR, y_nx0, y_rtX, y_nxX, y_exX, inV2, inV3, flatD, vOf, List.all_cons, List.all_nil, Bool.and_self, sz_iff, Nat.reduceAdd, Nat.reduceLeDiff, Nat.zero_add, y_dD, y_dB, y_dI, y_dL, y_dSl, y_dSt, y_dAll0, y_dAllS, dAll_map, y_I0, y_I, y_eqI, y_eqS, y_eqB, y_neI, y_neS, y_neB, y_neg, y_ixL, y_ixT, y_min, y_max, y_abs, y_lenL, y_lenT, y_lenS, y_lenB, y_truL, y_truT, y_inL, y_inT, y_ex1, y_exO, y_exR, at0, at1, at2, at3, isNon, List.getElem?_cons_succ, List.getElem?_cons_zero, List.set_cons_succ, List.set_cons_zero, List.length_cons, List.length_nil, List.map_cons, List.map_nil, true_and, and_true, decide_eq_true_eq, Bool.not_eq_true', Bool.not_true, Bool.not_false, if_true, if_false, Bool.false_eq_true, ite_true, ite_false])
          exact ⟨rb.1, rb.2.1, rb.2.2, h1⟩
        · (try simp only [y_var, y_c, y_op, y_un, y_and, y_or, y_not, y_if, y_isN, y_notN, y_bOf, y_bTru, y_bNot, y_bYes, y_aNil, y_aCons, y_aStar, y_tup, y_disp, y_fz, y_cb, y_cat, y_of, y_sl, y_dO0, y_dO1, y_ixN, y_lenN, y_chain, y_call0, y_call, y_callR0, y_next, y_brk, y_cnt, y_asg, y_setO, y_gNm, y_gTp, y_gsNil, y_gsCons, y_subO, y_par, y_aug, y_expr, y_app, y_ext, y_ifS, y_ret, y_retN, y_for, y_while, y_iSeq, y_iTp, y_iR1, y_iR2, y_iEn, y_iZp, y_lc, y_raise, y_un1, y_maxL, y_minL, y_swap, y_cmpO, y_call, Bool.true_eq_false, reduceCtorEq, decide_true, decide_false, ix2_0, ix2_1, ix3_0, ix3_1, ix3_2, LcRun, LpRun, wipeP, restP, noX, dite_true, List.nil_append, List.cons_append, Option.getD_some, Option.getD_none, y_repr, y_tupleL, y_tupleT, y_sum, y_all, y_any, y_eqD, y_neD, y_rev, y_dn, y_orT, y_notT, y_ins, y_bits, y_bAnd, y_bOr, y_rt0, y_rtR, y_nx0, y_rtX, y_nxX, y_exX, inV2, inV3, flatD, vOf, List.all_cons, List.all_nil, Bool.and_self, sz_iff, Nat.reduceAdd, Nat.reduceLeDiff, Nat.zero_add, y_dD, y_dB, y_dI, y_dL, y_dSl, y_dSt, y_dAll0, y_dAllS, dAll_map, y_I0, y_I, y_eqI, y_eqS, y_eqB, y_neI, y_neS, y_neB, y_neg, y_ixL, y_ixT, y_min, y_max, y_abs, y_lenL, y_lenT, y_lenS, y_lenB, y_truL, y_truT, y_inL, y_inT, y_ex1, y_exO, y_exR, at0, at1, at2, at3, isNon, List.getElem?_cons_succ, List.getElem?_cons_zero, List.set_cons_succ, List.set_cons_zero, List.length_cons, List.length_nil, List.map_cons, List.map_nil, true_and, and_true, decide_eq_true_eq, Bool.not_eq_true', Bool.not_true, Bool.not_false, if_true, if_false, Bool.false_eq_true, ite_true, ite_false])
          refine ⟨rk.1, rk.2.1, rk.2.2, ?_⟩
          (try simp only [y_var, y_c, y_op, y_un, y_and, y_or, y_not, y_if, y_isN, y_notN, y_bOf, y_bTru, y_bNot, y_bYes, y_aNil, y_aCons, y_aStar, y_tup, y_disp, y_fz, y_cb, y_cat, y_of, y_sl, y_dO0, y_dO1, y_ixN, y_lenN, y_chain, y_call0, y_call, y_callR0, y_next, y_brk, y_cnt, y_asg, y_setO, y_gNm, y_gTp, y_gsNil, y_gsCons, y_subO, y_par, y_aug, y_expr, y_app, y_ext, y_ifS, y_ret, y_retN, y_for, y_while, y_iSeq, y_iTp, y_iR1, y_iR2, y_iEn, y_iZp, y_lc, y_raise, y_un1, y_maxL, y_minL, y_swap, y_cmpO, y_call, Bool.true_eq_false, reduceCtorEq, decide_true, decide_false, ix2_0, ix2_1, ix3_0, ix3_1, ix3_2, LcRun, LpRun, wipeP, restP, noX, dite_true, List.nil_append, List.cons_append, Option.getD_some, Option.getD_none, y_repr, y_tupleL, y_tupleT, y_sum, y_all, y_any, y_eqD, y_neD, y_rev, y_dn, y_orT, y_notT, y_ins, y_bits, y_bAnd, y_bOr, y_rt0, y_rtR, y_nx0, y_rtX, y_nxX, y_exX, inV2, inV3, flatD, vOf, List.all_cons, List.all_nil, Bool.and_self, sz_iff, Nat.reduceAdd, Nat.reduceLeDiff, Nat.zero_add, y_dD, y_dB, y_dI, y_dL, y_dSl, y_dSt, y_dAll0, y_dAllS, dAll_map, y_I0, y_I, y_eqI, y_eqS, y_eqB, y_neI, y_neS, y_neB, y_neg, y_ixL, y_ixT, y_min, y_max, y_abs, y_lenL, y_lenT, y_lenS, y_lenB, y_truL, y_truT, y_inL, y_inT, y_ex1, y_exO, y_exR, at0, at1, at2, at3, isNon, List.getElem?_cons_succ, List.getElem?_cons_zero, List.set_cons_succ, List.set_cons_zero, List.length_cons, List.length_nil, List.map_cons, List.map_nil, true_and, and_true, decide_eq_true_eq, Bool.not_eq_true', Bool.not_true, Bool.not_false, if_true, if_false, Bool.false_eq_true, ite_true, ite_false])
          exact h2
        (try simp only [y_var, y_c, y_op, y_un, y_and, y_or, y_not, y_if, y_isN, y_notN, y_bOf, y_bTru, y_bNot, y_bYes, y_aNil, y_aCons, y_aStar, y_tup, y_disp, y_fz, y_cb, y_cat, y_of, y_sl, y_dO0, y_dO1, y_ixN, y_lenN, y_chain, y_call0, y_call, y_callR0, y_next, y_brk, y_cnt, y_asg, y_setO, y_gNm, y_gTp, y_gsNil, y_gsCons, y_subO, y_par, y_aug, y_expr, y_app, y_ext, y_ifS, y_ret, y_retN, y_for, y_while, y_iSeq, y_iTp, y_iR1, y_iR2, y_iEn, y_iZp, y_lc, y_raise, y_un1, y_maxL, y_minL, y_swap, y_cmpO, y_call, Bool.true_eq_false, reduceCtorEq, decide_true, decide_false, ix2_0, ix2_1, ix3_0, ix3_1, ix3_2, LcRun, LpRun, wipeP, restP, noX, dite_true, List.nil_append, List.cons_append, Option.getD_some, Option.getD_none, y_repr, y_tupleL, y_tupleT, y_sum, y_all, y_any, y_eqD, y_neD, y_rev, y_dn, y_orT, y_notT, y_ins, y_bits, y_bAnd, y_bOr, y_rt0, y_rtR, y_nx0, y_rtX, y_nxX, y_exX, inV2, inV3, flatD, vOf, List.all_cons, List.all_nil, Bool.and_self, sz_iff, Nat.reduceAdd, Nat.reduceLeDiff, Nat.zero_add, y_dD, y_dB, y_dI, y_dL, y_dSl, y_dSt, y_dAll0, y_dAllS, dAll_map, y_I0, y_I, y_eqI, y_eqS, y_eqB, y_neI, y_neS, y_neB, y_neg, y_ixL, y_ixT, y_min, y_max, y_abs, y_lenL, y_lenT, y_lenS, y_lenB, y_truL, y_truT, y_inL, y_inT, y_ex1, y_exO, y_exR, at0, at1, at2, at3, isNon, List.getElem?_cons_succ, List.getElem?_cons_zero, List.set_cons_succ, List.set_cons_zero, List.length_cons, List.length_nil, List.map_cons, List.map_nil, true_and, and_true, decide_eq_true_eq, Bool.not_eq_true', Bool.not_true, Bool.not_false, if_true, if_false, Bool.false_eq_true, ite_true, ite_false])
        refine ⟨c, rfl, bc, fc, ?_⟩
        (try simp only [y_var, y_c, y_op, y_un, y_and, y_or, y_not, y_if, y_isN, y_notN, y_bOf, y_bTru, y_bNot, y_bYes, y_aNil, y_aCons, y_aStar, y_tup, y_disp, y_fz, y_cb, y_cat, y_of, y_sl, y_dO0, y_dO1, y_ixN, y_lenN, y_chain, y_call0, y_call, y_callR0, y_next, y_brk, y_cnt, y_asg, y_setO, y_gNm, y_gTp, y_gsNil, y_gsCons, y_subO, y_par, y_aug, y_expr, y_app, y_ext, y_ifS, y_ret, y_retN, y_for, y_while, y_iSeq, y_iTp, y_iR1, y_iR2, y_iEn, y_iZp, y_lc, y_raise, y_un1, y_maxL, y_minL, y_swap, y_cmpO, y_call, Bool.true_eq_false, reduceCtorEq, decide_true, decide_false, ix2_0, ix2_1, ix3_0, ix3_1, ix3_2, LcRun, LpRun, wipeP, restP, noX, dite_true, List.nil_append, List.cons_append, Option.getD_some, Option.getD_none, y_repr, y_tupleL, y_tupleT, y_sum, y_all, y_any, y_eqD, y_neD, y_rev, y_dn, y_orT, y_notT, y_ins, y_bits, y_bAnd, y_bOr, y_rt0, y_rtR, y_nx0, y_rtX, y_nxX, y_exX, inV2, inV3, flatD, vOf, List.all_cons, List.all_nil, Bool.and_self, sz_iff, Nat.reduceAdd, Nat.reduceLeDiff, Nat.zero_add, y_dD, y_dB, y_dI, y_dL, y_dSl, y_dSt, y_dAll0, y_dAllS, dAll_map, y_I0, y_I, y_eqI, y_eqS, y_eqB, y_neI, y_neS, y_neB, y_neg, y_ixL, y_ixT, y_min, y_max, y_abs, y_lenL, y_lenT, y_lenS, y_lenB, y_truL, y_truT, y_inL, y_inT, y_ex1, y_exO, y_exR, at0, at1, at2, at3, isNon, List.getElem?_cons_succ, List.getElem?_cons_zero, List.set_cons_succ, List.set_cons_zero, List.length_cons, List.length_nil, List.map_cons, List.map_nil, true_and, and_true, decide_eq_true_eq, Bool.not_eq_true', Bool.not_true, Bool.not_false, if_true, if_false, Bool.false_eq_true, ite_true, ite_false])
        refine ⟨o, rfl, bo, fo, ?_⟩
        (try simp only [y_var, y_c, y_op, y_un, y_and, y_or, y_not, y_if, y_isN, y_notN, y_bOf, y_bTru, y_bNot, y_bYes, y_aNil, y_aCons, y_aStar, y_tup, y_disp, y_fz, y_cb, y_cat, y_of, y_sl, y_dO0, y_dO1, y_ixN, y_lenN, y_chain, y_call0, y_call, y_callR0, y_next, y_brk, y_cnt, y_asg, y_setO, y_gNm, y_gTp, y_gsNil, y_gsCons, y_subO, y_par, y_aug, y_expr, y_app, y_ext, y_ifS, y_ret, y_retN, y_for, y_while, y_iSeq, y_iTp, y_iR1, y_iR2, y_iEn, y_iZp, y_lc, y_raise, y_un1, y_maxL, y_minL, y_swap, y_cmpO, y_call, Bool.true_eq_false, reduceCtorEq, decide_true, decide_false, ix2_0, ix2_1, ix3_0, ix3_1, ix3_2, LcRun, LpRun, wipeP, restP, noX, dite_true, List.nil_append, List.cons_append, Option.getD_some, Option.getD_none, y_repr, y_tupleL, y_tupleT, y_sum, y_all, y_any, y_eqD, y_neD, y_rev, y_dn, y_orT, y_notT, y_ins, y_bits, y_bAnd, y_bOr, y_rt0, y_rtR, y_nx0, y_rtX, y_nxX, y_exX, inV2, inV3, flatD, vOf, List.all_cons, List.all_nil, Bool.and_self, sz_iff, Nat.reduceAdd, Nat.reduceLeDiff, Nat.zero_add, y_dD, y_dB, y_dI, y_dL, y_dSl, y_dSt, y_dAll0, y_dAllS, dAll_map, y_I0, y_I, y_eqI, y_eqS, y_eqB, y_neI, y_neS, y_neB, y_neg, y_ixL, y_ixT, y_min, y_max, y_abs, y_lenL, y_lenT, y_lenS, y_lenB, y_truL, y_truT, y_inL, y_inT, y_ex1, y_exO, y_exR, at0, at1, at2, at3, isNon, List.getElem?_cons_succ, List.getElem?_cons_zero, List.set_cons_succ, List.set_cons_zero, List.length_cons, List.length_nil, List.map_cons, List.map_nil, true_and, and_true, decide_eq_true_eq, Bool.not_eq_true', Bool.not_true, Bool.not_false, if_true, if_false, Bool.false_eq_true, ite_true, ite_false])
        refine ⟨fm_sh _, fm_sh _, ?_⟩
        have ef : (fmD (formS (spreadS c))).eqv (fmD (formS (spreadS o))) = b2 := by
          rw [Bool.eq_iff_iff, hb, ← form_iff fc fo]
          exact ⟨eqv_fm, fun e => by rw [e]; exact eqv_same (fm_sh _)⟩
        rw [ef, decide_eq_true rfl]
        exact hRB
      refine ⟨rk.1, rk.2.1, rk.2.2, ?_⟩
      by_cases hi0 : (i : Int) = 0
      · rw [if_pos hi0]
        have : i = 0 := by omega
        subst this
        cases ho
        exact main true ⟨fun _ y => (same1 y).symm, fun _ => rfl⟩
      · rw [if_neg hi0]
        exact ⟨c, o, 12, BB, rfl, uc, uo, by omega, sc7, so, fun b hb => main b hb⟩
    · obtain ⟨y4, y5, y6, y7, y8, rfl⟩ := h
      refine hNX _ ?_
      clear hNX NX
      (try simp only [y_var, y_c, y_op, y_un, y_and, y_or, y_not, y_if, y_isN, y_notN, y_bOf, y_bTru, y_bNot, y_bYes, y_aNil, y_aCons, y_aStar, y_tup, y_disp, y_fz, y_cb, y_cat, y_of, y_sl, y_dO0, y_dO1, y_ixN, y_lenN, y_chain, y_call0, y_call, y_callR0, y_next, y_brk, y_cnt, y_asg, y_setO, y_gNm, y_gTp, y_gsNil, y_gsCons, y_subO, y_par, y_aug, y_expr, y_app, y_ext, y_ifS, y_ret, y_retN, y_for, y_while, y_iSeq, y_iTp, y_iR1, y_iR2, y_iEn, y_iZp, y_lc, y_raise, y_un1, y_maxL, y_minL, y_swap, y_cmpO, y_call, Bool.true_eq_false, reduceCtorEq, decide_true, decide_false, ix2_0, ix2_1, ix3_0, ix3_1, ix3_2, LcRun, LpRun, wipeP, restP, noX, dite_true, List.nil_append, List.cons_append, Option.getD_some, Option.getD_none, y_repr, y_tupleL, y_tupleT, y_sum, y_all, y_any, y_eqD, y_neD, y_rev, y_dn, y_orT, y_notT, y_ins, y_bits, y_bAnd, y_bOr, y_rt0, y_rtR, y_nx0, y_rtX, y_nxX, y_exX, inV2, inV3, flatD, vOf, List.all_cons, List.all_nil, Bool.and_self, sz_iff, Nat.reduceAdd, Nat.reduceLeDiff, Nat.zero_add, y_dD, y_dB, y_dI, y_dL, y_dSl, y_dSt, y_dAll0, y_dAllS, dAll_map, y_I0, y_I, y_eqI, y_eqS, y_eqB, y_neI, y_neS, y_neB, y_neg, y_ixL, y_ixT, y_min, y_max, y_abs, y_lenL, y_lenT, y_lenS, y_lenB, y_truL, y_truT, y_inL, y_inT, y_ex1, y_exO, y_exR, at0, at1, at2, at3, isNon, List.getElem?_cons_succ, List.getElem?_cons_zero, List.set_cons_succ, List.set_cons_zero, List.length_cons, List.length_nil, List.map_cons, List.map_nil, true_and, and_true, decide_eq_true_eq, Bool.not_eq_true', Bool.not_true, Bool.not_false, if_true, if_false, Bool.false_eq_true, ite_true, ite_false])
      refine ⟨c, c, rfl, bc, bc, fc, fc, fun b hb => ?_⟩
      (try simp only [y_var, y_c, y_op, y_un, y_and, y_or, y_not, y_if, y_isN, y_notN, y_bOf, y_bTru, y_bNot, y_bYes, y_aNil, y_aCons, y_aStar, y_tup, y_disp, y_fz, y_cb, y_cat, y_of, y_sl, y_dO0, y_dO1, y_ixN, y_lenN, y_chain, y_call0, y_call, y_callR0, y_next, y_brk, y_cnt, y_asg, y_setO, y_gNm, y_gTp, y_gsNil, y_gsCons, y_subO, y_par, y_aug, y_expr, y_app, y_ext, y_ifS, y_ret, y_retN, y_for, y_while, y_iSeq, y_iTp, y_iR1, y_iR2, y_iEn, y_iZp, y_lc, y_raise, y_un1, y_maxL, y_minL, y_swap, y_cmpO, y_call, Bool.true_eq_false, reduceCtorEq, decide_true, decide_false, ix2_0, ix2_1, ix3_0, ix3_1, ix3_2, LcRun, LpRun, wipeP, restP, noX, dite_true, List.nil_append, List.cons_append, Option.getD_some, Option.getD_none, y_repr, y_tupleL, y_tupleT, y_sum, y_all, y_any, y_eqD, y_neD, y_rev, y_dn, y_orT, y_notT, y_ins, y_bits, y_bAnd, y_bOr, y_rt0, y_rtR, y_nx0, y_rtX, y_nxX, y_exX, inV2, inV3, flatD, vOf, List.all_cons, List.all_nil, Bool.and_self, sz_iff, Nat.reduceAdd, Nat.reduceLeDiff, Nat.zero_add, y_dD, y_dB, y_dI, y_dL, y_dSl, y_dSt, y_dAll0, y_dAllS, dAll_map, y_I0, y_I, y_eqI, y_eqS, y_eqB, y_neI, y_neS, y_neB, y_neg, y_ixL, y_ixT, y_min, y_max, y_abs, y_lenL, y_lenT, y_lenS, y_lenB, y_truL, y_truT, y_inL, y_inT, y_ex1, y_exO, y_exR, at0, at1, at2, at3, isNon, List.getElem?_cons_succ, List.getElem?_cons_zero, List.set_cons_succ, List.set_cons_zero, List.length_cons, List.length_nil, List.map_cons, List.map_nil, true_and, and_true, decide_eq_true_eq, Bool.not_eq_true', Bool.not_true, Bool.not_false, if_true, if_false, Bool.false_eq_true, ite_true, ite_false])
      rw [hb.mpr fun _ => rfl]
      exact q _ (by omega)
end

end Cc

set_option Elab.async false
set_option linter.all false
set_option maxRecDepth 100000
set_option maxHeartbeats 4000000
/-! The pure layer: list(range(n)), a fresh list. -/
namespace Cc
open PySem PySem.Spec PyProof.Rows L2
theorem dqA_ints {K : PySem.W.Frag} {F : Hp} : ∀ ns : List Int, DqAll K F (ns.map V.int) (ns.map PyData.int)
  | [] => .nil
  | _ :: ns => .cons (.int _) (dqA_ints ns)
def lRng (a : EE) : LL := fun ρ R Xx => a ρ (fun x ρ1 => dI x fun n => (0 ≤ n ∧ n ≤ 16777216) ∧ R (((List.range n.toNat).map fun i => ((i : Nat) : Int)).map PyData.int) ρ1) Xx
section
variable {Γ : Gx} {X : Cx} {W : WX} {e e1 : Expr} {a : EE}
theorem dl_rng (hpe : ∀ {ta : TE}, PE X e1 ta → PE X e (tLstRg (tRg1 ta))) {ta : TE} (h1 : DE Γ X W e1 ta a) : DL Γ X W e (tLstRg (tRg1 ta)) (lRng a) := by
  obtain ⟨p1, d1⟩ := h1
  refine ⟨hpe p1, fun f F H σ ρ Q R Xx E q o ox => ?_⟩
  refine d1 f F H σ ρ _ _ Xx E q (fun x ρ1 F1 H1 v1 q1 E1 s1 r1 => ?_) ox
  obtain ⟨n, rfl, ⟨n0, n1⟩, q1'⟩ := dI_of q1
  cases r1
  refine ⟨n, rfl, RgOk.of_le (Int.le_refl _) n1 (by omega) n0, fun l nl => ?_⟩
  have e : rgV 0 n = ((List.range n.toNat).map fun i => ((i : Nat) : Int)).map V.int := by
    unfold rgV
    rw [Int.sub_zero, List.map_map]
    exact List.map_congr_left fun i _ => by show V.int (0 + (i : Int)) = V.int i; rw [Int.zero_add]
  rw [e]
  exact o _ _ _ _ _ _ q1' (E1.raw nl) s1 (own_new E1 (dqA_ints _) nl)
theorem y_lRng {ρ : List Sl} {R : List PyData → List Sl → Prop} {Xx : XX} : lRng a ρ R Xx ↔ a ρ (fun x ρ1 => dI x fun n => (0 ≤ n ∧ n ≤ 16777216) ∧ R (((List.range n.toNat).map fun i => ((i : Nat) : Int)).map PyData.int) ρ1) Xx := Iff.rfl
end
end Cc

set_option Elab.async false
set_option linter.all false
set_option maxRecDepth 100000
set_option maxHeartbeats 4000000
namespace Cc
open PySem PySem.Spec PyProof.Rows L2
section
variable {P : Program} {w : World} {K : PySem.W.Frag} {mg : Str → Option Value} {base : Heap} {C : Nat → Addr} {CS : Addr}
theorem q_wide_right (T : Tx K mg "_law_wide_right" s_law_wide_right) (m_list : mg "list" = none) (m_range : mg "range" = none) (h__law_draw : Pr P w K mg base CX0 1 "_law_draw" ["pool", "many"] (spP (poolG K C CS) true phDraw)) (h__law_steps : Pr P w K mg base CX0 3 "_law_steps" ["pool", "most", "bits", "far"] (spP (poolG K C CS) true phSteps))
    (h__law_power : Pr P w K mg base CX0 1 "_law_power" ["many"] (spP (poolG K C CS) false phPower)) (h__law_done : Pr P w K mg base CX0 2 "_law_done" ["x", "steps_here"] (spP (poolG K C CS) false phDone)) (h__law_other_way : Pr P w K mg base CX0 3 "_law_other_way" ["pool", "steps_here"] (spP (poolG K C CS) true phOth)) (h__law_changed : Pr P w K mg base CX0 2 "_law_changed" ["pool", "steps_here"] (spP (poolG K C CS) true phChg))
    (h_form : Pr P w K mg base (L2.CX P w) 6 "form" ["chain"] (spP (poolG K C CS) false phForm)) (h_same_function : Pr P w K mg base (L2.CX P w) 7 "same_function" ["first", "second"] (spP (poolG K C CS) false phSame)) :
    Pr P w K mg base CX0 8 "_law_wide_right" ["pool"] (spP (poolG K C CS) true phRight) := by
  refine mkPP (Γ := poolG K C CS) T sc_law_wide_right (fun _ _ _ _ _ _ us hl => match us, hl with | [_], _ => rfl) (fun n xs R Xx h => ?_) (fun n xs R Xx h => h) (fun f cdv A outer s H E hG hr => ?_)
  · obtain ⟨rfl, _⟩ := h
    rfl
  · have nd := sc_law_wide_right.nd
    refine ⟨_, _, (dss_cons (fun h h' => pss_cons h h') (ds_set (i := 1) (fun h => ps_set nd rfl (.inr rfl) h) (de_callR0 (i := 0) (fun h => pe_P h__law_steps hr hG (by rfl) (pa_cons (pv 0) h)) (da_cons (fun h t => pa_cons h t) (de_c pe_int (fun _ => .int _)) (da_cons (fun h t => pa_cons h t) (de_c pe_int (fun _ => .int _)) (da_cons (fun h t => pa_cons h t) (de_op opd_int (fun h h' => pe_op op_powX h h') (de_c pe_int (fun _ => .int _)) (de_c pe_int (fun _ => .int _))) (da_nil pa_nil)))))) (dss_cons (fun h h' => pss_cons h h') (ds_set (i := 2) (fun h => ps_set nd rfl (.inr rfl) h) (de_callR0 (i := 0) (fun h => pe_P h__law_changed hr hG (by rfl) (pa_cons (pv 0) h)) (da_cons (fun h t => pa_cons h t) (de_var (pv 1)) (da_nil pa_nil)))) (dss_cons (fun h h' => pss_cons h h') (ds_if (fun h a b => ps_if h a b) (dt_not (fun h => pt_not h) (dt_val (fun h => pt_val h) (de_callX (fun h => pe_PX h_same_function hr hG (by rfl) takes0 h) (da_cons (fun h t => pa_cons h t) (de_var (pv 1)) (da_cons (fun h t => pa_cons h t) (de_callR0 (i := 0) (fun h => pe_P h__law_other_way hr hG (by rfl) (pa_cons (pv 0) h)) (da_cons (fun h t => pa_cons h t) (de_var (pv 1)) (da_nil pa_nil))) (da_nil pa_nil)))))) (dss_one (fun h => pss_one h) (ds_ret (fun h => ps_ret h) (de_c pe_bl (fun _ => .bl _)))) (dss_nil pss_nil)) (dss_cons (fun h h' => pss_cons h h') (ds_setO (i := 3) (fun h => ps_set nd rfl (.inl rfl) h) (dl_rng (fun h => pe_listRg rfl (by rfl) m_list (prg_1 (by rfl) m_range h)) (de_c pe_int (fun _ => .int _)))) (dss_cons (fun h h' => pss_cons h h') (ds_for (fun hi hg hb => ps_for PassesOwn.never rfl hi hg hb) (di_r1 (by exact fun h => pi_range1 rfl m_range (pa_cons h pa_nil)) (de_c pe_int (fun _ => .int _))) (dg_name (pg_name (i := 4) nd rfl (.inl rfl))) (dss_one (fun h => pss_one h) (ds_app (i := 3) (fun h => ps_expr (pe_bm PySem.F.plainAttrs_list PySem.F.slot_list_append PySem.F.type_list_append mt_append (pv 3) (pa_cons h pa_nil))) (de_op opd_int0 (fun h h' => pe_op op_sub h h') (de_op opd_int0 (fun h h' => pe_op op_sub h h') (de_op opd_int0 (fun h h' => pe_op op_add h h') (de_call0 (fun h => pe_P h__law_power hr hG (by rfl) h) (da_cons (fun h t => pa_cons h t) (de_callR0 (i := 0) (fun h => pe_P h__law_draw hr hG (by rfl) (pa_cons (pv 0) h)) (da_cons (fun h t => pa_cons h t) (de_c pe_int (fun _ => .int _)) (da_nil pa_nil))) (da_nil pa_nil))) (de_callR0 (i := 0) (fun h => pe_P h__law_draw hr hG (by rfl) (pa_cons (pv 0) h)) (da_cons (fun h t => pa_cons h t) (de_c pe_int (fun _ => .int _)) (da_nil pa_nil)))) (de_c pe_int (fun _ => .int _))) (de_callR0 (i := 0) (fun h => pe_P h__law_draw hr hG (by rfl) (pa_cons (pv 0) h)) (da_cons (fun h t => pa_cons h t) (de_op opd_int (fun h h' => pe_op op_powX h h') (de_c pe_int (fun _ => .int _)) (de_c pe_int (fun _ => .int _))) (da_nil pa_nil))))))) (dss_cons (fun h h' => pss_cons h h') (ds_if (fun h a b => ps_if h a b) (dt_cmp opd_eqD (fun h h' => pt_cmpR (op_eqD hr.units) h h' (nomark _)) (de_fz (dl_comp (own := [("x", 5)])  rfl nd (di_list (fun h => pi_list h) (de_var (pv 3))) (blkOk_by (own := [("x", 5)]) (N := ["pool", "one", "other", "tried", "turn", "x"]) (sc := defScope s_law_wide_right) (by decide +kernel)) (fun _ _ _ _ _ => (dg_name (pg_name (i := 5) nd rfl (.inl rfl)))) (fun _ _ _ _ _ => (dts_one (dt_cmp opd_ne (fun h h' => pt_cmpR op_ne h h' (nomark _)) (de_call0 (fun h => pe_P h__law_done hr hG (by rfl) h) (da_cons (fun h t => pa_cons h t) (de_var (pv 5)) (da_cons (fun h t => pa_cons h t) (de_var (pv 1)) (da_nil pa_nil)))) (de_call0 (fun h => pe_P h__law_done hr hG (by rfl) h) (da_cons (fun h t => pa_cons h t) (de_var (pv 5)) (da_cons (fun h t => pa_cons h t) (de_var (pv 2)) (da_nil pa_nil))))))) (fun _ _ _ _ _ => (de_var (pv 5))))) (de_fz (dl_disp (fun h => pe_lst h) (da_nil pa_nil)))) (dss_one (fun h => pss_one h) (ds_ret (fun h => ps_ret h) (de_op opd_eq (fun h h' => pe_cmpR op_eq h h' (nomark _)) (de_callX (fun h => pe_PX h_same_function hr hG (by rfl) takes0 h) (da_cons (fun h t => pa_cons h t) (de_var (pv 1)) (da_cons (fun h t => pa_cons h t) (de_var (pv 2)) (da_nil pa_nil)))) (de_op opd_eqD (fun h h' => pe_cmpR (op_eqD hr.units) h h' (nomark _)) (de_callX (fun h => pe_PX h_form hr hG (by rfl) takes0 h) (da_cons (fun h t => pa_cons h t) (de_var (pv 1)) (da_nil pa_nil))) (de_callX (fun h => pe_PX h_form hr hG (by rfl) takes0 h) (da_cons (fun h t => pa_cons h t) (de_var (pv 2)) (da_nil pa_nil))))))) (dss_nil pss_nil)) (dss_one (fun h => pss_one h) (ds_ret (fun h => ps_ret h) (de_not (fun h => pe_not h) (de_callX (fun h => pe_PX h_same_function hr hG (by rfl) takes0 h) (da_cons (fun h t => pa_cons h t) (de_var (pv 1)) (da_cons (fun h t => pa_cons h t) (de_var (pv 2)) (da_nil pa_nil))))))))))))), fun n xs R h => ?_⟩
    obtain ⟨rfl, hn, q⟩ := h
    show (sSeq _ _) [.rng n, .un, .un, .un, .un, .un] _
    have t30 : (10 : Int) ^ 30 = 1000000000000000000000000000000 := by decide
    have t30' : (10 : Int) ^ (30 : Int).toNat = 1000000000000000000000000000000 := by decide
    have t29 : (10 : Int) ^ (29 : Int).toNat = 100000000000000000000000000000 := by decide
    refine y_cut fun NX hNX => ?_
    (try simp only [y_var, y_c, y_op, y_un, y_and, y_or, y_not, y_if, y_isN, y_notN, y_bOf, y_bTru, y_bNot, y_bYes, y_aNil, y_aCons, y_aStar, y_tup, y_disp, y_fz, y_cb, y_cat, y_of, y_sl, y_dO0, y_dO1, y_ixN, y_lenN, y_chain, y_call0, y_call, y_callR0, y_next, y_brk, y_cnt, y_asg, y_setO, y_gNm, y_gTp, y_gsNil, y_gsCons, y_subO, y_par, y_aug, y_expr, y_app, y_ext, y_ifS, y_ret, y_retN, y_for, y_while, y_iSeq, y_iTp, y_iR1, y_iR2, y_iEn, y_iZp, y_lc, y_raise, y_un1, y_lRng, y_maxL, y_minL, y_swap, y_cmpO, y_call, Bool.true_eq_false, reduceCtorEq, decide_true, decide_false, ix2_0, ix2_1, ix3_0, ix3_1, ix3_2, LcRun, LpRun, wipeP, restP, noX, dite_true, List.nil_append, List.cons_append, Option.getD_some, Option.getD_none, y_repr, y_tupleL, y_tupleT, y_sum, y_all, y_any, y_eqD, y_neD, y_rev, y_dn, y_orT, y_notT, y_ins, y_bits, y_bAnd, y_bOr, y_rt0, y_rtR, y_nx0, y_rtX, y_nxX, y_exX, inV2, inV3, flatD, vOf, List.all_cons, List.all_nil, Bool.and_self, sz_iff, Nat.reduceAdd, Nat.reduceLeDiff, Nat.zero_add, y_dD, y_dB, y_dI, y_dL, y_dSl, y_dSt, y_dAll0, y_dAllS, dAll_map, y_I0, y_I, y_eqI, y_eqS, y_eqB, y_neI, y_neS, y_neB, y_neg, y_ixL, y_ixT, y_min, y_max, y_abs, y_lenL, y_lenT, y_lenS, y_lenB, y_truL, y_truT, y_inL, y_inT, y_ex1, y_exO, y_exR, at0, at1, at2, at3, isNon, List.getElem?_cons_succ, List.getElem?_cons_zero, List.set_cons_succ, List.set_cons_zero, List.length_cons, List.length_nil, List.map_cons, List.map_nil, true_and, and_true, decide_eq_true_eq, Bool.not_eq_true', Bool.not_true, Bool.not_false, if_true, if_false, Bool.false_eq_true, ite_true, ite_false])
    rw [t29]
    refine ⟨⟨by omega, by omega, by decide⟩, 10, 64, _, rfl, by omega, by omega, by omega, by omega, by omega, by omega, by omega, fun c0 hc0 => ?_⟩
    have hc := chB_of hc0 (by omega)
    refine hNX _ ?_
    clear hNX NX
    refine y_cut fun NX hNX => ?_
    (try simp only [y_var, y_c, y_op, y_un, y_and, y_or, y_not, y_if, y_isN, y_notN, y_bOf, y_bTru, y_bNot, y_bYes, y_aNil, y_aCons, y_aStar, y_tup, y_disp, y_fz, y_cb, y_cat, y_of, y_sl, y_dO0, y_dO1, y_ixN, y_lenN, y_chain, y_call0, y_call, y_callR0, y_next, y_brk, y_cnt, y_asg, y_setO, y_gNm, y_gTp, y_gsNil, y_gsCons, y_subO, y_par, y_aug, y_expr, y_app, y_ext, y_ifS, y_ret, y_retN, y_for, y_while, y_iSeq, y_iTp, y_iR1, y_iR2, y_iEn, y_iZp, y_lc, y_raise, y_un1, y_lRng, y_maxL, y_minL, y_swap, y_cmpO, y_call, Bool.true_eq_false, reduceCtorEq, decide_true, decide_false, ix2_0, ix2_1, ix3_0, ix3_1, ix3_2, LcRun, LpRun, wipeP, restP, noX, dite_true, List.nil_append, List.cons_append, Option.getD_some, Option.getD_none, y_repr, y_tupleL, y_tupleT, y_sum, y_all, y_any, y_eqD, y_neD, y_rev, y_dn, y_orT, y_notT, y_ins, y_bits, y_bAnd, y_bOr, y_rt0, y_rtR, y_nx0, y_rtX, y_nxX, y_exX, inV2, inV3, flatD, vOf, List.all_cons, List.all_nil, Bool.and_self, sz_iff, Nat.reduceAdd, Nat.reduceLeDiff, Nat.zero_add, y_dD, y_dB, y_dI, y_dL, y_dSl, y_dSt, y_dAll0, y_dAllS, dAll_map, y_I0, y_I, y_eqI, y_eqS, y_eqB, y_neI, y_neS, y_neB, y_neg, y_ixL, y_ixT, y_min, y_max, y_abs, y_lenL, y_lenT, y_lenS, y_lenB, y_truL, y_truT, y_inL, y_inT, y_ex1, y_exO, y_exR, at0, at1, at2, at3, isNon, List.getElem?_cons_succ, List.getElem?_cons_zero, List.set_cons_succ, List.set_cons_zero, List.length_cons, List.length_nil, List.map_cons, List.map_nil, true_and, and_true, decide_eq_true_eq, Bool.not_eq_true', Bool.not_true, Bool.not_false, if_true, if_false, Bool.false_eq_true, ite_true, ite_false])
    refine ⟨c0, 10, _, rfl, hc, by omega, by omega, by omega, by omega, fun d k1 hd sd hk1 => hNX _ ?_⟩
    clear hNX NX
    refine y_cut fun NX hNX => ?_
    (try simp only [y_var, y_c, y_op, y_un, y_and, y_or, y_not, y_if, y_isN, y_notN, y_bOf, y_bTru, y_bNot, y_bYes, y_aNil, y_aCons, y_aStar, y_tup, y_disp, y_fz, y_cb, y_cat, y_of, y_sl, y_dO0, y_dO1, y_ixN, y_lenN, y_chain, y_call0, y_call, y_callR0, y_next, y_brk, y_cnt, y_asg, y_setO, y_gNm, y_gTp, y_gsNil, y_gsCons, y_subO, y_par, y_aug, y_expr, y_app, y_ext, y_ifS, y_ret, y_retN, y_for, y_while, y_iSeq, y_iTp, y_iR1, y_iR2, y_iEn, y_iZp, y_lc, y_raise, y_un1, y_lRng, y_maxL, y_minL, y_swap, y_cmpO, y_call, Bool.true_eq_false, reduceCtorEq, decide_true, decide_false, ix2_0, ix2_1, ix3_0, ix3_1, ix3_2, LcRun, LpRun, wipeP, restP, noX, dite_true, List.nil_append, List.cons_append, Option.getD_some, Option.getD_none, y_repr, y_tupleL, y_tupleT, y_sum, y_all, y_any, y_eqD, y_neD, y_rev, y_dn, y_orT, y_notT, y_ins, y_bits, y_bAnd, y_bOr, y_rt0, y_rtR, y_nx0, y_rtX, y_nxX, y_exX, inV2, inV3, flatD, vOf, List.all_cons, List.all_nil, Bool.and_self, sz_iff, Nat.reduceAdd, Nat.reduceLeDiff, Nat.zero_add, y_dD, y_dB, y_dI, y_dL, y_dSl, y_dSt, y_dAll0, y_dAllS, dAll_map, y_I0, y_I, y_eqI, y_eqS, y_eqB, y_neI, y_neS, y_neB, y_neg, y_ixL, y_ixT, y_min, y_max, y_abs, y_lenL, y_lenT, y_lenS, y_lenB, y_truL, y_truT, y_inL, y_inT, y_ex1, y_exO, y_exR, at0, at1, at2, at3, isNon, List.getElem?_cons_succ, List.getElem?_cons_zero, List.set_cons_succ, List.set_cons_zero, List.length_cons, List.length_nil, List.map_cons, List.map_nil, true_and, and_true, decide_eq_true_eq, Bool.not_eq_true', Bool.not_true, Bool.not_false, if_true, if_false, Bool.false_eq_true, ite_true, ite_false])
    refine ⟨c0, 10, _, rfl, hc, by omega, by omega, by omega, fun o1 k2 ho1 same1 sm1 hk2 => ?_⟩
    (try simp only [y_var, y_c, y_op, y_un, y_and, y_or, y_not, y_if, y_isN, y_notN, y_bOf, y_bTru, y_bNot, y_bYes, y_aNil, y_aCons, y_aStar, y_tup, y_disp, y_fz, y_cb, y_cat, y_of, y_sl, y_dO0, y_dO1, y_ixN, y_lenN, y_chain, y_call0, y_call, y_callR0, y_next, y_brk, y_cnt, y_asg, y_setO, y_gNm, y_gTp, y_gsNil, y_gsCons, y_subO, y_par, y_aug, y_expr, y_app, y_ext, y_ifS, y_ret, y_retN, y_for, y_while, y_iSeq, y_iTp, y_iR1, y_iR2, y_iEn, y_iZp, y_lc, y_raise, y_un1, y_lRng, y_maxL, y_minL, y_swap, y_cmpO, y_call, Bool.true_eq_false, reduceCtorEq, decide_true, decide_false, ix2_0, ix2_1, ix3_0, ix3_1, ix3_2, LcRun, LpRun, wipeP, restP, noX, dite_true, List.nil_append, List.cons_append, Option.getD_some, Option.getD_none, y_repr, y_tupleL, y_tupleT, y_sum, y_all, y_any, y_eqD, y_neD, y_rev, y_dn, y_orT, y_notT, y_ins, y_bits, y_bAnd, y_bOr, y_rt0, y_rtR, y_nx0, y_rtX, y_nxX, y_exX, inV2, inV3, flatD, vOf, List.all_cons, List.all_nil, Bool.and_self, sz_iff, Nat.reduceAdd, Nat.reduceLeDiff, Nat.zero_add, y_dD, y_dB, y_dI, y_dL, y_dSl, y_dSt, y_dAll0, y_dAllS, dAll_map, y_I0, y_I, y_eqI, y_eqS, y_eqB, y_neI, y_neS, y_neB, y_neg, y_ixL, y_ixT, y_min, y_max, y_abs, y_lenL, y_lenT, y_lenS, y_lenB, y_truL, y_truT, y_inL, y_inT, y_ex1, y_exO, y_exR, at0, at1, at2, at3, isNon, List.getElem?_cons_succ, List.getElem?_cons_zero, List.set_cons_succ, List.set_cons_zero, List.length_cons, List.length_nil, List.map_cons, List.map_nil, true_and, and_true, decide_eq_true_eq, Bool.not_eq_true', Bool.not_true, Bool.not_false, if_true, if_false, Bool.false_eq_true, ite_true, ite_false])
    obtain ⟨bc, fc⟩ := hc.bnd (by omega)
    obtain ⟨bd, fd⟩ := hd.bnd (by omega)
    obtain ⟨bo, fo⟩ := ho1.bnd (by omega)
    refine ⟨c0, o1, rfl, bc, bo, fc, fo, fun b0 hb0 => ?_⟩
    (try simp only [y_var, y_c, y_op, y_un, y_and, y_or, y_not, y_if, y_isN, y_notN, y_bOf, y_bTru, y_bNot, y_bYes, y_aNil, y_aCons, y_aStar, y_tup, y_disp, y_fz, y_cb, y_cat, y_of, y_sl, y_dO0, y_dO1, y_ixN, y_lenN, y_chain, y_call0, y_call, y_callR0, y_next, y_brk, y_cnt, y_asg, y_setO, y_gNm, y_gTp, y_gsNil, y_gsCons, y_subO, y_par, y_aug, y_expr, y_app, y_ext, y_ifS, y_ret, y_retN, y_for, y_while, y_iSeq, y_iTp, y_iR1, y_iR2, y_iEn, y_iZp, y_lc, y_raise, y_un1, y_lRng, y_maxL, y_minL, y_swap, y_cmpO, y_call, Bool.true_eq_false, reduceCtorEq, decide_true, decide_false, ix2_0, ix2_1, ix3_0, ix3_1, ix3_2, LcRun, LpRun, wipeP, restP, noX, dite_true, List.nil_append, List.cons_append, Option.getD_some, Option.getD_none, y_repr, y_tupleL, y_tupleT, y_sum, y_all, y_any, y_eqD, y_neD, y_rev, y_dn, y_orT, y_notT, y_ins, y_bits, y_bAnd, y_bOr, y_rt0, y_rtR, y_nx0, y_rtX, y_nxX, y_exX, inV2, inV3, flatD, vOf, List.all_cons, List.all_nil, Bool.and_self, sz_iff, Nat.reduceAdd, Nat.reduceLeDiff, Nat.zero_add, y_dD, y_dB, y_dI, y_dL, y_dSl, y_dSt, y_dAll0, y_dAllS, dAll_map, y_I0, y_I, y_eqI, y_eqS, y_eqB, y_neI, y_neS, y_neB, y_neg, y_ixL, y_ixT, y_min, y_max, y_abs, y_lenL, y_lenT, y_lenS, y_lenB, y_truL, y_truT, y_inL, y_inT, y_ex1, y_exO, y_exR, at0, at1, at2, at3, isNon, List.getElem?_cons_succ, List.getElem?_cons_zero, List.set_cons_succ, List.set_cons_zero, List.length_cons, List.length_nil, List.map_cons, List.map_nil, true_and, and_true, decide_eq_true_eq, Bool.not_eq_true', Bool.not_true, Bool.not_false, if_true, if_false, Bool.false_eq_true, ite_true, ite_false])
    have e0 : b0 = true := hb0.mpr fun y => (same1 y).symm
    subst e0
    (try simp only [y_var, y_c, y_op, y_un, y_and, y_or, y_not, y_if, y_isN, y_notN, y_bOf, y_bTru, y_bNot, y_bYes, y_aNil, y_aCons, y_aStar, y_tup, y_disp, y_fz, y_cb, y_cat, y_of, y_sl, y_dO0, y_dO1, y_ixN, y_lenN, y_chain, y_call0, y_call, y_callR0, y_next, y_brk, y_cnt, y_asg, y_setO, y_gNm, y_gTp, y_gsNil, y_gsCons, y_subO, y_par, y_aug, y_expr, y_app, y_ext, y_ifS, y_ret, y_retN, y_for, y_while, y_iSeq, y_iTp, y_iR1, y_iR2, y_iEn, y_iZp, y_lc, y_raise, y_un1, y_lRng, y_maxL, y_minL, y_swap, y_cmpO, y_call, Bool.true_eq_false, reduceCtorEq, decide_true, decide_false, ix2_0, ix2_1, ix3_0, ix3_1, ix3_2, LcRun, LpRun, wipeP, restP, noX, dite_true, List.nil_append, List.cons_append, Option.getD_some, Option.getD_none, y_repr, y_tupleL, y_tupleT, y_sum, y_all, y_any, y_eqD, y_neD, y_rev, y_dn, y_orT, y_notT, y_ins, y_bits, y_bAnd, y_bOr, y_rt0, y_rtR, y_nx0, y_rtX, y_nxX, y_exX, inV2, inV3, flatD, vOf, List.all_cons, List.all_nil, Bool.and_self, sz_iff, Nat.reduceAdd, Nat.reduceLeDiff, Nat.zero_add, y_dD, y_dB, y_dI, y_dL, y_dSl, y_dSt, y_dAll0, y_dAllS, dAll_map, y_I0, y_I, y_eqI, y_eqS, y_eqB, y_neI, y_neS, y_neB, y_neg, y_ixL, y_ixT, y_min, y_max, y_abs, y_lenL, y_lenT, y_lenS, y_lenB, y_truL, y_truT, y_inL, y_inT, y_ex1, y_exO, y_exR, at0, at1, at2, at3, isNon, List.getElem?_cons_succ, List.getElem?_cons_zero, List.set_cons_succ, List.set_cons_zero, List.length_cons, List.length_nil, List.map_cons, List.map_nil, true_and, and_true, decide_eq_true_eq, Bool.not_eq_true', Bool.not_true, Bool.not_false, if_true, if_false, Bool.false_eq_true, ite_true, ite_false])
    refine hNX _ ?_
    clear hNX NX
    refine y_cut fun NX hNX => ?_
    (try simp only [y_var, y_c, y_op, y_un, y_and, y_or, y_not, y_if, y_isN, y_notN, y_bOf, y_bTru, y_bNot, y_bYes, y_aNil, y_aCons, y_aStar, y_tup, y_disp, y_fz, y_cb, y_cat, y_of, y_sl, y_dO0, y_dO1, y_ixN, y_lenN, y_chain, y_call0, y_call, y_callR0, y_next, y_brk, y_cnt, y_asg, y_setO, y_gNm, y_gTp, y_gsNil, y_gsCons, y_subO, y_par, y_aug, y_expr, y_app, y_ext, y_ifS, y_ret, y_retN, y_for, y_while, y_iSeq, y_iTp, y_iR1, y_iR2, y_iEn, y_iZp, y_lc, y_raise, y_un1, y_lRng, y_maxL, y_minL, y_swap, y_cmpO, y_call, Bool.true_eq_false, reduceCtorEq, decide_true, decide_false, ix2_0, ix2_1, ix3_0, ix3_1, ix3_2, LcRun, LpRun, wipeP, restP, noX, dite_true, List.nil_append, List.cons_append, Option.getD_some, Option.getD_none, y_repr, y_tupleL, y_tupleT, y_sum, y_all, y_any, y_eqD, y_neD, y_rev, y_dn, y_orT, y_notT, y_ins, y_bits, y_bAnd, y_bOr, y_rt0, y_rtR, y_nx0, y_rtX, y_nxX, y_exX, inV2, inV3, flatD, vOf, List.all_cons, List.all_nil, Bool.and_self, sz_iff, Nat.reduceAdd, Nat.reduceLeDiff, Nat.zero_add, y_dD, y_dB, y_dI, y_dL, y_dSl, y_dSt, y_dAll0, y_dAllS, dAll_map, y_I0, y_I, y_eqI, y_eqS, y_eqB, y_neI, y_neS, y_neB, y_neg, y_ixL, y_ixT, y_min, y_max, y_abs, y_lenL, y_lenT, y_lenS, y_lenB, y_truL, y_truT, y_inL, y_inT, y_ex1, y_exO, y_exR, at0, at1, at2, at3, isNon, List.getElem?_cons_succ, List.getElem?_cons_zero, List.set_cons_succ, List.set_cons_zero, List.length_cons, List.length_nil, List.map_cons, List.map_nil, true_and, and_true, decide_eq_true_eq, Bool.not_eq_true', Bool.not_true, Bool.not_false, if_true, if_false, Bool.false_eq_true, ite_true, ite_false])
    refine ⟨⟨by omega, by omega⟩, hNX _ ?_⟩
    clear hNX NX
    have hk3 : k2 ≤ n + 10015 := by omega
    obtain ⟨ts0, ht0, hl0⟩ : ∃ ts : List Int, ts = (List.range (40 : Int).toNat).map (fun i => ((i : Nat) : Int)) ∧ ts.length = 40 := ⟨_, rfl, by rw [List.length_map, List.length_range]; rfl⟩
    rw [← ht0]
    clear ht0
    refine y_cut fun NX hNX => ?_
    (try simp only [y_var, y_c, y_op, y_un, y_and, y_or, y_not, y_if, y_isN, y_notN, y_bOf, y_bTru, y_bNot, y_bYes, y_aNil, y_aCons, y_aStar, y_tup, y_disp, y_fz, y_cb, y_cat, y_of, y_sl, y_dO0, y_dO1, y_ixN, y_lenN, y_chain, y_call0, y_call, y_callR0, y_next, y_brk, y_cnt, y_asg, y_setO, y_gNm, y_gTp, y_gsNil, y_gsCons, y_subO, y_par, y_aug, y_expr, y_app, y_ext, y_ifS, y_ret, y_retN, y_for, y_while, y_iSeq, y_iTp, y_iR1, y_iR2, y_iEn, y_iZp, y_lc, y_raise, y_un1, y_lRng, y_maxL, y_minL, y_swap, y_cmpO, y_call, Bool.true_eq_false, reduceCtorEq, decide_true, decide_false, ix2_0, ix2_1, ix3_0, ix3_1, ix3_2, LcRun, LpRun, wipeP, restP, noX, dite_true, List.nil_append, List.cons_append, Option.getD_some, Option.getD_none, y_repr, y_tupleL, y_tupleT, y_sum, y_all, y_any, y_eqD, y_neD, y_rev, y_dn, y_orT, y_notT, y_ins, y_bits, y_bAnd, y_bOr, y_rt0, y_rtR, y_nx0, y_rtX, y_nxX, y_exX, inV2, inV3, flatD, vOf, List.all_cons, List.all_nil, Bool.and_self, sz_iff, Nat.reduceAdd, Nat.reduceLeDiff, Nat.zero_add, y_dD, y_dB, y_dI, y_dL, y_dSl, y_dSt, y_dAll0, y_dAllS, dAll_map, y_I0, y_I, y_eqI, y_eqS, y_eqB, y_neI, y_neS, y_neB, y_neg, y_ixL, y_ixT, y_min, y_max, y_abs, y_lenL, y_lenT, y_lenS, y_lenB, y_truL, y_truT, y_inL, y_inT, y_ex1, y_exO, y_exR, at0, at1, at2, at3, isNon, List.getElem?_cons_succ, List.getElem?_cons_zero, List.set_cons_succ, List.set_cons_zero, List.length_cons, List.length_nil, List.map_cons, List.map_nil, true_and, and_true, decide_eq_true_eq, Bool.not_eq_true', Bool.not_true, Bool.not_false, if_true, if_false, Bool.false_eq_true, ite_true, ite_false])
    refine ⟨by omega, by omega, ?_⟩
    refine loopR (fun i ρ => ∃ (k : Nat) (ts : List Int) (y4 : Sl), ρ = [.rng k, .a (.d (chD c0)), .a (.d (chD d)), .own (ts.map PyData.int), y4, .un] ∧ ts.length = 40 + i ∧ k ≤ n + 10015 + i * 3) ⟨_, _, _, rfl, hl0, by omega⟩ (fun i ρ hi h => ?_) (fun ρ h => ?_)
    · obtain ⟨k, ts, y4, rfl, hl, hk⟩ := h
      have hi' : i < 20 := by simpa using hi
      (try simp only [y_var, y_c, y_op, y_un, y_and, y_or, y_not, y_if, y_isN, y_notN, y_bOf, y_bTru, y_bNot, y_bYes, y_aNil, y_aCons, y_aStar, y_tup, y_disp, y_fz, y_cb, y_cat, y_of, y_sl, y_dO0, y_dO1, y_ixN, y_lenN, y_chain, y_call0, y_call, y_callR0, y_next, y_brk, y_cnt, y_asg, y_setO, y_gNm, y_gTp, y_gsNil, y_gsCons, y_subO, y_par, y_aug, y_expr, y_app, y_ext, y_ifS, y_ret, y_retN, y_for, y_while, y_iSeq, y_iTp, y_iR1, y_iR2, y_iEn, y_iZp, y_lc, y_raise, y_un1, y_lRng, y_maxL, y_minL, y_swap, y_cmpO, y_call, Bool.true_eq_false, reduceCtorEq, decide_true, decide_false, ix2_0, ix2_1, ix3_0, ix3_1, ix3_2, LcRun, LpRun, wipeP, restP, noX, dite_true, List.nil_append, List.cons_append, Option.getD_some, Option.getD_none, y_repr, y_tupleL, y_tupleT, y_sum, y_all, y_any, y_eqD, y_neD, y_rev, y_dn, y_orT, y_notT, y_ins, y_bits, y_bAnd, y_bOr, y_rt0, y_rtR, y_nx0, y_rtX, y_nxX, y_exX, inV2, inV3, flatD, vOf, List.all_cons, List.all_nil, Bool.and_self, sz_iff, Nat.reduceAdd, Nat.reduceLeDiff, Nat.zero_add, y_dD, y_dB, y_dI, y_dL, y_dSl, y_dSt, y_dAll0, y_dAllS, dAll_map, y_I0, y_I, y_eqI, y_eqS, y_eqB, y_neI, y_neS, y_neB, y_neg, y_ixL, y_ixT, y_min, y_max, y_abs, y_lenL, y_lenT, y_lenS, y_lenB, y_truL, y_truT, y_inL, y_inT, y_ex1, y_exO, y_exR, at0, at1, at2, at3, isNon, List.getElem?_cons_succ, List.getElem?_cons_zero, List.set_cons_succ, List.set_cons_zero, List.length_cons, List.length_nil, List.map_cons, List.map_nil, true_and, and_true, decide_eq_true_eq, Bool.not_eq_true', Bool.not_true, Bool.not_false, if_true, if_false, Bool.false_eq_true, ite_true, ite_false])
      refine ⟨66, rfl, by omega, by omega, by decide, fun v v0 v1 => ?_⟩
      (try simp only [y_var, y_c, y_op, y_un, y_and, y_or, y_not, y_if, y_isN, y_notN, y_bOf, y_bTru, y_bNot, y_bYes, y_aNil, y_aCons, y_aStar, y_tup, y_disp, y_fz, y_cb, y_cat, y_of, y_sl, y_dO0, y_dO1, y_ixN, y_lenN, y_chain, y_call0, y_call, y_callR0, y_next, y_brk, y_cnt, y_asg, y_setO, y_gNm, y_gTp, y_gsNil, y_gsCons, y_subO, y_par, y_aug, y_expr, y_app, y_ext, y_ifS, y_ret, y_retN, y_for, y_while, y_iSeq, y_iTp, y_iR1, y_iR2, y_iEn, y_iZp, y_lc, y_raise, y_un1, y_lRng, y_maxL, y_minL, y_swap, y_cmpO, y_call, Bool.true_eq_false, reduceCtorEq, decide_true, decide_false, ix2_0, ix2_1, ix3_0, ix3_1, ix3_2, LcRun, LpRun, wipeP, restP, noX, dite_true, List.nil_append, List.cons_append, Option.getD_some, Option.getD_none, y_repr, y_tupleL, y_tupleT, y_sum, y_all, y_any, y_eqD, y_neD, y_rev, y_dn, y_orT, y_notT, y_ins, y_bits, y_bAnd, y_bOr, y_rt0, y_rtR, y_nx0, y_rtX, y_nxX, y_exX, inV2, inV3, flatD, vOf, List.all_cons, List.all_nil, Bool.and_self, sz_iff, Nat.reduceAdd, Nat.reduceLeDiff, Nat.zero_add, y_dD, y_dB, y_dI, y_dL, y_dSl, y_dSt, y_dAll0, y_dAllS, dAll_map, y_I0, y_I, y_eqI, y_eqS, y_eqB, y_neI, y_neS, y_neB, y_neg, y_ixL, y_ixT, y_min, y_max, y_abs, y_lenL, y_lenT, y_lenS, y_lenB, y_truL, y_truT, y_inL, y_inT, y_ex1, y_exO, y_exR, at0, at1, at2, at3, isNon, List.getElem?_cons_succ, List.getElem?_cons_zero, List.set_cons_succ, List.set_cons_zero, List.length_cons, List.length_nil, List.map_cons, List.map_nil, true_and, and_true, decide_eq_true_eq, Bool.not_eq_true', Bool.not_true, Bool.not_false, if_true, if_false, Bool.false_eq_true, ite_true, ite_false])
      refine ⟨v, rfl, v0, by omega, ?_⟩
      (try simp only [y_var, y_c, y_op, y_un, y_and, y_or, y_not, y_if, y_isN, y_notN, y_bOf, y_bTru, y_bNot, y_bYes, y_aNil, y_aCons, y_aStar, y_tup, y_disp, y_fz, y_cb, y_cat, y_of, y_sl, y_dO0, y_dO1, y_ixN, y_lenN, y_chain, y_call0, y_call, y_callR0, y_next, y_brk, y_cnt, y_asg, y_setO, y_gNm, y_gTp, y_gsNil, y_gsCons, y_subO, y_par, y_aug, y_expr, y_app, y_ext, y_ifS, y_ret, y_retN, y_for, y_while, y_iSeq, y_iTp, y_iR1, y_iR2, y_iEn, y_iZp, y_lc, y_raise, y_un1, y_lRng, y_maxL, y_minL, y_swap, y_cmpO, y_call, Bool.true_eq_false, reduceCtorEq, decide_true, decide_false, ix2_0, ix2_1, ix3_0, ix3_1, ix3_2, LcRun, LpRun, wipeP, restP, noX, dite_true, List.nil_append, List.cons_append, Option.getD_some, Option.getD_none, y_repr, y_tupleL, y_tupleT, y_sum, y_all, y_any, y_eqD, y_neD, y_rev, y_dn, y_orT, y_notT, y_ins, y_bits, y_bAnd, y_bOr, y_rt0, y_rtR, y_nx0, y_rtX, y_nxX, y_exX, inV2, inV3, flatD, vOf, List.all_cons, List.all_nil, Bool.and_self, sz_iff, Nat.reduceAdd, Nat.reduceLeDiff, Nat.zero_add, y_dD, y_dB, y_dI, y_dL, y_dSl, y_dSt, y_dAll0, y_dAllS, dAll_map, y_I0, y_I, y_eqI, y_eqS, y_eqB, y_neI, y_neS, y_neB, y_neg, y_ixL, y_ixT, y_min, y_max, y_abs, y_lenL, y_lenT, y_lenS, y_lenB, y_truL, y_truT, y_inL, y_inT, y_ex1, y_exO, y_exR, at0, at1, at2, at3, isNon, List.getElem?_cons_succ, List.getElem?_cons_zero, List.set_cons_succ, List.set_cons_zero, List.length_cons, List.length_nil, List.map_cons, List.map_nil, true_and, and_true, decide_eq_true_eq, Bool.not_eq_true', Bool.not_true, Bool.not_false, if_true, if_false, Bool.false_eq_true, ite_true, ite_false])
      refine ⟨5, rfl, by omega, by omega, by decide, fun v2 _ _ => ?_⟩
      (try simp only [y_var, y_c, y_op, y_un, y_and, y_or, y_not, y_if, y_isN, y_notN, y_bOf, y_bTru, y_bNot, y_bYes, y_aNil, y_aCons, y_aStar, y_tup, y_disp, y_fz, y_cb, y_cat, y_of, y_sl, y_dO0, y_dO1, y_ixN, y_lenN, y_chain, y_call0, y_call, y_callR0, y_next, y_brk, y_cnt, y_asg, y_setO, y_gNm, y_gTp, y_gsNil, y_gsCons, y_subO, y_par, y_aug, y_expr, y_app, y_ext, y_ifS, y_ret, y_retN, y_for, y_while, y_iSeq, y_iTp, y_iR1, y_iR2, y_iEn, y_iZp, y_lc, y_raise, y_un1, y_lRng, y_maxL, y_minL, y_swap, y_cmpO, y_call, Bool.true_eq_false, reduceCtorEq, decide_true, decide_false, ix2_0, ix2_1, ix3_0, ix3_1, ix3_2, LcRun, LpRun, wipeP, restP, noX, dite_true, List.nil_append, List.cons_append, Option.getD_some, Option.getD_none, y_repr, y_tupleL, y_tupleT, y_sum, y_all, y_any, y_eqD, y_neD, y_rev, y_dn, y_orT, y_notT, y_ins, y_bits, y_bAnd, y_bOr, y_rt0, y_rtR, y_nx0, y_rtX, y_nxX, y_exX, inV2, inV3, flatD, vOf, List.all_cons, List.all_nil, Bool.and_self, sz_iff, Nat.reduceAdd, Nat.reduceLeDiff, Nat.zero_add, y_dD, y_dB, y_dI, y_dL, y_dSl, y_dSt, y_dAll0, y_dAllS, dAll_map, y_I0, y_I, y_eqI, y_eqS, y_eqB, y_neI, y_neS, y_neB, y_neg, y_ixL, y_ixT, y_min, y_max, y_abs, y_lenL, y_lenT, y_lenS, y_lenB, y_truL, y_truT, y_inL, y_inT, y_ex1, y_exO, y_exR, at0, at1, at2, at3, isNon, List.getElem?_cons_succ, List.getElem?_cons_zero, List.set_cons_succ, List.set_cons_zero, List.length_cons, List.length_nil, List.map_cons, List.map_nil, true_and, and_true, decide_eq_true_eq, Bool.not_eq_true', Bool.not_true, Bool.not_false, if_true, if_false, Bool.false_eq_true, ite_true, ite_false])
      rw [t30']
      refine ⟨⟨by omega, by omega, by decide⟩, _, rfl, by omega, by omega, by decide, fun v3 _ _ => ?_⟩
      (try simp only [y_var, y_c, y_op, y_un, y_and, y_or, y_not, y_if, y_isN, y_notN, y_bOf, y_bTru, y_bNot, y_bYes, y_aNil, y_aCons, y_aStar, y_tup, y_disp, y_fz, y_cb, y_cat, y_of, y_sl, y_dO0, y_dO1, y_ixN, y_lenN, y_chain, y_call0, y_call, y_callR0, y_next, y_brk, y_cnt, y_asg, y_setO, y_gNm, y_gTp, y_gsNil, y_gsCons, y_subO, y_par, y_aug, y_expr, y_app, y_ext, y_ifS, y_ret, y_retN, y_for, y_while, y_iSeq, y_iTp, y_iR1, y_iR2, y_iEn, y_iZp, y_lc, y_raise, y_un1, y_lRng, y_maxL, y_minL, y_swap, y_cmpO, y_call, Bool.true_eq_false, reduceCtorEq, decide_true, decide_false, ix2_0, ix2_1, ix3_0, ix3_1, ix3_2, LcRun, LpRun, wipeP, restP, noX, dite_true, List.nil_append, List.cons_append, Option.getD_some, Option.getD_none, y_repr, y_tupleL, y_tupleT, y_sum, y_all, y_any, y_eqD, y_neD, y_rev, y_dn, y_orT, y_notT, y_ins, y_bits, y_bAnd, y_bOr, y_rt0, y_rtR, y_nx0, y_rtX, y_nxX, y_exX, inV2, inV3, flatD, vOf, List.all_cons, List.all_nil, Bool.and_self, sz_iff, Nat.reduceAdd, Nat.reduceLeDiff, Nat.zero_add, y_dD, y_dB, y_dI, y_dL, y_dSl, y_dSt, y_dAll0, y_dAllS, dAll_map, y_I0, y_I, y_eqI, y_eqS, y_eqB, y_neI, y_neS, y_neB, y_neg, y_ixL, y_ixT, y_min, y_max, y_abs, y_lenL, y_lenT, y_lenS, y_lenB, y_truL, y_truT, y_inL, y_inT, y_ex1, y_exO, y_exR, at0, at1, at2, at3, isNon, List.getElem?_cons_succ, List.getElem?_cons_zero, List.set_cons_succ, List.set_cons_zero, List.length_cons, List.length_nil, List.map_cons, List.map_nil, true_and, and_true, decide_eq_true_eq, Bool.not_eq_true', Bool.not_true, Bool.not_false, if_true, if_false, Bool.false_eq_true, ite_true, ite_false])
      refine ⟨szS (m := 100) (by rw [List.length_map]; omega) (by decide), ?_⟩
      rw [show ts.map PyData.int ++ [PyData.int (2 ^ v.toNat + v2 - 2 - v3)] = (ts ++ [2 ^ v.toNat + v2 - 2 - v3]).map PyData.int by rw [List.map_append]; rfl]
      exact ⟨k + 1 + 1 + 1, _, _, rfl, by rw [List.length_append, List.length_singleton]; omega, by omega⟩
    · obtain ⟨k, ts, y4, rfl, hl, hk⟩ := h
      have hl : ts.length = 60 := by rw [hl]; rfl
      have hk : k ≤ n + 10075 := by have e : (20 : Int).toNat = 20 := rfl; omega
      refine hNX _ ?_
      clear hNX NX
      refine y_cut fun NX hNX => ?_
      (try simp only [y_var, y_c, y_op, y_un, y_and, y_or, y_not, y_if, y_isN, y_notN, y_bOf, y_bTru, y_bNot, y_bYes, y_aNil, y_aCons, y_aStar, y_tup, y_disp, y_fz, y_cb, y_cat, y_of, y_sl, y_dO0, y_dO1, y_ixN, y_lenN, y_chain, y_call0, y_call, y_callR0, y_next, y_brk, y_cnt, y_asg, y_setO, y_gNm, y_gTp, y_gsNil, y_gsCons, y_subO, y_par, y_aug, y_expr, y_app, y_ext, y_ifS, y_ret, y_retN, y_for, y_while, y_iSeq, y_iTp, y_iR1, y_iR2, y_iEn, y_iZp, y_lc, y_raise, y_un1, y_lRng, y_maxL, y_minL, y_swap, y_cmpO, y_call, Bool.true_eq_false, reduceCtorEq, decide_true, decide_false, ix2_0, ix2_1, ix3_0, ix3_1, ix3_2, LcRun, LpRun, wipeP, restP, noX, dite_true, List.nil_append, List.cons_append, Option.getD_some, Option.getD_none, y_repr, y_tupleL, y_tupleT, y_sum, y_all, y_any, y_eqD, y_neD, y_rev, y_dn, y_orT, y_notT, y_ins, y_bits, y_bAnd, y_bOr, y_rt0, y_rtR, y_nx0, y_rtX, y_nxX, y_exX, inV2, inV3, flatD, vOf, List.all_cons, List.all_nil, Bool.and_self, sz_iff, Nat.reduceAdd, Nat.reduceLeDiff, Nat.zero_add, y_dD, y_dB, y_dI, y_dL, y_dSl, y_dSt, y_dAll0, y_dAllS, dAll_map, y_I0, y_I, y_eqI, y_eqS, y_eqB, y_neI, y_neS, y_neB, y_neg, y_ixL, y_ixT, y_min, y_max, y_abs, y_lenL, y_lenT, y_lenS, y_lenB, y_truL, y_truT, y_inL, y_inT, y_ex1, y_exO, y_exR, at0, at1, at2, at3, isNon, List.getElem?_cons_succ, List.getElem?_cons_zero, List.set_cons_succ, List.set_cons_zero, List.length_cons, List.length_nil, List.map_cons, List.map_nil, true_and, and_true, decide_eq_true_eq, Bool.not_eq_true', Bool.not_true, Bool.not_false, if_true, if_false, Bool.false_eq_true, ite_true, ite_false])
      rw [List.map_map]
      refine compF (xs := ts) (enc := Cc.A.d ∘ PyData.int) (fun y => if convI y c0 = convI y d then none else some (.int y)) (fun v hv => by simp only [List.mem_cons, List.not_mem_nil, or_false] at hv; first | (subst hv; exact trivial) | (rcases hv with rfl | rfl <;> exact trivial) | (rcases hv with rfl | rfl | rfl <;> exact trivial)) (by rw [hl, sizeLine_eq]; omega) (fun y hy acc KK hz hK => ?_) ?_
      · simp only [Function.comp_apply]
        (try simp only [y_var, y_c, y_op, y_un, y_and, y_or, y_not, y_if, y_isN, y_notN, y_bOf, y_bTru, y_bNot, y_bYes, y_aNil, y_aCons, y_aStar, y_tup, y_disp, y_fz, y_cb, y_cat, y_of, y_sl, y_dO0, y_dO1, y_ixN, y_lenN, y_chain, y_call0, y_call, y_callR0, y_next, y_brk, y_cnt, y_asg, y_setO, y_gNm, y_gTp, y_gsNil, y_gsCons, y_subO, y_par, y_aug, y_expr, y_app, y_ext, y_ifS, y_ret, y_retN, y_for, y_while, y_iSeq, y_iTp, y_iR1, y_iR2, y_iEn, y_iZp, y_lc, y_raise, y_un1, y_lRng, y_maxL, y_minL, y_swap, y_cmpO, y_call, Bool.true_eq_false, reduceCtorEq, decide_true, decide_false, ix2_0, ix2_1, ix3_0, ix3_1, ix3_2, LcRun, LpRun, wipeP, restP, noX, dite_true, List.nil_append, List.cons_append, Option.getD_some, Option.getD_none, y_repr, y_tupleL, y_tupleT, y_sum, y_all, y_any, y_eqD, y_neD, y_rev, y_dn, y_orT, y_notT, y_ins, y_bits, y_bAnd, y_bOr, y_rt0, y_rtR, y_nx0, y_rtX, y_nxX, y_exX, inV2, inV3, flatD, vOf, List.all_cons, List.all_nil, Bool.and_self, sz_iff, Nat.reduceAdd, Nat.reduceLeDiff, Nat.zero_add, y_dD, y_dB, y_dI, y_dL, y_dSl, y_dSt, y_dAll0, y_dAllS, dAll_map, y_I0, y_I, y_eqI, y_eqS, y_eqB, y_neI, y_neS, y_neB, y_neg, y_ixL, y_ixT, y_min, y_max, y_abs, y_lenL, y_lenT, y_lenS, y_lenB, y_truL, y_truT, y_inL, y_inT, y_ex1, y_exO, y_exR, at0, at1, at2, at3, isNon, List.getElem?_cons_succ, List.getElem?_cons_zero, List.set_cons_succ, List.set_cons_zero, List.length_cons, List.length_nil, List.map_cons, List.map_nil, true_and, and_true, decide_eq_true_eq, Bool.not_eq_true', Bool.not_true, Bool.not_false, if_true, if_false, Bool.false_eq_true, ite_true, ite_false])
        refine ⟨y, c0, rfl, hc.okM, ?_⟩
        (try simp only [y_var, y_c, y_op, y_un, y_and, y_or, y_not, y_if, y_isN, y_notN, y_bOf, y_bTru, y_bNot, y_bYes, y_aNil, y_aCons, y_aStar, y_tup, y_disp, y_fz, y_cb, y_cat, y_of, y_sl, y_dO0, y_dO1, y_ixN, y_lenN, y_chain, y_call0, y_call, y_callR0, y_next, y_brk, y_cnt, y_asg, y_setO, y_gNm, y_gTp, y_gsNil, y_gsCons, y_subO, y_par, y_aug, y_expr, y_app, y_ext, y_ifS, y_ret, y_retN, y_for, y_while, y_iSeq, y_iTp, y_iR1, y_iR2, y_iEn, y_iZp, y_lc, y_raise, y_un1, y_lRng, y_maxL, y_minL, y_swap, y_cmpO, y_call, Bool.true_eq_false, reduceCtorEq, decide_true, decide_false, ix2_0, ix2_1, ix3_0, ix3_1, ix3_2, LcRun, LpRun, wipeP, restP, noX, dite_true, List.nil_append, List.cons_append, Option.getD_some, Option.getD_none, y_repr, y_tupleL, y_tupleT, y_sum, y_all, y_any, y_eqD, y_neD, y_rev, y_dn, y_orT, y_notT, y_ins, y_bits, y_bAnd, y_bOr, y_rt0, y_rtR, y_nx0, y_rtX, y_nxX, y_exX, inV2, inV3, flatD, vOf, List.all_cons, List.all_nil, Bool.and_self, sz_iff, Nat.reduceAdd, Nat.reduceLeDiff, Nat.zero_add, y_dD, y_dB, y_dI, y_dL, y_dSl, y_dSt, y_dAll0, y_dAllS, dAll_map, y_I0, y_I, y_eqI, y_eqS, y_eqB, y_neI, y_neS, y_neB, y_neg, y_ixL, y_ixT, y_min, y_max, y_abs, y_lenL, y_lenT, y_lenS, y_lenB, y_truL, y_truT, y_inL, y_inT, y_ex1, y_exO, y_exR, at0, at1, at2, at3, isNon, List.getElem?_cons_succ, List.getElem?_cons_zero, List.set_cons_succ, List.set_cons_zero, List.length_cons, List.length_nil, List.map_cons, List.map_nil, true_and, and_true, decide_eq_true_eq, Bool.not_eq_true', Bool.not_true, Bool.not_false, if_true, if_false, Bool.false_eq_true, ite_true, ite_false])
        refine ⟨y, d, rfl, hd.okM, ?_⟩
        (try simp only [y_var, y_c, y_op, y_un, y_and, y_or, y_not, y_if, y_isN, y_notN, y_bOf, y_bTru, y_bNot, y_bYes, y_aNil, y_aCons, y_aStar, y_tup, y_disp, y_fz, y_cb, y_cat, y_of, y_sl, y_dO0, y_dO1, y_ixN, y_lenN, y_chain, y_call0, y_call, y_callR0, y_next, y_brk, y_cnt, y_asg, y_setO, y_gNm, y_gTp, y_gsNil, y_gsCons, y_subO, y_par, y_aug, y_expr, y_app, y_ext, y_ifS, y_ret, y_retN, y_for, y_while, y_iSeq, y_iTp, y_iR1, y_iR2, y_iEn, y_iZp, y_lc, y_raise, y_un1, y_lRng, y_maxL, y_minL, y_swap, y_cmpO, y_call, Bool.true_eq_false, reduceCtorEq, decide_true, decide_false, ix2_0, ix2_1, ix3_0, ix3_1, ix3_2, LcRun, LpRun, wipeP, restP, noX, dite_true, List.nil_append, List.cons_append, Option.getD_some, Option.getD_none, y_repr, y_tupleL, y_tupleT, y_sum, y_all, y_any, y_eqD, y_neD, y_rev, y_dn, y_orT, y_notT, y_ins, y_bits, y_bAnd, y_bOr, y_rt0, y_rtR, y_nx0, y_rtX, y_nxX, y_exX, inV2, inV3, flatD, vOf, List.all_cons, List.all_nil, Bool.and_self, sz_iff, Nat.reduceAdd, Nat.reduceLeDiff, Nat.zero_add, y_dD, y_dB, y_dI, y_dL, y_dSl, y_dSt, y_dAll0, y_dAllS, dAll_map, y_I0, y_I, y_eqI, y_eqS, y_eqB, y_neI, y_neS, y_neB, y_neg, y_ixL, y_ixT, y_min, y_max, y_abs, y_lenL, y_lenT, y_lenS, y_lenB, y_truL, y_truT, y_inL, y_inT, y_ex1, y_exO, y_exR, at0, at1, at2, at3, isNon, List.getElem?_cons_succ, List.getElem?_cons_zero, List.set_cons_succ, List.set_cons_zero, List.length_cons, List.length_nil, List.map_cons, List.map_nil, true_and, and_true, decide_eq_true_eq, Bool.not_eq_true', Bool.not_true, Bool.not_false, if_true, if_false, Bool.false_eq_true, ite_true, ite_false])
        by_cases e : convI y c0 = convI y d
        · rw [if_pos e] at hK
          rw [if_neg (by simpa using e)]
          exact hK
        · rw [if_neg e] at hK
          rw [if_pos (by simpa using e)]
          exact ⟨hz, hK⟩
      · (try simp only [y_var, y_c, y_op, y_un, y_and, y_or, y_not, y_if, y_isN, y_notN, y_bOf, y_bTru, y_bNot, y_bYes, y_aNil, y_aCons, y_aStar, y_tup, y_disp, y_fz, y_cb, y_cat, y_of, y_sl, y_dO0, y_dO1, y_ixN, y_lenN, y_chain, y_call0, y_call, y_callR0, y_next, y_brk, y_cnt, y_asg, y_setO, y_gNm, y_gTp, y_gsNil, y_gsCons, y_subO, y_par, y_aug, y_expr, y_app, y_ext, y_ifS, y_ret, y_retN, y_for, y_while, y_iSeq, y_iTp, y_iR1, y_iR2, y_iEn, y_iZp, y_lc, y_raise, y_un1, y_lRng, y_maxL, y_minL, y_swap, y_cmpO, y_call, Bool.true_eq_false, reduceCtorEq, decide_true, decide_false, ix2_0, ix2_1, ix3_0, ix3_1, ix3_2, LcRun, LpRun, wipeP, restP, noX, dite_true, List.nil_append, List.cons_append, Option.getD_some, Option.getD_none, y_repr, y_tupleL, y_tupleT, y_sum, y_all, y_any, y_eqD, y_neD, y_rev, y_dn, y_orT, y_notT, y_ins, y_bits, y_bAnd, y_bOr, y_rt0, y_rtR, y_nx0, y_rtX, y_nxX, y_exX, inV2, inV3, flatD, vOf, List.all_cons, List.all_nil, Bool.and_self, sz_iff, Nat.reduceAdd, Nat.reduceLeDiff, Nat.zero_add, y_dD, y_dB, y_dI, y_dL, y_dSl, y_dSt, y_dAll0, y_dAllS, dAll_map, y_I0, y_I, y_eqI, y_eqS, y_eqB, y_neI, y_neS, y_neB, y_neg, y_ixL, y_ixT, y_min, y_max, y_abs, y_lenL, y_lenT, y_lenS, y_lenB, y_truL, y_truT, y_inL, y_inT, y_ex1, y_exO, y_exR, at0, at1, at2, at3, isNon, List.getElem?_cons_succ, List.getElem?_cons_zero, List.set_cons_succ, List.set_cons_zero, List.length_cons, List.length_nil, List.map_cons, List.map_nil, true_and, and_true, decide_eq_true_eq, Bool.not_eq_true', Bool.not_true, Bool.not_false, if_true, if_false, Bool.false_eq_true, ite_true, ite_false])
        have eF : ∀ ts : List Int, ts.filterMap (fun y => if convI y c0 = convI y d then none else some (PyData.int y)) = (ts.filter fun y => !decide (convI y c0 = convI y d)).map PyData.int := fun ts => by
          induction ts with
          | nil => rfl
          | cons y ts ih =>
            rw [List.filterMap_cons, List.filter_cons]
            by_cases e : convI y c0 = convI y d
            · rw [if_pos e, decide_eq_true e, if_neg (by decide)]
              exact ih
            · rw [if_neg e, decide_eq_false e, if_pos (by decide), List.map_cons]
              show _ :: _ = _
              rw [ih]
        rw [eF]
        refine ⟨shL0 _, shE, ?_⟩
        rw [eqvL0]
        cases hE : (ts.filter fun y => !decide (convI y c0 = convI y d)).isEmpty with
        | true =>
          rw [if_pos rfl]
          refine ⟨c0, d, rfl, bc, bd, fc, fd, fun b hb => ?_⟩
          (try simp only [y_var, y_c, y_op, y_un, y_and, y_or, y_not, y_if, y_isN, y_notN, y_bOf, y_bTru, y_bNot, y_bYes, y_aNil, y_aCons, y_aStar, y_tup, y_disp, y_fz, y_cb, y_cat, y_of, y_sl, y_dO0, y_dO1, y_ixN, y_lenN, y_chain, y_call0, y_call, y_callR0, y_next, y_brk, y_cnt, y_asg, y_setO, y_gNm, y_gTp, y_gsNil, y_gsCons, y_subO, y_par, y_aug, y_expr, y_app, y_ext, y_ifS, y_ret, y_retN, y_for, y_while, y_iSeq, y_iTp, y_iR1, y_iR2, y_iEn, y_iZp, y_lc, y_raise, y_un1, y_lRng, y_maxL, y_minL, y_swap, y_cmpO, y_call, Bool.true_eq_false, reduceCtorEq, decide_true, decide_false, ix2_0, ix2_1, ix3_0, ix3_1, ix3_2, LcRun, LpRun, wipeP, restP, noX, dite_true, List.nil_append, List.cons_append, Option.getD_some, Option.getD_none, y_repr, y_tupleL, y_tupleT, y_sum, y_all, y_any, y_eqD, y_neD, y_rev, y_dn, y_orT, y_notT, y_ins, y_bits, y_bAnd, y_bOr, y_rt0, y_rtR, y_nx0, y_rtX, y_nxX, y_exX, inV2, inV3, flatD, vOf, List.all_cons, List.all_nil, Bool.and_self, sz_iff, Nat.reduceAdd, Nat.reduceLeDiff, Nat.zero_add, y_dD, y_dB, y_dI, y_dL, y_dSl, y_dSt, y_dAll0, y_dAllS, dAll_map, y_I0, y_I, y_eqI, y_eqS, y_eqB, y_neI, y_neS, y_neB, y_neg, y_ixL, y_ixT, y_min, y_max, y_abs, y_lenL, y_lenT, y_lenS, y_lenB, y_truL, y_truT, y_inL, y_inT, y_ex1, y_exO, y_exR, at0, at1, at2, at3, isNon, List.getElem?_cons_succ, List.getElem?_cons_zero, List.set_cons_succ, List.set_cons_zero, List.length_cons, List.length_nil, List.map_cons, List.map_nil, true_and, and_true, decide_eq_true_eq, Bool.not_eq_true', Bool.not_true, Bool.not_false, if_true, if_false, Bool.false_eq_true, ite_true, ite_false])
          refine ⟨c0, rfl, bc, fc, ?_⟩
          (try simp only [y_var, y_c, y_op, y_un, y_and, y_or, y_not, y_if, y_isN, y_notN, y_bOf, y_bTru, y_bNot, y_bYes, y_aNil, y_aCons, y_aStar, y_tup, y_disp, y_fz, y_cb, y_cat, y_of, y_sl, y_dO0, y_dO1, y_ixN, y_lenN, y_chain, y_call0, y_call, y_callR0, y_next, y_brk, y_cnt, y_asg, y_setO, y_gNm, y_gTp, y_gsNil, y_gsCons, y_subO, y_par, y_aug, y_expr, y_app, y_ext, y_ifS, y_ret, y_retN, y_for, y_while, y_iSeq, y_iTp, y_iR1, y_iR2, y_iEn, y_iZp, y_lc, y_raise, y_un1, y_lRng, y_maxL, y_minL, y_swap, y_cmpO, y_call, Bool.true_eq_false, reduceCtorEq, decide_true, decide_false, ix2_0, ix2_1, ix3_0, ix3_1, ix3_2, LcRun, LpRun, wipeP, restP, noX, dite_true, List.nil_append, List.cons_append, Option.getD_some, Option.getD_none, y_repr, y_tupleL, y_tupleT, y_sum, y_all, y_any, y_eqD, y_neD, y_rev, y_dn, y_orT, y_notT, y_ins, y_bits, y_bAnd, y_bOr, y_rt0, y_rtR, y_nx0, y_rtX, y_nxX, y_exX, inV2, inV3, flatD, vOf, List.all_cons, List.all_nil, Bool.and_self, sz_iff, Nat.reduceAdd, Nat.reduceLeDiff, Nat.zero_add, y_dD, y_dB, y_dI, y_dL, y_dSl, y_dSt, y_dAll0, y_dAllS, dAll_map, y_I0, y_I, y_eqI, y_eqS, y_eqB, y_neI, y_neS, y_neB, y_neg, y_ixL, y_ixT, y_min, y_max, y_abs, y_lenL, y_lenT, y_lenS, y_lenB, y_truL, y_truT, y_inL, y_inT, y_ex1, y_exO, y_exR, at0, at1, at2, at3, isNon, List.getElem?_cons_succ, List.getElem?_cons_zero, List.set_cons_succ, List.set_cons_zero, List.length_cons, List.length_nil, List.map_cons, List.map_nil, true_and, and_true, decide_eq_true_eq, Bool.not_eq_true', Bool.not_true, Bool.not_false, if_true, if_false, Bool.false_eq_true, ite_true, ite_false])
          refine ⟨d, rfl, bd, fd, ?_⟩
          (try simp only [y_var, y_c, y_op, y_un, y_and, y_or, y_not, y_if, y_isN, y_notN, y_bOf, y_bTru, y_bNot, y_bYes, y_aNil, y_aCons, y_aStar, y_tup, y_disp, y_fz, y_cb, y_cat, y_of, y_sl, y_dO0, y_dO1, y_ixN, y_lenN, y_chain, y_call0, y_call, y_callR0, y_next, y_brk, y_cnt, y_asg, y_setO, y_gNm, y_gTp, y_gsNil, y_gsCons, y_subO, y_par, y_aug, y_expr, y_app, y_ext, y_ifS, y_ret, y_retN, y_for, y_while, y_iSeq, y_iTp, y_iR1, y_iR2, y_iEn, y_iZp, y_lc, y_raise, y_un1, y_lRng, y_maxL, y_minL, y_swap, y_cmpO, y_call, Bool.true_eq_false, reduceCtorEq, decide_true, decide_false, ix2_0, ix2_1, ix3_0, ix3_1, ix3_2, LcRun, LpRun, wipeP, restP, noX, dite_true, List.nil_append, List.cons_append, Option.getD_some, Option.getD_none, y_repr, y_tupleL, y_tupleT, y_sum, y_all, y_any, y_eqD, y_neD, y_rev, y_dn, y_orT, y_notT, y_ins, y_bits, y_bAnd, y_bOr, y_rt0, y_rtR, y_nx0, y_rtX, y_nxX, y_exX, inV2, inV3, flatD, vOf, List.all_cons, List.all_nil, Bool.and_self, sz_iff, Nat.reduceAdd, Nat.reduceLeDiff, Nat.zero_add, y_dD, y_dB, y_dI, y_dL, y_dSl, y_dSt, y_dAll0, y_dAllS, dAll_map, y_I0, y_I, y_eqI, y_eqS, y_eqB, y_neI, y_neS, y_neB, y_neg, y_ixL, y_ixT, y_min, y_max, y_abs, y_lenL, y_lenT, y_lenS, y_lenB, y_truL, y_truT, y_inL, y_inT, y_ex1, y_exO, y_exR, at0, at1, at2, at3, isNon, List.getElem?_cons_succ, List.getElem?_cons_zero, List.set_cons_succ, List.set_cons_zero, List.length_cons, List.length_nil, List.map_cons, List.map_nil, true_and, and_true, decide_eq_true_eq, Bool.not_eq_true', Bool.not_true, Bool.not_false, if_true, if_false, Bool.false_eq_true, ite_true, ite_false])
          refine ⟨fm_sh _, fm_sh _, ?_⟩
          have ef : (fmD (formS (spreadS c0))).eqv (fmD (formS (spreadS d))) = b := by
            rw [Bool.eq_iff_iff, hb, ← form_iff fc fd]
            exact ⟨eqv_fm, fun e => by rw [e]; exact eqv_same (fm_sh _)⟩
          rw [ef]
          (try simp only [y_var, y_c, y_op, y_un, y_and, y_or, y_not, y_if, y_isN, y_notN, y_bOf, y_bTru, y_bNot, y_bYes, y_aNil, y_aCons, y_aStar, y_tup, y_disp, y_fz, y_cb, y_cat, y_of, y_sl, y_dO0, y_dO1, y_ixN, y_lenN, y_chain, y_call0, y_call, y_callR0, y_next, y_brk, y_cnt, y_asg, y_setO, y_gNm, y_gTp, y_gsNil, y_gsCons, y_subO, y_par, y_aug, y_expr, y_app, y_ext, y_ifS, y_ret, y_retN, y_for, y_while, y_iSeq, y_iTp, y_iR1, y_iR2, y_iEn, y_iZp, y_lc, y_raise, y_un1, y_lRng, y_maxL, y_minL, y_swap, y_cmpO, y_call, Bool.true_eq_false, reduceCtorEq, decide_true, decide_false, ix2_0, ix2_1, ix3_0, ix3_1, ix3_2, LcRun, LpRun, wipeP, restP, noX, dite_true, List.nil_append, List.cons_append, Option.getD_some, Option.getD_none, y_repr, y_tupleL, y_tupleT, y_sum, y_all, y_any, y_eqD, y_neD, y_rev, y_dn, y_orT, y_notT, y_ins, y_bits, y_bAnd, y_bOr, y_rt0, y_rtR, y_nx0, y_rtX, y_nxX, y_exX, inV2, inV3, flatD, vOf, List.all_cons, List.all_nil, Bool.and_self, sz_iff, Nat.reduceAdd, Nat.reduceLeDiff, Nat.zero_add, y_dD, y_dB, y_dI, y_dL, y_dSl, y_dSt, y_dAll0, y_dAllS, dAll_map, y_I0, y_I, y_eqI, y_eqS, y_eqB, y_neI, y_neS, y_neB, y_neg, y_ixL, y_ixT, y_min, y_max, y_abs, y_lenL, y_lenT, y_lenS, y_lenB, y_truL, y_truT, y_inL, y_inT, y_ex1, y_exO, y_exR, at0, at1, at2, at3, isNon, List.getElem?_cons_succ, List.getElem?_cons_zero, List.set_cons_succ, List.set_cons_zero, List.length_cons, List.length_nil, List.map_cons, List.map_nil, true_and, and_true, decide_eq_true_eq, Bool.not_eq_true', Bool.not_true, Bool.not_false, if_true, if_false, Bool.false_eq_true, ite_true, ite_false])
          exact q _ (by omega)
        | false =>
          rw [if_neg (by decide)]
          refine hNX _ ?_
          clear hNX NX
          (try simp only [y_var, y_c, y_op, y_un, y_and, y_or, y_not, y_if, y_isN, y_notN, y_bOf, y_bTru, y_bNot, y_bYes, y_aNil, y_aCons, y_aStar, y_tup, y_disp, y_fz, y_cb, y_cat, y_of, y_sl, y_dO0, y_dO1, y_ixN, y_lenN, y_chain, y_call0, y_call, y_callR0, y_next, y_brk, y_cnt, y_asg, y_setO, y_gNm, y_gTp, y_gsNil, y_gsCons, y_subO, y_par, y_aug, y_expr, y_app, y_ext, y_ifS, y_ret, y_retN, y_for, y_while, y_iSeq, y_iTp, y_iR1, y_iR2, y_iEn, y_iZp, y_lc, y_raise, y_un1, y_lRng, y_maxL, y_minL, y_swap, y_cmpO, y_call, Bool.true_eq_false, reduceCtorEq, decide_true, decide_false, ix2_0, ix2_1, ix3_0, ix3_1, ix3_2, LcRun, LpRun, wipeP, restP, noX, dite_true, List.nil_append, List.cons_append, Option.getD_some, Option.getD_none, y_repr, y_tupleL, y_tupleT, y_sum, y_all, y_any, y_eqD, y_neD, y_rev, y_dn, y_orT, y_notT, y_ins, y_bits, y_bAnd, y_bOr, y_rt0, y_rtR, y_nx0, y_rtX, y_nxX, y_exX, inV2, inV3, flatD, vOf, List.all_cons, List.all_nil, Bool.and_self, sz_iff, Nat.reduceAdd, Nat.reduceLeDiff, Nat.zero_add, y_dD, y_dB, y_dI, y_dL, y_dSl, y_dSt, y_dAll0, y_dAllS, dAll_map, y_I0, y_I, y_eqI, y_eqS, y_eqB, y_neI, y_neS, y_neB, y_neg, y_ixL, y_ixT, y_min, y_max, y_abs, y_lenL, y_lenT, y_lenS, y_lenB, y_truL, y_truT, y_inL, y_inT, y_ex1, y_exO, y_exR, at0, at1, at2, at3, isNon, List.getElem?_cons_succ, List.getElem?_cons_zero, List.set_cons_succ, List.set_cons_zero, List.length_cons, List.length_nil, List.map_cons, List.map_nil, true_and, and_true, decide_eq_true_eq, Bool.not_eq_true', Bool.not_true, Bool.not_false, if_true, if_false, Bool.false_eq_true, ite_true, ite_false])
          refine ⟨c0, d, rfl, bc, bd, fc, fd, fun b hb => ?_⟩
          (try simp only [y_var, y_c, y_op, y_un, y_and, y_or, y_not, y_if, y_isN, y_notN, y_bOf, y_bTru, y_bNot, y_bYes, y_aNil, y_aCons, y_aStar, y_tup, y_disp, y_fz, y_cb, y_cat, y_of, y_sl, y_dO0, y_dO1, y_ixN, y_lenN, y_chain, y_call0, y_call, y_callR0, y_next, y_brk, y_cnt, y_asg, y_setO, y_gNm, y_gTp, y_gsNil, y_gsCons, y_subO, y_par, y_aug, y_expr, y_app, y_ext, y_ifS, y_ret, y_retN, y_for, y_while, y_iSeq, y_iTp, y_iR1, y_iR2, y_iEn, y_iZp, y_lc, y_raise, y_un1, y_lRng, y_maxL, y_minL, y_swap, y_cmpO, y_call, Bool.true_eq_false, reduceCtorEq, decide_true, decide_false, ix2_0, ix2_1, ix3_0, ix3_1, ix3_2, LcRun, LpRun, wipeP, restP, noX, dite_true, List.nil_append, List.cons_append, Option.getD_some, Option.getD_none, y_repr, y_tupleL, y_tupleT, y_sum, y_all, y_any, y_eqD, y_neD, y_rev, y_dn, y_orT, y_notT, y_ins, y_bits, y_bAnd, y_bOr, y_rt0, y_rtR, y_nx0, y_rtX, y_nxX, y_exX, inV2, inV3, flatD, vOf, List.all_cons, List.all_nil, Bool.and_self, sz_iff, Nat.reduceAdd, Nat.reduceLeDiff, Nat.zero_add, y_dD, y_dB, y_dI, y_dL, y_dSl, y_dSt, y_dAll0, y_dAllS, dAll_map, y_I0, y_I, y_eqI, y_eqS, y_eqB, y_neI, y_neS, y_neB, y_neg, y_ixL, y_ixT, y_min, y_max, y_abs, y_lenL, y_lenT, y_lenS, y_lenB, y_truL, y_truT, y_inL, y_inT, y_ex1, y_exO, y_exR, at0, at1, at2, at3, isNon, List.getElem?_cons_succ, List.getElem?_cons_zero, List.set_cons_succ, List.set_cons_zero, List.length_cons, List.length_nil, List.map_cons, List.map_nil, true_and, and_true, decide_eq_true_eq, Bool.not_eq_true', Bool.not_true, Bool.not_false, if_true, if_false, Bool.false_eq_true, ite_true, ite_false])
          have eb : b = false := by
            cases hbb : b with
            | false => rfl
            | true =>
              exfalso
              have all := hb.mp hbb
              have : (ts.filter fun y => !decide (convI y c0 = convI y d)) = [] := List.filter_eq_nil_iff.mpr fun y _ => by simpa using all y
              rw [this] at hE
              cases hE
          subst eb
          exact q _ (by omega)
end

end Cc

set_option Elab.async false
set_option linter.all false
set_option maxRecDepth 100000
set_option maxHeartbeats 4000000
namespace Cc
open PySem PySem.Spec PyProof.Rows L2
abbrev s_law : Stmt := topS 30
theorem sc_law : FnScope ["script", "at", "pool", "turn"] ["script"] (defScope s_law) := ⟨rfl, rfl, rfl, by decide +kernel, rfl, by decide +kernel, by decide +kernel⟩
section
variable {P : Program} {w : World} {K : PySem.W.Frag} {mg : Str → Option Value} {base : Heap} {C fI : Nat → Addr} {fd : Nat → FuncData} {C0 CS : Addr}
def spRight : Sp := fun vs H Q _ => ∃ (r : Addr) (n : Nat), vs = [.ref r] ∧ RngAt H r n ∧ n < 50000000 ∧ ∀ H' m, m ≤ n + 30000 → RngAt H' r m → Oth r H H' → Q (.bl true) H'
theorem right_hand {x : Str} {k : Nat} (h : Pr P w K mg base CX0 k x ["pool"] (spP (poolG K C CS) true phRight)) : Pr P w K mg base CX0 k x ["pool"] spRight :=
  h.weak fun vs H Q E ⟨r, n, e, R, hn, q⟩ => by
    refine ⟨fun b => b = r, r, fun _ => none, n, [], [], fun x n' => x = .d (.bool true) ∧ n' ≤ n + 30000, fun _ _ _ => False, e, trivial, fun _ _ z => (nomatch z), fun b hb => ⟨rfl, fun z => ?_⟩, fun _ _ z => (nomatch z), fun _ => ⟨fun _ => Iff.rfl, R⟩, (fun z => Bool.noConfusion z), ⟨rfl, by omega, fun m hm => ⟨rfl, hm⟩⟩, fun x n' v F' H' hx s hv => ?_, fun _ _ _ _ _ _ _ z => z.elim⟩
    · obtain ⟨_, _, _, e, _⟩ := R
      rw [show b = r from hb, e] at z
      cases z
    · obtain ⟨rfl, hm⟩ := hx
      cases hv
      exact q H' n' hm (s.at_ rfl).2 fun b o hb hH => s.chg b o hH hb
def exA : Ch := [("add", 128), ("u", 8), ("add", -128)]
def exB : Ch := [("s", 8)]
def spTold (K : PySem.W.Frag) : Sp := fun vs H Q _ => ∃ u v, vs = [u, v] ∧ Dq K H u (chD exA) ∧ Dq K H v (chD exB) ∧ ∀ H', Q (.bl true) H'
theorem ex_same (y : Int) : convI y exA = convI y exB := (two_ways (n := 8) (by decide)).1 y
theorem o_told (h : Pr P w K mg base (L2.CX P w) 7 "same_function" ["first", "second"] (spP (poolG K C CS) false phSame)) : Pr P w K mg base (L2.CX P w) 7 "same_function" ["first", "second"] (spTold K) :=
  h.weak fun vs H Q E ⟨u, v, e, h1, h2, q⟩ => by
    have kA : chB 3 128 exA := ⟨by decide, by decide +kernel⟩
    have kB : chB 1 128 exB := ⟨by decide, by decide +kernel⟩
    obtain ⟨ba, fa⟩ := kA.bnd (by omega)
    obtain ⟨bb, fb⟩ := kB.bnd (by omega)
    refine ⟨fun _ => False, 0, filt (fun _ => none) H, 0, [.d (chD exA), .d (chD exB)], [u, v], fun x _ => x = .d (.bool true), fun _ _ _ => False, e, ⟨Dq.filt (Γ := poolG K C CS) _ h1, Dq.filt (Γ := poolG K C CS) _ h2, trivial⟩, filt_sub, fun b z => z.elim, filt_cl (fun _ _ z => (nomatch z)) (fun _ _ z => (nomatch z)), (fun z => Bool.noConfusion z), (fun _ _ z => z), ⟨_, _, rfl, ba, bb, fa, fb, fun b hb => by rw [hb.mpr ex_same]⟩, fun x n' v F' H' hx s hv => ?_, fun _ _ _ _ _ _ _ z => z.elim⟩
    have hx : x = .d (.bool true) := hx
    subst hx
    cases hv
    exact q H'
def spLaw (K : PySem.W.Frag) : Sp := fun vs H Q _ => ∃ (a : Addr) (ns : List Int), vs = [.ref a] ∧ SqL K H a (ns.map V.int) ∧ ns.length ≤ 63 ∧ ∀ H', Q (.bl true) H'
theorem rng_sq {H H1 H' : Hp} {r a : Addr} {xs : List V} (nr : H r = none) (s : Same H H1) (o : Oth r H1 H') (h : SqL K H a xs) : SqL K H' a xs := by
  have ne : ∀ {u : HO}, H a = some u → a ≠ r := fun h z => by rw [z, nr] at h; cases h
  rcases h with (h | ⟨u, h⟩) | h
  · exact .inl (.inl (o _ _ (ne h) (s _ _ h)))
  · exact .inl (.inr ⟨u, o _ _ (ne h) (s _ _ h)⟩)
  · exact .inr h
theorem p_law (m_range : mg "range" = none) (m_max : mg "max" = none) (m_min : mg "min" = none) (m_len : mg "len" = none) (h__law_pool : Pr P w K mg base CX0 1 "_law_pool" ["script", "at"] (spPool K)) (h__law_right : Pr P w K mg base CX0 8 "_law_right" ["pool"] spRight) (h__law_wide_right : Pr P w K mg base CX0 8 "_law_wide_right" ["pool"] spRight)
    (h_same_function : Pr P w K mg base (L2.CX P w) 7 "same_function" ["first", "second"] (spTold K)) : PrAt P w K mg base CX0 9 "law" s_law ["script"] (spLaw K) := by
  refine mkA sc_law (fun vs H Q E h => ?_) (fun f cdv A outer s H vs Q E hG hr h => ?_)
  · obtain ⟨_, _, rfl, _⟩ := h
    rfl
  · obtain ⟨a, ns, rfl, hS, hl, q⟩ := h
    have nd := sc_law.nd
    refine ⟨_, (pss_cons (ps_for PassesOwn.never rfl (pi_range1 rfl m_range (pa_cons (pe_callB (call_max2 rfl) (by rfl) m_max (by decide +kernel) (pa_cons pe_int (pa_cons (pe_callB (call_min2 rfl) (by rfl) m_min (by decide +kernel) (pa_cons pe_int (pa_cons (pe_callB call_len_seq (by rfl) m_len (by decide +kernel) (pa_cons (pv 0) pa_nil)) pa_nil))) pa_nil))) pa_nil)) (pg_name (i := 1) nd rfl (.inl rfl)) (pss_cons (ps_set (i := 2) nd rfl (.inl rfl) (pe_P h__law_pool hr hG (by rfl) (pa_cons (pv 0) (pa_cons (pv 1) pa_nil)))) (pss_one (ps_for PassesOwn.never rfl (pi_range1 rfl m_range (pa_cons pe_int pa_nil)) (pg_name (i := 3) nd rfl (.inl rfl)) (pss_one (ps_if (PW.pt (pw_or (pt_not (pt_val (pe_P h__law_right hr hG (by rfl) (pa_cons (pv 2) pa_nil)))) (pw_or1 (pt_not (pt_val (pe_P h__law_wide_right hr hG (by rfl) (pa_cons (pv 2) pa_nil))))))) (pss_one (ps_ret pe_bl)) pss_nil)))))) (pss_one (ps_ret (pe_PX h_same_function hr hG (by rfl) takes0 (pa_cons (pe_lst (pa_cons (pe_tup (pa_cons pe_str (pa_cons pe_int pa_nil))) (pa_cons (pe_tup (pa_cons pe_str (pa_cons pe_int pa_nil))) (pa_cons (pe_tup (pa_cons pe_str (pa_cons (pe_un un_neg pe_int) pa_nil))) pa_nil)))) (pa_cons (pe_lst (pa_cons (pe_tup (pa_cons pe_str (pa_cons pe_int pa_nil))) pa_nil)) pa_nil)))))), ?_⟩
    show (tSeq _ _) _ [some (V.ref a), none, none, none] H
    refine x_seq.mpr ?_
    (try simp only [x_asg, x_mkV, x_value, x_lcR1, x_lcL, List.map_cons, List.map_nil, x_yes, x_wipe0, x_wipeS, x_rs, x_callS, x_callKS, x_fld, x_sfld, x_meth, x_make, x_fldaug, x_BM0, x_rAdd, x_retN, x_name, x_sub, x_ret, x_next, x_ifS, x_ite, x_iteN, x_T, x_F, x_tT, x_tF, x_op, x_un, x_var0, x_varS, x_c, x_I0, x_I, x_rU, x_nil, x_cons, x_test, x_B, x_bl, x_call, x_CB, x_tup, x_lst, x_not, x_Eq, x_Ne, x_eqII, x_eqSS, x_eqBB,  x_and, x_or, x_andV, x_orV, x_notV, x_if, x_par, x_two, x_drop, x_BM, x_set0, x_setS, x_gcons, x_gnil, x_forL, x_forT, x_forR1, x_forR2, x_forE, x_ref, x_int1, x_oneI, x_oneB, x_noBI, x_twoI, false_or, x_sl, x_noP, x_part, true_and, List.append_nil, cxK, cxKn]; try simp only [V.str.injEq, V.int.injEq, V.bl.injEq])
    refine ⟨a, _, rfl, .inl hS, ?_⟩
    have hl2 : (ns.map V.int).length = ns.length := List.length_map ..
    (try simp only [x_asg, x_mkV, x_value, x_lcR1, x_lcL, List.map_cons, List.map_nil, x_yes, x_wipe0, x_wipeS, x_rs, x_callS, x_callKS, x_fld, x_sfld, x_meth, x_make, x_fldaug, x_BM0, x_rAdd, x_retN, x_name, x_sub, x_ret, x_next, x_ifS, x_ite, x_iteN, x_T, x_F, x_tT, x_tF, x_op, x_un, x_var0, x_varS, x_c, x_I0, x_I, x_rU, x_nil, x_cons, x_test, x_B, x_bl, x_call, x_CB, x_tup, x_lst, x_not, x_Eq, x_Ne, x_eqII, x_eqSS, x_eqBB,  x_and, x_or, x_andV, x_orV, x_notV, x_if, x_par, x_two, x_drop, x_BM, x_set0, x_setS, x_gcons, x_gnil, x_forL, x_forT, x_forR1, x_forR2, x_forE, x_ref, x_int1, x_oneI, x_oneB, x_noBI, x_twoI, false_or, x_sl, x_noP, x_part, true_and, List.append_nil, cxK, cxKn]; try simp only [V.str.injEq, V.int.injEq, V.bl.injEq])
    have hl3 : (((ns.map V.int).length : Nat) : Int) ≤ 63 := by rw [List.length_map]; omega
    have hl4 : (0 : Int) ≤ (((ns.map V.int).length : Nat) : Int) := Int.natCast_nonneg _
    generalize (((ns.map V.int).length : Nat) : Int) = L at hl3 hl4 ⊢
    generalize hM : (if (if L < 8 then L else 8) > 1 then (if L < 8 then L else 8) else (1 : Int)) = M
    have hM' : 1 ≤ M ∧ M ≤ 8 := by rw [← hM]; constructor <;> (repeat' split) <;> omega
    refine ⟨by omega, by omega, ?_⟩
    refine lpR (fun i σ H' => (∃ y1 y2 y3, σ = [some (.ref a), y1, y2, y3]) ∧ SqL K H' a (ns.map V.int)) ⟨⟨_, _, _, rfl⟩, hS⟩ (fun i σ H' hi h => ?_) (fun σ H' h => ?_)
    · obtain ⟨⟨y1, y2, y3, rfl⟩, hS'⟩ := h
      (try simp only [x_asg, x_mkV, x_value, x_lcR1, x_lcL, List.map_cons, List.map_nil, x_yes, x_wipe0, x_wipeS, x_rs, x_callS, x_callKS, x_fld, x_sfld, x_meth, x_make, x_fldaug, x_BM0, x_rAdd, x_retN, x_name, x_sub, x_ret, x_next, x_ifS, x_ite, x_iteN, x_T, x_F, x_tT, x_tF, x_op, x_un, x_var0, x_varS, x_c, x_I0, x_I, x_rU, x_nil, x_cons, x_test, x_B, x_bl, x_call, x_CB, x_tup, x_lst, x_not, x_Eq, x_Ne, x_eqII, x_eqSS, x_eqBB,  x_and, x_or, x_andV, x_orV, x_notV, x_if, x_par, x_two, x_drop, x_BM, x_set0, x_setS, x_gcons, x_gnil, x_forL, x_forT, x_forR1, x_forR2, x_forE, x_ref, x_int1, x_oneI, x_oneB, x_noBI, x_twoI, false_or, x_sl, x_noP, x_part, true_and, List.append_nil, cxK, cxKn]; try simp only [V.str.injEq, V.int.injEq, V.bl.injEq])
      refine x_seq.mpr ?_
      (try simp only [x_asg, x_mkV, x_value, x_lcR1, x_lcL, List.map_cons, List.map_nil, x_yes, x_wipe0, x_wipeS, x_rs, x_callS, x_callKS, x_fld, x_sfld, x_meth, x_make, x_fldaug, x_BM0, x_rAdd, x_retN, x_name, x_sub, x_ret, x_next, x_ifS, x_ite, x_iteN, x_T, x_F, x_tT, x_tF, x_op, x_un, x_var0, x_varS, x_c, x_I0, x_I, x_rU, x_nil, x_cons, x_test, x_B, x_bl, x_call, x_CB, x_tup, x_lst, x_not, x_Eq, x_Ne, x_eqII, x_eqSS, x_eqBB,  x_and, x_or, x_andV, x_orV, x_notV, x_if, x_par, x_two, x_drop, x_BM, x_set0, x_setS, x_gcons, x_gnil, x_forL, x_forT, x_forR1, x_forR2, x_forE, x_ref, x_int1, x_oneI, x_oneB, x_noBI, x_twoI, false_or, x_sl, x_noP, x_part, true_and, List.append_nil, cxK, cxKn]; try simp only [V.str.injEq, V.int.injEq, V.bl.injEq])
      refine ⟨a, ns, _, rfl, hS', by omega, by omega, fun r H1 nr R1 s1 => ?_⟩
      (try simp only [x_asg, x_mkV, x_value, x_lcR1, x_lcL, List.map_cons, List.map_nil, x_yes, x_wipe0, x_wipeS, x_rs, x_callS, x_callKS, x_fld, x_sfld, x_meth, x_make, x_fldaug, x_BM0, x_rAdd, x_retN, x_name, x_sub, x_ret, x_next, x_ifS, x_ite, x_iteN, x_T, x_F, x_tT, x_tF, x_op, x_un, x_var0, x_varS, x_c, x_I0, x_I, x_rU, x_nil, x_cons, x_test, x_B, x_bl, x_call, x_CB, x_tup, x_lst, x_not, x_Eq, x_Ne, x_eqII, x_eqSS, x_eqBB,  x_and, x_or, x_andV, x_orV, x_notV, x_if, x_par, x_two, x_drop, x_BM, x_set0, x_setS, x_gcons, x_gnil, x_forL, x_forT, x_forR1, x_forR2, x_forE, x_ref, x_int1, x_oneI, x_oneB, x_noBI, x_twoI, false_or, x_sl, x_noP, x_part, true_and, List.append_nil, cxK, cxKn]; try simp only [V.str.injEq, V.int.injEq, V.bl.injEq])
      refine ⟨by decide, by decide, ?_⟩
      refine lpR (fun j σ H2 => (∃ y3 m, σ = [some (.ref a), some (V.int (0 + (i : Nat))), some (.ref r), y3] ∧ RngAt H2 r m ∧ m ≤ j * 60000) ∧ Oth r H1 H2) ⟨⟨_, 0, rfl, R1, by omega⟩, Oth.refl _ _⟩ (fun j σ H2 hj h => ?_) (fun σ H2 h => ?_)
      · obtain ⟨⟨y3, m, rfl, R2, hm⟩, o2⟩ := h
        have hj' : j < 5 := by simpa using hj
        (try simp only [x_asg, x_mkV, x_value, x_lcR1, x_lcL, List.map_cons, List.map_nil, x_yes, x_wipe0, x_wipeS, x_rs, x_callS, x_callKS, x_fld, x_sfld, x_meth, x_make, x_fldaug, x_BM0, x_rAdd, x_retN, x_name, x_sub, x_ret, x_next, x_ifS, x_ite, x_iteN, x_T, x_F, x_tT, x_tF, x_op, x_un, x_var0, x_varS, x_c, x_I0, x_I, x_rU, x_nil, x_cons, x_test, x_B, x_bl, x_call, x_CB, x_tup, x_lst, x_not, x_Eq, x_Ne, x_eqII, x_eqSS, x_eqBB,  x_and, x_or, x_andV, x_orV, x_notV, x_if, x_par, x_two, x_drop, x_BM, x_set0, x_setS, x_gcons, x_gnil, x_forL, x_forT, x_forR1, x_forR2, x_forE, x_ref, x_int1, x_oneI, x_oneB, x_noBI, x_twoI, false_or, x_sl, x_noP, x_part, true_and, List.append_nil, cxK, cxKn]; try simp only [V.str.injEq, V.int.injEq, V.bl.injEq])
        refine ⟨r, m, rfl, R2, by omega, fun H3 m3 hm3 R3 o3 => ?_⟩
        (try simp only [x_asg, x_mkV, x_value, x_lcR1, x_lcL, List.map_cons, List.map_nil, x_yes, x_wipe0, x_wipeS, x_rs, x_callS, x_callKS, x_fld, x_sfld, x_meth, x_make, x_fldaug, x_BM0, x_rAdd, x_retN, x_name, x_sub, x_ret, x_next, x_ifS, x_ite, x_iteN, x_T, x_F, x_tT, x_tF, x_op, x_un, x_var0, x_varS, x_c, x_I0, x_I, x_rU, x_nil, x_cons, x_test, x_B, x_bl, x_call, x_CB, x_tup, x_lst, x_not, x_Eq, x_Ne, x_eqII, x_eqSS, x_eqBB,  x_and, x_or, x_andV, x_orV, x_notV, x_if, x_par, x_two, x_drop, x_BM, x_set0, x_setS, x_gcons, x_gnil, x_forL, x_forT, x_forR1, x_forR2, x_forE, x_ref, x_int1, x_oneI, x_oneB, x_noBI, x_twoI, false_or, x_sl, x_noP, x_part, true_and, List.append_nil, cxK, cxKn]; try simp only [V.str.injEq, V.int.injEq, V.bl.injEq])
        refine ⟨r, m3, rfl, R3, by omega, fun H4 m4 hm4 R4 o4 => ?_⟩
        (try simp only [x_asg, x_mkV, x_value, x_lcR1, x_lcL, List.map_cons, List.map_nil, x_yes, x_wipe0, x_wipeS, x_rs, x_callS, x_callKS, x_fld, x_sfld, x_meth, x_make, x_fldaug, x_BM0, x_rAdd, x_retN, x_name, x_sub, x_ret, x_next, x_ifS, x_ite, x_iteN, x_T, x_F, x_tT, x_tF, x_op, x_un, x_var0, x_varS, x_c, x_I0, x_I, x_rU, x_nil, x_cons, x_test, x_B, x_bl, x_call, x_CB, x_tup, x_lst, x_not, x_Eq, x_Ne, x_eqII, x_eqSS, x_eqBB,  x_and, x_or, x_andV, x_orV, x_notV, x_if, x_par, x_two, x_drop, x_BM, x_set0, x_setS, x_gcons, x_gnil, x_forL, x_forT, x_forR1, x_forR2, x_forE, x_ref, x_int1, x_oneI, x_oneB, x_noBI, x_twoI, false_or, x_sl, x_noP, x_part, true_and, List.append_nil, cxK, cxKn]; try simp only [V.str.injEq, V.int.injEq, V.bl.injEq])
        exact ⟨⟨_, m4, rfl, R4, by omega⟩, (o2.trans o3).trans o4⟩
      · obtain ⟨⟨y3, m, rfl, R2, hm⟩, o2⟩ := h
        exact ⟨⟨_, _, _, rfl⟩, rng_sq nr s1 o2 hS'⟩
    · obtain ⟨⟨y1, y2, y3, rfl⟩, hS'⟩ := h
      (try simp only [x_asg, x_mkV, x_value, x_lcR1, x_lcL, List.map_cons, List.map_nil, x_yes, x_wipe0, x_wipeS, x_rs, x_callS, x_callKS, x_fld, x_sfld, x_meth, x_make, x_fldaug, x_BM0, x_rAdd, x_retN, x_name, x_sub, x_ret, x_next, x_ifS, x_ite, x_iteN, x_T, x_F, x_tT, x_tF, x_op, x_un, x_var0, x_varS, x_c, x_I0, x_I, x_rU, x_nil, x_cons, x_test, x_B, x_bl, x_call, x_CB, x_tup, x_lst, x_not, x_Eq, x_Ne, x_eqII, x_eqSS, x_eqBB,  x_and, x_or, x_andV, x_orV, x_notV, x_if, x_par, x_two, x_drop, x_BM, x_set0, x_setS, x_gcons, x_gnil, x_forL, x_forT, x_forR1, x_forR2, x_forE, x_ref, x_int1, x_oneI, x_oneB, x_noBI, x_twoI, false_or, x_sl, x_noP, x_part, true_and, List.append_nil, cxK, cxKn]; try simp only [V.str.injEq, V.int.injEq, V.bl.injEq])
      refine ⟨by show 2 ≤ sizeLine; decide, fun p1 n1 => ⟨by show 2 ≤ sizeLine; decide, fun p2 n2 => ⟨by show 2 ≤ sizeLine; decide, fun p3 n3 => ⟨by show 3 ≤ sizeLine; decide, fun p4 n4 => ⟨by show 2 ≤ sizeLine; decide, fun p5 n5 => ⟨by show 1 ≤ sizeLine; decide, fun p6 n6 => ?_⟩⟩⟩⟩⟩⟩
      have t2 := same_new (o := .tup [.str "u", .int 8]) n2
      have t3 := same_new (o := .tup [.str "add", .int (-128)]) n3
      have t4 := same_new (o := .lst [.ref p1, .ref p2, .ref p3]) n4
      have t5 := same_new (o := .tup [.str "s", .int 8]) n5
      have t6 := same_new (o := .lst [.ref p5]) n6
      have a1 := t6 _ _ (t5 _ _ (t4 _ _ (t3 _ _ (t2 _ _ (upd_same (H := H') (a := p1) (o := HO.tup [.str "add", .int 128]))))))
      have a2 := t6 _ _ (t5 _ _ (t4 _ _ (t3 _ _ (upd_same (a := p2) (o := HO.tup [.str "u", .int 8])))))
      have a3 := t6 _ _ (t5 _ _ (t4 _ _ (upd_same (a := p3) (o := HO.tup [.str "add", .int (-128)]))))
      have a4 := t6 _ _ (t5 _ _ (upd_same (a := p4) (o := HO.lst [.ref p1, .ref p2, .ref p3])))
      have a5 := t6 _ _ (upd_same (a := p5) (o := HO.tup [.str "s", .int 8]))
      exact ⟨_, _, rfl, .lst a4 (.cons (.tup (SqT.of a1) (.cons (.str _) (.cons (.int _) .nil))) (.cons (.tup (SqT.of a2) (.cons (.str _) (.cons (.int _) .nil))) (.cons (.tup (SqT.of a3) (.cons (.str _) (.cons (.int _) .nil))) .nil))), .lst upd_same (.cons (.tup (SqT.of a5) (.cons (.str _) (.cons (.int _) .nil))) .nil), fun H' => q H'⟩
end

end Cc

set_option Elab.async false
set_option linter.all false
set_option maxRecDepth 100000
set_option maxHeartbeats 4000000
namespace Cc
open PySem PySem.Spec PyProof.Rows L2
section
variable {P : Program} {w : World} {K : PySem.W.Frag} {mg : Str → Option Value} {base : Heap} {C fI : Nat → Addr} {fd : Nat → FuncData} {C0 CSp fS : Addr} {fdS : FuncData}
theorem all_pr (Y : Cls P w K mg base C fI fd C0) (SP : SpC K mg CSp) (MS : Mk K CSp fS) (GS : FnOk P w K mg base CX0 1 fS fdS ["self"] (spInitS K CSp)) (bS0 : Binds K fdS ["self"] [])
    (M_take : MTx K CSp "take" "Spread.take" s_Spread_take) (M_wider : MTx K CSp "take_wider_cast" "Spread.take_wider_cast" s_Spread_take_wider_cast) (M_period : MTx K CSp "period" "Spread.period" s_Spread_period) (M_value_ranges : MTx K CSp "value_ranges" "Spread.value_ranges" s_Spread_value_ranges)
    (T_is_cast : Tx K mg "is_cast" s_is_cast) (T_check_chain : Tx K mg "check_chain" s_check_chain) (T_lowest_result : Tx K mg "lowest_result" s_lowest_result) (T_cast : Tx K mg "cast" s_cast)
    (T_count_numbers : Tx K mg "count_numbers" s_count_numbers) (T_moved : Tx K mg "moved" s_moved) (T_parted : Tx K mg "parted" s_parted) (T_spread_of : Tx K mg "spread_of" s_spread_of) (T_form : Tx K mg "form" s_form) (T_same_function : Tx K mg "same_function" s_same_function)
    (T__law_pool : Tx K mg "_law_pool" s_law_pool) (T__law_draw : Tx K mg "_law_draw" s_law_draw) (T__law_power : Tx K mg "_law_power" s_law_power) (T__law_done : Tx K mg "_law_done" s_law_done) (T__law_constant : Tx K mg "_law_constant" s_law_constant) (T__law_steps : Tx K mg "_law_steps" s_law_steps)
    (T__law_narrow : Tx K mg "_law_narrow" s_law_narrow) (T__law_other_way : Tx K mg "_law_other_way" s_law_other_way) (T__law_changed : Tx K mg "_law_changed" s_law_changed) (T__law_agree : Tx K mg "_law_agree" s_law_agree) (T__law_right : Tx K mg "_law_right" s_law_right) (T__law_wide_right : Tx K mg "_law_wide_right" s_law_wide_right)
    (m_sum : mg "sum" = none) (m_min : mg "min" = none) (m_max : mg "max" = none) (m_enumerate : mg "enumerate" = none) (m_tuple : mg "tuple" = none) (m_len : mg "len" = none) (m_abs : mg "abs" = none) (m_range : mg "range" = none) (m_list : mg "list" = none) (m_repr : mg "repr" = none) : PrAt P w K mg base CX0 9 "law" s_law ["script"] (spLaw K) := by
  have h1 := p_is_cast (P := P) (w := w) (base := base) T_is_cast
  have h2 := p_lowest_result (P := P) (w := w) (base := base) T_lowest_result
  have h3 := p_cast (P := P) (w := w) (base := base) T_cast h2
  have h4 := p_count_numbers (P := P) (w := w) (base := base) T_count_numbers m_sum
  have h6 := p_moved (P := P) (w := w) (base := base) T_moved
  have h7 := p_parted (P := P) (w := w) (base := base) T_parted m_min m_max
  have h8 := p_wider (P := P) (w := w) (base := base) M_wider SP h3 h2 h7 h4 h6
  have h9 := p_take (P := P) (w := w) (base := base) M_take SP h2 h8
  have h10 := p_check_chainX (P := P) (w := w) (base := base) T_check_chain (Y.cls 0) (Y.ini 0) (Y.bi 0) m_enumerate h1
  have h11 := p_period (P := P) (w := w) (base := base) M_period SP
  have h12 := p_value_ranges (P := P) (w := w) (base := base) M_value_ranges SP h6
  have h13 := p_spread_of (P := P) (w := w) (base := base) T_spread_of SP MS GS bS0 h10 h9
  have h14 := p_form (P := P) (w := w) (base := base) T_form SP m_tuple h13 h11 h12
  have q1 := q_form (Γ := poolG K C CSp) h14
  have k2 := k_same (Γ := poolG K C CSp) T_same_function q1
  have q2 := k2.pr fun _ _ _ _ _ _ us hl => match us, hl with | [_, _], _ => rfl
  have g1 := p_pool (P := P) (w := w) (base := base) T__law_pool m_len m_max m_abs
  have g2 := p_draw (P := P) (w := w) (base := base) T__law_draw
  have g3 := p_power (P := P) (w := w) (base := base) T__law_power
  have g4 := p_constant (P := P) (w := w) (base := base) T__law_constant g2 g3
  have g5 := p_steps (P := P) (w := w) (base := base) T__law_steps m_range m_min m_max g2 g4
  have d2 := q_draw (C := C) (CS := CSp) g2
  have d3 := q_power (Γ := poolG K C CSp) g3
  have d4 := q_const (C := C) (CS := CSp) g4
  have d5 := q_steps (C := C) (CS := CSp) g5
  have d6 := q_done (Γ := poolG K C CSp) T__law_done d3
  have d7 := q_nar T__law_narrow m_min m_len d2
  have d8 := q_oth T__law_other_way m_min m_len m_list d2 d4 d3
  have d9 := q_chg T__law_changed m_min m_max m_len m_list d2
  have d10 := q_agr (Γ := poolG K C CSp) T__law_agree m_max m_range d3 d6
  have d11 := q_right T__law_right m_repr m_enumerate d2 d5 d7 d8 d9 d10 q1 q2 k2
  have d12 := q_wide_right T__law_wide_right m_list m_range d2 d5 d3 d6 d8 d9 q1 q2
  exact p_law m_range m_max m_min m_len g1 (right_hand d11) (right_hand d12) (o_told q2)
end

abbrev s_InvalidStep : Stmt := topS 2
theorem sc_InvalidStep : FnScope ["self", "value"] ["self", "value"] (defScope (inClass s_InvalidStep 0)) := ⟨rfl, rfl, rfl, by decide +kernel, rfl, by decide +kernel, by decide +kernel⟩
theorem ini_InvalidStep {P : Program} {w : World} {K : PySem.W.Frag} {mg : Str → Option Value} {base : Heap} {C f : Addr} {fd : FuncData} (F : Fun K "__init__" "InvalidStep.__init__" (inClass s_InvalidStep 0) f fd) (T : OexC K C) (no : PySem.W.findIn K (.ref C) "value" = some none) :
    FnOk P w K mg base CX0 1 f fd ["self", "value"] (spInit K C) := by
  refine F.ok sc_InvalidStep (fun vs H Q E h => ?_) (fun cdv A outer s H vs Q E hr h => ⟨_, pss_one (ps_ost (pv 0) (pv 1)), ?_⟩)
  · obtain ⟨_, _, rfl, _⟩ := h
    rfl
  · obtain ⟨a, v, rfl, ha, q⟩ := h
    exact ⟨v, rfl, .ref a, rfl, a, C, rfl, T, no, .inl ⟨ha, fun dx hn hne => q dx hn hne⟩⟩
theorem kw_InvalidStep {K : PySem.W.Frag} {f : Addr} {fd : FuncData} (F : Fun K "__init__" "InvalidStep.__init__" (inClass s_InvalidStep 0) f fd) (s : Shared) (u v : Value) : BindsTo s fd ⟨[u], [("value", v)]⟩ [("self", u), ("value", v)] := by
  obtain ⟨oc, od, kV, doc, pm, an, cdv, ct, osl, rfl, _, _⟩ := F.ex
  exact .of_eq rfl
theorem all_mk {l : PySem.W.OpenLaw} {w : World} {K : PySem.W.Frag} {h : Heap} {mg : Str → Option Value} {fa : Addr} (X : K.In h) (G : h.Ns mainGlobals mg) (hfa : mg "law" = some (.ref fa))
    {f0 : Addr} {oc0 kV0 dc0 pm0 cd0 ct0 : Value} {od0 an0 : Option Addr} {sl0 : Array (Option Value)}
    {f1 : Addr} {oc1 kV1 dc1 pm1 cd1 ct1 : Value} {od1 an1 : Option Addr} {sl1 : Array (Option Value)}
    {f2 : Addr} {oc2 kV2 dc2 pm2 cd2 ct2 : Value} {od2 an2 : Option Addr} {sl2 : Array (Option Value)}
    {f3 : Addr} {oc3 kV3 dc3 pm3 cd3 ct3 : Value} {od3 an3 : Option Addr} {sl3 : Array (Option Value)}
    {f4 : Addr} {oc4 kV4 dc4 pm4 cd4 ct4 : Value} {od4 an4 : Option Addr} {sl4 : Array (Option Value)}
    {f5 : Addr} {oc5 kV5 dc5 pm5 cd5 ct5 : Value} {od5 an5 : Option Addr} {sl5 : Array (Option Value)}
    {f6 : Addr} {oc6 kV6 dc6 pm6 cd6 ct6 : Value} {od6 an6 : Option Addr} {sl6 : Array (Option Value)}
    {f7 : Addr} {oc7 kV7 dc7 pm7 cd7 ct7 : Value} {od7 an7 : Option Addr} {sl7 : Array (Option Value)}
    {f8 : Addr} {oc8 kV8 dc8 pm8 cd8 ct8 : Value} {od8 an8 : Option Addr} {sl8 : Array (Option Value)}
    {f9 : Addr} {oc9 kV9 dc9 pm9 cd9 ct9 : Value} {od9 an9 : Option Addr} {sl9 : Array (Option Value)}
    {f10 : Addr} {oc10 kV10 dc10 pm10 cd10 ct10 : Value} {od10 an10 : Option Addr} {sl10 : Array (Option Value)}
    {f11 : Addr} {oc11 kV11 dc11 pm11 cd11 ct11 : Value} {od11 an11 : Option Addr} {sl11 : Array (Option Value)}
    {f12 : Addr} {oc12 kV12 dc12 pm12 cd12 ct12 : Value} {od12 an12 : Option Addr} {sl12 : Array (Option Value)}
    {f13 : Addr} {oc13 kV13 dc13 pm13 cd13 ct13 : Value} {od13 an13 : Option Addr} {sl13 : Array (Option Value)}
    {f14 : Addr} {oc14 kV14 dc14 pm14 cd14 ct14 : Value} {od14 an14 : Option Addr} {sl14 : Array (Option Value)}
    {f15 : Addr} {oc15 kV15 dc15 pm15 cd15 ct15 : Value} {od15 an15 : Option Addr} {sl15 : Array (Option Value)}
    {f16 : Addr} {oc16 kV16 dc16 pm16 cd16 ct16 : Value} {od16 an16 : Option Addr} {sl16 : Array (Option Value)}
    {f17 : Addr} {oc17 kV17 dc17 pm17 cd17 ct17 : Value} {od17 an17 : Option Addr} {sl17 : Array (Option Value)}
    {f18 : Addr} {oc18 kV18 dc18 pm18 cd18 ct18 : Value} {od18 an18 : Option Addr} {sl18 : Array (Option Value)}
    {f19 : Addr} {oc19 kV19 dc19 pm19 cd19 ct19 : Value} {od19 an19 : Option Addr} {sl19 : Array (Option Value)}
    {f20 : Addr} {oc20 kV20 dc20 pm20 cd20 ct20 : Value} {od20 an20 : Option Addr} {sl20 : Array (Option Value)}
    {f21 : Addr} {oc21 kV21 dc21 pm21 cd21 ct21 : Value} {od21 an21 : Option Addr} {sl21 : Array (Option Value)}
    {f22 : Addr} {oc22 kV22 dc22 pm22 cd22 ct22 : Value} {od22 an22 : Option Addr} {sl22 : Array (Option Value)}
    {C0 fi0 : Addr} {nm0 qq0 : Str} {NN0 : Addr} {bs0 bm0 sub0 : List Value} {sn0 : List Str} {ab0 : Bool} {col0 : Option Bool} {dd0 : Option Addr} {kx0_0 kx1_0 kx2_0 kx3_0 kx5_0 : Option Value} {ioc0 ikV0 idc0 ipm0 icd0 ict0 : Value} {iod0 ian0 : Option Addr} {isl0 : Array (Option Value)}
    {C0x : Addr}
    {CSp : Addr}
    {fS0 : Addr} {ocS0 kVS0 dcS0 pmS0 cdS0 ctS0 : Value} {odS0 anS0 : Option Addr} {slS0 : Array (Option Value)}
    {fS1 : Addr} {ocS1 kVS1 dcS1 pmS1 cdS1 ctS1 : Value} {odS1 anS1 : Option Addr} {slS1 : Array (Option Value)}
    {fS2 : Addr} {ocS2 kVS2 dcS2 pmS2 cdS2 ctS2 : Value} {odS2 anS2 : Option Addr} {slS2 : Array (Option Value)}
    {fS3 : Addr} {ocS3 kVS3 dcS3 pmS3 cdS3 ctS3 : Value} {odS3 anS3 : Option Addr} {slS3 : Array (Option Value)}
    {fS4 : Addr} {ocS4 kVS4 dcS4 pmS4 cdS4 ctS4 : Value} {odS4 anS4 : Option Addr} {slS4 : Array (Option Value)}
    (a0 : PySem.W.nsIn K mainGlobals "is_cast" = some (some (.ref f0))) (l0 : K.lookup f0 = some ⟨oc0, od0, .func (PySem.W.fnOf "is_cast" "is_cast" (defArgs s_is_cast) (defBody s_is_cast) (defScope s_is_cast) .none kV0 dc0 pm0 an0 cd0 ct0), sl0⟩) (c0 : PySem.W.codeIn K cd0 "is_cast" = true) (k0 : PySem.W.keepIn K (.ref f0) = true)
    (a1 : PySem.W.nsIn K mainGlobals "check_chain" = some (some (.ref f1))) (l1 : K.lookup f1 = some ⟨oc1, od1, .func (PySem.W.fnOf "check_chain" "check_chain" (defArgs s_check_chain) (defBody s_check_chain) (defScope s_check_chain) .none kV1 dc1 pm1 an1 cd1 ct1), sl1⟩) (c1 : PySem.W.codeIn K cd1 "check_chain" = true) (k1 : PySem.W.keepIn K (.ref f1) = true)
    (a2 : PySem.W.nsIn K mainGlobals "lowest_result" = some (some (.ref f2))) (l2 : K.lookup f2 = some ⟨oc2, od2, .func (PySem.W.fnOf "lowest_result" "lowest_result" (defArgs s_lowest_result) (defBody s_lowest_result) (defScope s_lowest_result) .none kV2 dc2 pm2 an2 cd2 ct2), sl2⟩) (c2 : PySem.W.codeIn K cd2 "lowest_result" = true) (k2 : PySem.W.keepIn K (.ref f2) = true)
    (a3 : PySem.W.nsIn K mainGlobals "cast" = some (some (.ref f3))) (l3 : K.lookup f3 = some ⟨oc3, od3, .func (PySem.W.fnOf "cast" "cast" (defArgs s_cast) (defBody s_cast) (defScope s_cast) .none kV3 dc3 pm3 an3 cd3 ct3), sl3⟩) (c3 : PySem.W.codeIn K cd3 "cast" = true) (k3 : PySem.W.keepIn K (.ref f3) = true)
    (a4 : PySem.W.nsIn K mainGlobals "count_numbers" = some (some (.ref f4))) (l4 : K.lookup f4 = some ⟨oc4, od4, .func (PySem.W.fnOf "count_numbers" "count_numbers" (defArgs s_count_numbers) (defBody s_count_numbers) (defScope s_count_numbers) .none kV4 dc4 pm4 an4 cd4 ct4), sl4⟩) (c4 : PySem.W.codeIn K cd4 "count_numbers" = true) (k4 : PySem.W.keepIn K (.ref f4) = true)
    (a5 : PySem.W.nsIn K mainGlobals "moved" = some (some (.ref f5))) (l5 : K.lookup f5 = some ⟨oc5, od5, .func (PySem.W.fnOf "moved" "moved" (defArgs s_moved) (defBody s_moved) (defScope s_moved) .none kV5 dc5 pm5 an5 cd5 ct5), sl5⟩) (c5 : PySem.W.codeIn K cd5 "moved" = true) (k5 : PySem.W.keepIn K (.ref f5) = true)
    (a6 : PySem.W.nsIn K mainGlobals "parted" = some (some (.ref f6))) (l6 : K.lookup f6 = some ⟨oc6, od6, .func (PySem.W.fnOf "parted" "parted" (defArgs s_parted) (defBody s_parted) (defScope s_parted) .none kV6 dc6 pm6 an6 cd6 ct6), sl6⟩) (c6 : PySem.W.codeIn K cd6 "parted" = true) (k6 : PySem.W.keepIn K (.ref f6) = true)
    (a7 : PySem.W.nsIn K mainGlobals "spread_of" = some (some (.ref f7))) (l7 : K.lookup f7 = some ⟨oc7, od7, .func (PySem.W.fnOf "spread_of" "spread_of" (defArgs s_spread_of) (defBody s_spread_of) (defScope s_spread_of) .none kV7 dc7 pm7 an7 cd7 ct7), sl7⟩) (c7 : PySem.W.codeIn K cd7 "spread_of" = true) (k7 : PySem.W.keepIn K (.ref f7) = true)
    (a8 : PySem.W.nsIn K mainGlobals "form" = some (some (.ref f8))) (l8 : K.lookup f8 = some ⟨oc8, od8, .func (PySem.W.fnOf "form" "form" (defArgs s_form) (defBody s_form) (defScope s_form) .none kV8 dc8 pm8 an8 cd8 ct8), sl8⟩) (c8 : PySem.W.codeIn K cd8 "form" = true) (k8 : PySem.W.keepIn K (.ref f8) = true)
    (a9 : PySem.W.nsIn K mainGlobals "same_function" = some (some (.ref f9))) (l9 : K.lookup f9 = some ⟨oc9, od9, .func (PySem.W.fnOf "same_function" "same_function" (defArgs s_same_function) (defBody s_same_function) (defScope s_same_function) .none kV9 dc9 pm9 an9 cd9 ct9), sl9⟩) (c9 : PySem.W.codeIn K cd9 "same_function" = true) (k9 : PySem.W.keepIn K (.ref f9) = true)
    (a10 : PySem.W.nsIn K mainGlobals "_law_pool" = some (some (.ref f10))) (l10 : K.lookup f10 = some ⟨oc10, od10, .func (PySem.W.fnOf "_law_pool" "_law_pool" (defArgs s_law_pool) (defBody s_law_pool) (defScope s_law_pool) .none kV10 dc10 pm10 an10 cd10 ct10), sl10⟩) (c10 : PySem.W.codeIn K cd10 "_law_pool" = true) (k10 : PySem.W.keepIn K (.ref f10) = true)
    (a11 : PySem.W.nsIn K mainGlobals "_law_draw" = some (some (.ref f11))) (l11 : K.lookup f11 = some ⟨oc11, od11, .func (PySem.W.fnOf "_law_draw" "_law_draw" (defArgs s_law_draw) (defBody s_law_draw) (defScope s_law_draw) .none kV11 dc11 pm11 an11 cd11 ct11), sl11⟩) (c11 : PySem.W.codeIn K cd11 "_law_draw" = true) (k11 : PySem.W.keepIn K (.ref f11) = true)
    (a12 : PySem.W.nsIn K mainGlobals "_law_power" = some (some (.ref f12))) (l12 : K.lookup f12 = some ⟨oc12, od12, .func (PySem.W.fnOf "_law_power" "_law_power" (defArgs s_law_power) (defBody s_law_power) (defScope s_law_power) .none kV12 dc12 pm12 an12 cd12 ct12), sl12⟩) (c12 : PySem.W.codeIn K cd12 "_law_power" = true) (k12 : PySem.W.keepIn K (.ref f12) = true)
    (a13 : PySem.W.nsIn K mainGlobals "_law_done" = some (some (.ref f13))) (l13 : K.lookup f13 = some ⟨oc13, od13, .func (PySem.W.fnOf "_law_done" "_law_done" (defArgs s_law_done) (defBody s_law_done) (defScope s_law_done) .none kV13 dc13 pm13 an13 cd13 ct13), sl13⟩) (c13 : PySem.W.codeIn K cd13 "_law_done" = true) (k13 : PySem.W.keepIn K (.ref f13) = true)
    (a14 : PySem.W.nsIn K mainGlobals "_law_constant" = some (some (.ref f14))) (l14 : K.lookup f14 = some ⟨oc14, od14, .func (PySem.W.fnOf "_law_constant" "_law_constant" (defArgs s_law_constant) (defBody s_law_constant) (defScope s_law_constant) .none kV14 dc14 pm14 an14 cd14 ct14), sl14⟩) (c14 : PySem.W.codeIn K cd14 "_law_constant" = true) (k14 : PySem.W.keepIn K (.ref f14) = true)
    (a15 : PySem.W.nsIn K mainGlobals "_law_steps" = some (some (.ref f15))) (l15 : K.lookup f15 = some ⟨oc15, od15, .func (PySem.W.fnOf "_law_steps" "_law_steps" (defArgs s_law_steps) (defBody s_law_steps) (defScope s_law_steps) .none kV15 dc15 pm15 an15 cd15 ct15), sl15⟩) (c15 : PySem.W.codeIn K cd15 "_law_steps" = true) (k15 : PySem.W.keepIn K (.ref f15) = true)
    (a16 : PySem.W.nsIn K mainGlobals "_law_narrow" = some (some (.ref f16))) (l16 : K.lookup f16 = some ⟨oc16, od16, .func (PySem.W.fnOf "_law_narrow" "_law_narrow" (defArgs s_law_narrow) (defBody s_law_narrow) (defScope s_law_narrow) .none kV16 dc16 pm16 an16 cd16 ct16), sl16⟩) (c16 : PySem.W.codeIn K cd16 "_law_narrow" = true) (k16 : PySem.W.keepIn K (.ref f16) = true)
    (a17 : PySem.W.nsIn K mainGlobals "_law_other_way" = some (some (.ref f17))) (l17 : K.lookup f17 = some ⟨oc17, od17, .func (PySem.W.fnOf "_law_other_way" "_law_other_way" (defArgs s_law_other_way) (defBody s_law_other_way) (defScope s_law_other_way) .none kV17 dc17 pm17 an17 cd17 ct17), sl17⟩) (c17 : PySem.W.codeIn K cd17 "_law_other_way" = true) (k17 : PySem.W.keepIn K (.ref f17) = true)
    (a18 : PySem.W.nsIn K mainGlobals "_law_changed" = some (some (.ref f18))) (l18 : K.lookup f18 = some ⟨oc18, od18, .func (PySem.W.fnOf "_law_changed" "_law_changed" (defArgs s_law_changed) (defBody s_law_changed) (defScope s_law_changed) .none kV18 dc18 pm18 an18 cd18 ct18), sl18⟩) (c18 : PySem.W.codeIn K cd18 "_law_changed" = true) (k18 : PySem.W.keepIn K (.ref f18) = true)
    (a19 : PySem.W.nsIn K mainGlobals "_law_agree" = some (some (.ref f19))) (l19 : K.lookup f19 = some ⟨oc19, od19, .func (PySem.W.fnOf "_law_agree" "_law_agree" (defArgs s_law_agree) (defBody s_law_agree) (defScope s_law_agree) .none kV19 dc19 pm19 an19 cd19 ct19), sl19⟩) (c19 : PySem.W.codeIn K cd19 "_law_agree" = true) (k19 : PySem.W.keepIn K (.ref f19) = true)
    (a20 : PySem.W.nsIn K mainGlobals "_law_right" = some (some (.ref f20))) (l20 : K.lookup f20 = some ⟨oc20, od20, .func (PySem.W.fnOf "_law_right" "_law_right" (defArgs s_law_right) (defBody s_law_right) (defScope s_law_right) .none kV20 dc20 pm20 an20 cd20 ct20), sl20⟩) (c20 : PySem.W.codeIn K cd20 "_law_right" = true) (k20 : PySem.W.keepIn K (.ref f20) = true)
    (a21 : PySem.W.nsIn K mainGlobals "_law_wide_right" = some (some (.ref f21))) (l21 : K.lookup f21 = some ⟨oc21, od21, .func (PySem.W.fnOf "_law_wide_right" "_law_wide_right" (defArgs s_law_wide_right) (defBody s_law_wide_right) (defScope s_law_wide_right) .none kV21 dc21 pm21 an21 cd21 ct21), sl21⟩) (c21 : PySem.W.codeIn K cd21 "_law_wide_right" = true) (k21 : PySem.W.keepIn K (.ref f21) = true)
    (a22 : PySem.W.nsIn K mainGlobals "law" = some (some (.ref f22))) (l22 : K.lookup f22 = some ⟨oc22, od22, .func (PySem.W.fnOf "law" "law" (defArgs s_law) (defBody s_law) (defScope s_law) .none kV22 dc22 pm22 an22 cd22 ct22), sl22⟩) (c22 : PySem.W.codeIn K cd22 "law" = true) (k22 : PySem.W.keepIn K (.ref f22) = true)
    (z_sum : PySem.W.nsIn K mainGlobals "sum" = some none)
    (z_min : PySem.W.nsIn K mainGlobals "min" = some none)
    (z_max : PySem.W.nsIn K mainGlobals "max" = some none)
    (z_enumerate : PySem.W.nsIn K mainGlobals "enumerate" = some none)
    (z_tuple : PySem.W.nsIn K mainGlobals "tuple" = some none)
    (z_len : PySem.W.nsIn K mainGlobals "len" = some none)
    (z_abs : PySem.W.nsIn K mainGlobals "abs" = some none)
    (z_range : PySem.W.nsIn K mainGlobals "range" = some none)
    (z_list : PySem.W.nsIn K mainGlobals "list" = some none)
    (z_repr : PySem.W.nsIn K mainGlobals "repr" = some none)
    (gC0 : PySem.W.nsIn K mainGlobals "InvalidStep" = some (some (.ref C0)))
    (xL0 : K.lookup C0 = some (excClassObj nm0 qq0 C0 NN0 bs0 bm0 true sn0 sub0 ab0 col0 dd0 kx0_0 kx1_0 kx2_0 kx3_0 kx5_0 "ValueError.__new__"))
    (bv0 : PySem.HandSPX.refsVE bm0 = true)
    (sa0 : PySem.W.findIn K (.ref C0) "__setattr__" = some (some (.builtin "object.__setattr__")))
    (ga0 : PySem.W.findIn K (.ref C0) "__getattribute__" = some (some (.builtin "BaseException.__getattribute__")))
    (gg0 : PySem.W.findIn K (.ref C0) "__getattr__" = some none)
    (nb0 : PySem.W.findIn K (.ref C0) "value" = some none)
    (iC0 : PySem.W.findIn K (.ref C0) "__init__" = some (some (.ref fi0)))
    (tI0 : PySem.W.typeIn K (.ref fi0) = some (.type "function"))
    (lI0 : K.lookup fi0 = some ⟨ioc0, iod0, .func (PySem.W.fnOf "__init__" "InvalidStep.__init__" (defArgs (inClass s_InvalidStep 0)) (defBody (inClass s_InvalidStep 0)) (defScope (inClass s_InvalidStep 0)) .none ikV0 idc0 ipm0 ian0 icd0 ict0), isl0⟩)
    (cI0 : PySem.W.codeIn K icd0 "InvalidStep.__init__" = true)
    (kI0 : PySem.W.keepIn K (.ref fi0) = true)
    (kC0 : PySem.W.keepIn K (.ref C0) = true)
    (eC0 : PySem.W.subIn K (.ref C0) (.type "BaseException") = some true)
    (tC0 : PySem.W.typeIn K (.ref C0) = some (.type "type"))
    (hC0 : PySem.W.hasDictIn K C0 = true)
    (cl0 : PySem.W.findIn K (.ref C0) "__class__" = some (some (.builtin "object.__class__")))
    (mo0 : PySem.W.mroIn K C0 (.type "object") = some true)
    (hn : PySem.W.specialIn K (.builtin "object.__class__") "__get__" = some (some (.builtin "getset_descriptor.__get__")))
    (ht : PySem.W.takesIn K (.builtin "object.__class__") = some true)
    (gCst : PySem.W.nsIn K mainGlobals "CastError" = some (some (.ref C0x)))
    (kt0_0 : PySem.W.kitOne K (.ref C0) (.ref C0) = some true)
    (kb0 : PySem.W.kitOne K (.ref C0) (.ref C0x) = some true)
    (kv0 : PySem.W.kitOne K (.ref C0) (.type "ValueError") = some true)
    (gSp : PySem.W.nsIn K mainGlobals "Spread" = some (some (.ref CSp)))
    (pgS : PySem.W.plainGet K CSp Str.empty = true)
    (hdS : PySem.W.hasDictIn K CSp = true)
    (poS : PySem.W.plainOver K CSp = true)
    (saS : PySem.W.findIn K (.ref CSp) "__setattr__" = some (some (.builtin "object.__setattr__")))
    (mkS : PySem.W.makesIn K CSp = true)
    (kcS : PySem.W.keepIn K (.ref CSp) = true)
    (nfS0 : PySem.W.findIn K (.ref CSp) "levels" = some none)
    (nfS1 : PySem.W.findIn K (.ref CSp) "offset" = some none)
    (nfS2 : PySem.W.findIn K (.ref CSp) "total" = some none)
    (aS0 : PySem.W.findIn K (.ref CSp) "__init__" = some (some (.ref fS0)))
    (iS0 : PySem.W.isFn K (.ref fS0) = true)
    (lS0 : K.lookup fS0 = some ⟨ocS0, odS0, .func (PySem.W.fnOf "__init__" "Spread.__init__" (defArgs s_Spread_init) (defBody s_Spread_init) (defScope s_Spread_init) .none kVS0 dcS0 pmS0 anS0 cdS0 ctS0), slS0⟩)
    (cS0 : PySem.W.codeIn K cdS0 "Spread.__init__" = true)
    (kS0 : PySem.W.keepIn K (.ref fS0) = true)
    (aS1 : PySem.W.findIn K (.ref CSp) "take" = some (some (.ref fS1)))
    (iS1 : PySem.W.isFn K (.ref fS1) = true)
    (lS1 : K.lookup fS1 = some ⟨ocS1, odS1, .func (PySem.W.fnOf "take" "Spread.take" (defArgs s_Spread_take) (defBody s_Spread_take) (defScope s_Spread_take) .none kVS1 dcS1 pmS1 anS1 cdS1 ctS1), slS1⟩)
    (cS1 : PySem.W.codeIn K cdS1 "Spread.take" = true)
    (kS1 : PySem.W.keepIn K (.ref fS1) = true)
    (aS2 : PySem.W.findIn K (.ref CSp) "take_wider_cast" = some (some (.ref fS2)))
    (iS2 : PySem.W.isFn K (.ref fS2) = true)
    (lS2 : K.lookup fS2 = some ⟨ocS2, odS2, .func (PySem.W.fnOf "take_wider_cast" "Spread.take_wider_cast" (defArgs s_Spread_take_wider_cast) (defBody s_Spread_take_wider_cast) (defScope s_Spread_take_wider_cast) .none kVS2 dcS2 pmS2 anS2 cdS2 ctS2), slS2⟩)
    (cS2 : PySem.W.codeIn K cdS2 "Spread.take_wider_cast" = true)
    (kS2 : PySem.W.keepIn K (.ref fS2) = true)
    (aS3 : PySem.W.findIn K (.ref CSp) "period" = some (some (.ref fS3)))
    (iS3 : PySem.W.isFn K (.ref fS3) = true)
    (lS3 : K.lookup fS3 = some ⟨ocS3, odS3, .func (PySem.W.fnOf "period" "Spread.period" (defArgs s_Spread_period) (defBody s_Spread_period) (defScope s_Spread_period) .none kVS3 dcS3 pmS3 anS3 cdS3 ctS3), slS3⟩)
    (cS3 : PySem.W.codeIn K cdS3 "Spread.period" = true)
    (kS3 : PySem.W.keepIn K (.ref fS3) = true)
    (aS4 : PySem.W.findIn K (.ref CSp) "value_ranges" = some (some (.ref fS4)))
    (iS4 : PySem.W.isFn K (.ref fS4) = true)
    (lS4 : K.lookup fS4 = some ⟨ocS4, odS4, .func (PySem.W.fnOf "value_ranges" "Spread.value_ranges" (defArgs s_Spread_value_ranges) (defBody s_Spread_value_ranges) (defScope s_Spread_value_ranges) .none kVS4 dcS4 pmS4 anS4 cdS4 ctS4), slS4⟩)
    (cS4 : PySem.W.codeIn K cdS4 "Spread.value_ranges" = true)
    (kS4 : PySem.W.keepIn K (.ref fS4) = true) :
    ∃ fd : FuncData, (∀ (s : Shared) (v : Value), BindsTo s fd ⟨[v], []⟩ [("script", v)]) ∧ ∀ base : Heap, K.In base → base.Ns mainGlobals mg → FnG l.prog w K mg base CX0 9 fa fd ["script"] (spLaw K) := by
  have e := hfa.symm.trans (PySem.W.mg_of X G a22)
  cases e
  have T_is_cast : Tx K mg "is_cast" s_is_cast := tx_mk X G a0 l0 c0 k0
  have T_check_chain : Tx K mg "check_chain" s_check_chain := tx_mk X G a1 l1 c1 k1
  have T_lowest_result : Tx K mg "lowest_result" s_lowest_result := tx_mk X G a2 l2 c2 k2
  have T_cast : Tx K mg "cast" s_cast := tx_mk X G a3 l3 c3 k3
  have T_count_numbers : Tx K mg "count_numbers" s_count_numbers := tx_mk X G a4 l4 c4 k4
  have T_moved : Tx K mg "moved" s_moved := tx_mk X G a5 l5 c5 k5
  have T_parted : Tx K mg "parted" s_parted := tx_mk X G a6 l6 c6 k6
  have T_spread_of : Tx K mg "spread_of" s_spread_of := tx_mk X G a7 l7 c7 k7
  have T_form : Tx K mg "form" s_form := tx_mk X G a8 l8 c8 k8
  have T_same_function : Tx K mg "same_function" s_same_function := tx_mk X G a9 l9 c9 k9
  have T__law_pool : Tx K mg "_law_pool" s_law_pool := tx_mk X G a10 l10 c10 k10
  have T__law_draw : Tx K mg "_law_draw" s_law_draw := tx_mk X G a11 l11 c11 k11
  have T__law_power : Tx K mg "_law_power" s_law_power := tx_mk X G a12 l12 c12 k12
  have T__law_done : Tx K mg "_law_done" s_law_done := tx_mk X G a13 l13 c13 k13
  have T__law_constant : Tx K mg "_law_constant" s_law_constant := tx_mk X G a14 l14 c14 k14
  have T__law_steps : Tx K mg "_law_steps" s_law_steps := tx_mk X G a15 l15 c15 k15
  have T__law_narrow : Tx K mg "_law_narrow" s_law_narrow := tx_mk X G a16 l16 c16 k16
  have T__law_other_way : Tx K mg "_law_other_way" s_law_other_way := tx_mk X G a17 l17 c17 k17
  have T__law_changed : Tx K mg "_law_changed" s_law_changed := tx_mk X G a18 l18 c18 k18
  have T__law_agree : Tx K mg "_law_agree" s_law_agree := tx_mk X G a19 l19 c19 k19
  have T__law_right : Tx K mg "_law_right" s_law_right := tx_mk X G a20 l20 c20 k20
  have T__law_wide_right : Tx K mg "_law_wide_right" s_law_wide_right := tx_mk X G a21 l21 c21 k21
  have m_sum : mg "sum" = none := PySem.W.mg_none_of X G z_sum
  have m_min : mg "min" = none := PySem.W.mg_none_of X G z_min
  have m_max : mg "max" = none := PySem.W.mg_none_of X G z_max
  have m_enumerate : mg "enumerate" = none := PySem.W.mg_none_of X G z_enumerate
  have m_tuple : mg "tuple" = none := PySem.W.mg_none_of X G z_tuple
  have m_len : mg "len" = none := PySem.W.mg_none_of X G z_len
  have m_abs : mg "abs" = none := PySem.W.mg_none_of X G z_abs
  have m_range : mg "range" = none := PySem.W.mg_none_of X G z_range
  have m_list : mg "list" = none := PySem.W.mg_none_of X G z_list
  have m_repr : mg "repr" = none := PySem.W.mg_none_of X G z_repr
  have O0 : OexC K C0 := ⟨⟨_, _, _, _, _, _, _, _, _, _, _, _, _, _, _, xL0, bv0⟩, sa0, eC0, tC0, kC0⟩
  have X0 : XC K mg "InvalidStep" C0 fi0 := ⟨PySem.W.mg_of X G gC0, O0, ⟨ga0, gg0, eC0, hC0, cl0, hn, ht, mo0⟩, nb0, iC0, tI0⟩
  have I0 := fun_mk lI0 cI0 kI0
  have B0 := I0.binds (ps := ["self", "value"]) fun _ _ _ _ _ _ us hl => match us, hl with | [_, _], _ => rfl
  have SP : SpC K mg CSp := ⟨⟨pgS, hdS, poS, saS⟩, nfS0, nfS1, nfS2, PySem.W.mg_of X G gSp⟩
  have FS0 := fun_mk (st := s_Spread_init) lS0 cS0 kS0
  have MS : Mk K CSp fS0 := ⟨mkS, aS0, iS0, kcS⟩
  have bS0 := FS0.binds (ps := ["self"]) fun _ _ _ _ _ _ us hl => match us, hl with | [_], _ => rfl
  have M1 : MTx K CSp "take" "Spread.take" s_Spread_take := ⟨_, _, fun_mk lS1 cS1 kS1, ⟨aS1, iS1, kS1⟩⟩
  have M2 : MTx K CSp "take_wider_cast" "Spread.take_wider_cast" s_Spread_take_wider_cast := ⟨_, _, fun_mk lS2 cS2 kS2, ⟨aS2, iS2, kS2⟩⟩
  have M3 : MTx K CSp "period" "Spread.period" s_Spread_period := ⟨_, _, fun_mk lS3 cS3 kS3, ⟨aS3, iS3, kS3⟩⟩
  have M4 : MTx K CSp "value_ranges" "Spread.value_ranges" s_Spread_value_ranges := ⟨_, _, fun_mk lS4 cS4 kS4, ⟨aS4, iS4, kS4⟩⟩
  have gCst' := PySem.W.mg_of X G gCst
  have Y := fun (base : Heap) => show Cls l.prog w K mg base (fun i => match i with | _ => C0) (fun i => match i with | _ => fi0) (fun i => match i with | _ => PySem.W.fnOf "__init__" "InvalidStep.__init__" (defArgs (inClass s_InvalidStep 0)) (defBody (inClass s_InvalidStep 0)) (defScope (inClass s_InvalidStep 0)) .none ikV0 idc0 ipm0 ian0 icd0 ict0) C0x from
    ⟨(fun i => match i with | _ + 0 => X0), (fun i => match i with | _ + 0 => ini_InvalidStep I0 O0 nb0), (fun i => match i with | _ + 0 => B0), (fun i => match i with | _ + 0 => kw_InvalidStep I0), gCst', by
      intro i j hi hj
      match i, j, hi, hj with
      | 0, 0, _, _ => exact kt0_0
      | _ + 1, _, hi, _ => exact absurd hi (by omega)
      | 0, _ + 1, _, hj => exact absurd hj (by omega)
    , by
      intro i hi
      match i, hi with
      | 0, _ => exact kb0
      | _ + 1, hi => exact absurd hi (by omega)
    , by
      intro i hi
      match i, hi with
      | 0, _ => exact kv0
      | _ + 1, hi => exact absurd hi (by omega)⟩
  exact ⟨_, fun s v => .of_eq rfl, fun base _ _ => all_pr (Y base) SP MS (p_init FS0 SP) bS0 M1 M2 M3 M4 T_is_cast T_check_chain T_lowest_result T_cast T_count_numbers T_moved T_parted T_spread_of T_form T_same_function T__law_pool T__law_draw T__law_power T__law_done T__law_constant T__law_steps T__law_narrow T__law_other_way T__law_changed T__law_agree T__law_right T__law_wide_right m_sum m_min m_max m_enumerate m_tuple m_len m_abs m_range m_list m_repr _ _ (fun_mk l22 c22 k22)⟩
end Cc
open PySem PySem.W PyProof.Rows
set_option maxHeartbeats 0 in
theorem PySem.Challenge.cw_castchains_k13_same_functions_holds : PySem.Challenge.rw_castchains_k13_same_functions.Holds := by
  w_on; o_law; k_head; (case hw => w_witness2)
  k_fill
  refine Cc.walkG (l := PySem.Challenge.rw_castchains_k13_same_functions) (n := 63) (k := 9) (x := "script") (sp := fun K => Cc.spLaw K) rfl (by decide) rfl ⟨rfl, by decide, by decide⟩ (fun w h Y => PySem.W.kIn_of Y) ?F (fun _ _ a ns hl _ hS => ⟨a, ns, rfl, hS, hl, fun _ => rfl⟩)
  case F =>
    intro w mg fa h KX G hmg
    refine' Cc.all_mk KX G hmg ?a0 ?l0 ?c0 ?k0 ?a1 ?l1 ?c1 ?k1 ?a2 ?l2 ?c2 ?k2 ?a3 ?l3 ?c3 ?k3 ?a4 ?l4 ?c4 ?k4 ?a5 ?l5 ?c5 ?k5 ?a6 ?l6 ?c6 ?k6 ?a7 ?l7 ?c7 ?k7 ?a8 ?l8 ?c8 ?k8 ?a9 ?l9 ?c9 ?k9 ?a10 ?l10 ?c10 ?k10 ?a11 ?l11 ?c11 ?k11 ?a12 ?l12 ?c12 ?k12 ?a13 ?l13 ?c13 ?k13 ?a14 ?l14 ?c14 ?k14 ?a15 ?l15 ?c15 ?k15 ?a16 ?l16 ?c16 ?k16 ?a17 ?l17 ?c17 ?k17 ?a18 ?l18 ?c18 ?k18 ?a19 ?l19 ?c19 ?k19 ?a20 ?l20 ?c20 ?k20 ?a21 ?l21 ?c21 ?k21 ?a22 ?l22 ?c22 ?k22 ?z_sum ?z_min ?z_max ?z_enumerate ?z_tuple ?z_len ?z_abs ?z_range ?z_list ?z_repr ?gC0 ?xL0 ?bv0 ?sa0 ?ga0 ?gg0 ?nb0 ?iC0 ?tI0 ?lI0 ?cI0 ?kI0 ?kC0 ?eC0 ?tC0 ?hC0 ?cl0 ?mo0 ?hn ?ht ?gCst ?kt0_0 ?kb0 ?kv0 ?gSp ?pgS ?hdS ?poS ?saS ?mkS ?kcS ?nfS0 ?nfS1 ?nfS2 ?aS0 ?iS0 ?lS0 ?cS0 ?kS0 ?aS1 ?iS1 ?lS1 ?cS1 ?kS1 ?aS2 ?iS2 ?lS2 ?cS2 ?kS2 ?aS3 ?iS3 ?lS3 ?cS3 ?kS3 ?aS4 ?iS4 ?lS4 ?cS4 ?kS4
    (case a0 => k_is); (case l0 => k_is); (case c0 => k_is); (case k0 => k_is); (case a1 => k_is); (case l1 => k_is); (case c1 => k_is); (case k1 => k_is); (case a2 => k_is); (case l2 => k_is); (case c2 => k_is); (case k2 => k_is); (case a3 => k_is); (case l3 => k_is); (case c3 => k_is); (case k3 => k_is); (case a4 => k_is); (case l4 => k_is); (case c4 => k_is); (case k4 => k_is); (case a5 => k_is); (case l5 => k_is); (case c5 => k_is); (case k5 => k_is); (case a6 => k_is); (case l6 => k_is); (case c6 => k_is); (case k6 => k_is); (case a7 => k_is); (case l7 => k_is); (case c7 => k_is); (case k7 => k_is); (case a8 => k_is); (case l8 => k_is); (case c8 => k_is); (case k8 => k_is); (case a9 => k_is); (case l9 => k_is); (case c9 => k_is); (case k9 => k_is); (case a10 => k_is); (case l10 => k_is); (case c10 => k_is); (case k10 => k_is); (case a11 => k_is); (case l11 => k_is); (case c11 => k_is); (case k11 => k_is); (case a12 => k_is); (case l12 => k_is); (case c12 => k_is); (case k12 => k_is); (case a13 => k_is); (case l13 => k_is); (case c13 => k_is); (case k13 => k_is); (case a14 => k_is); (case l14 => k_is); (case c14 => k_is); (case k14 => k_is); (case a15 => k_is); (case l15 => k_is); (case c15 => k_is); (case k15 => k_is); (case a16 => k_is); (case l16 => k_is); (case c16 => k_is); (case k16 => k_is); (case a17 => k_is); (case l17 => k_is); (case c17 => k_is); (case k17 => k_is); (case a18 => k_is); (case l18 => k_is); (case c18 => k_is); (case k18 => k_is); (case a19 => k_is); (case l19 => k_is); (case c19 => k_is); (case k19 => k_is); (case a20 => k_is); (case l20 => k_is); (case c20 => k_is); (case k20 => k_is); (case a21 => k_is); (case l21 => k_is); (case c21 => k_is); (case k21 => k_is); (case a22 => k_is); (case l22 => k_is); (case c22 => k_is); (case k22 => k_is); (case z_sum => k_is); (case z_min => k_is); (case z_max => k_is); (case z_enumerate => k_is); (case z_tuple => k_is); (case z_len => k_is); (case z_abs => k_is); (case z_range => k_is); (case z_list => k_is); (case z_repr => k_is); (case gC0 => k_is); (case xL0 => k_is); (case bv0 => decide +kernel); (case sa0 => k_is); (case ga0 => k_is); (case gg0 => k_is); (case nb0 => k_is); (case iC0 => k_is); (case tI0 => k_is); (case lI0 => k_is); (case cI0 => k_is); (case kI0 => k_is); (case kC0 => k_is); (case eC0 => k_is); (case tC0 => k_is); (case hC0 => k_is); (case cl0 => k_is); (case mo0 => k_is); (case hn => k_is); (case ht => k_is); (case gCst => k_is); (case kt0_0 => kit_is); (case kb0 => kit_is); (case kv0 => kit_is); (case gSp => k_is); (case pgS => k_is); (case hdS => k_is); (case poS => k_is); (case saS => k_is); (case mkS => k_is); (case kcS => k_is); (case nfS0 => k_is); (case nfS1 => k_is); (case nfS2 => k_is); (case aS0 => k_is); (case iS0 => k_is); (case lS0 => k_is); (case cS0 => k_is); (case kS0 => k_is); (case aS1 => k_is); (case iS1 => k_is); (case lS1 => k_is); (case cS1 => k_is); (case kS1 => k_is); (case aS2 => k_is); (case iS2 => k_is); (case lS2 => k_is); (case cS2 => k_is); (case kS2 => k_is); (case aS3 => k_is); (case iS3 => k_is); (case lS3 => k_is); (case cS3 => k_is); (case kS3 => k_is); (case aS4 => k_is); (case iS4 => k_is); (case lS4 => k_is); (case cS4 => k_is); (case kS4 => k_is)


