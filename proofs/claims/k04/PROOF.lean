import PyProof.Rows.All
import Wide.All
import OpenK.AllK
import Wide.FinOn
import HandS.ForMost
import HandS.Flow
import HandS.Wide
import HandS.WideBits
import HandS.RaiseMore
import HandS.SortInts
import HandS.ForExc
import HandS.ExcInit
import HandS.ExcIs
import HandS.ExcValue
import HandS.IsInst
import HandS.ExcCtx
import KE.KExcIs
import HandS.WordsExc
import HandS.ExcOwn
import HandS.Zip
import HandS.Star
import HandS.SetFor
import HandS.NoneIn
import HandS.Style
import KE.GoesEnum
import HandS.Text
import HandS.StrMore
import HandS.Deep
import PyProof.StrOps2
import HandS.Conv
import HandS.GenList
import HandS.GenYield
import HandS.HotCalls
import HandS.Comp
import PySem.Challenge.RW_castchains_k04_errors_of_steps
set_option Elab.async false
set_option linter.all false
set_option maxRecDepth 100000
set_option maxHeartbeats 4000000
/-! A promise that is kept where no repr is under way; repr of plain data; powers of great ints; the frame around one list of ints that changes. -/
namespace Cc
open PySem PySem.Spec PyProof.Rows L2

/-! ### promises where no repr is under way -/
structure FnG (P : Program) (w : World) (K : PySem.W.Frag) (mg : Str → Option Value) (base : Heap) (CX : CXT) (k : Nat) (f : Addr) (fd : FuncData) (ps : List Str) (sp : Sp) : Prop where
  long : ∀ vs H Q E, sp vs H Q E → vs.length = ps.length
  goes : ∀ (A : Around), A.guards = some [] → Room k A → ∀ (outer : List Env) (s : Shared) (H : Hp), Env0 P w K mg base A outer s H → ∀ (args : Args) (us : List Value) (vs : List V) (Q : VK) (E : XK),
    BindsTo s fd args (ps.zip us) → Vals vs us → sp vs H Q E → codeAny (model P w) A (.call (.ref f) args) (CR CX outer P w H s Q E) s
section
variable {P : Program} {w : World} {K : PySem.W.Frag} {mg : Str → Option Value} {base : Heap} {CX : CXT} {k : Nat} {f : Addr} {fd : FuncData} {N ps : List Str} {sp : Sp}
theorem FnG.of (F : FnOk P w K mg base CX k f fd ps sp) : FnG P w K mg base CX k f fd ps sp :=
  ⟨F.len, fun A _ hr outer s H e0 args us vs Q E hb rv hs => F.run A outer s H args us vs Q E hr e0 hb rv hs⟩
theorem FnG.mono {j : Nat} (F : FnG P w K mg base CX j f fd ps sp) (h : j ≤ k) : FnG P w K mg base CX k f fd ps sp :=
  ⟨F.long, fun A hg hr => F.goes A hg (hr.mono h)⟩

theorem ce_of {cX : Cx} {outer : List Env} {s s' : Shared} {H H' : Hp} {Q : VK} {σ : L2.St} {v : V} {u : Value}
    (J : Inv cX [] σ H' s') (e0 : cX.prog = P) (e1 : cX.w = w) (e2 : cX.s_0 = s) (e3 : cX.H_0 = H) (e4 : cX.outer = outer) (e5 : cX.ex = []) (rv : RelV v u) (q : Q v H') : CE outer P w H s Q u s' := by
  subst e0 e1 e2 e3 e4
  refine ⟨v, H', J.os, J.bare, ?_, J.hok, rv, q⟩
  have b := J.base
  rw [e5] at b
  exact b
/-- a def by its body, at one place in a run -/
theorem def_at {qual : Str} {scope : Scope} {name : Str} {params : Arguments} {body : List Stmt} {dV kV doc pm cdv ct oc : Value} {an od : Option Addr} {osl : Array (Option Value)}
    (lk : K.lookup f = some ⟨oc, od, .func (PySem.W.fnOf name qual params body scope dV kV doc pm an cdv ct), osl⟩) (hcd : PySem.W.codeIn K cdv qual = true) (S : FnScope N ps scope)
    {A : Around} {outer : List Env} {s : Shared} {H : Hp} {args : Args} {us : List Value} {vs : List V} {Q : VK} {E : XK} {t : TS}
    (hr : Room (k + 1) A) (e0 : Env0 P w K mg base A outer s H) (hb : BindsTo s (PySem.W.fnOf name qual params body scope dV kV doc pm an cdv ct) args (ps.zip us)) (rv : Vals vs us) (hl : vs.length = ps.length)
    (ht : PSs (cxOf CX P w K mg base N qual scope f cdv A outer s H E) body t) (hq : t { nx := fun _ H' => Q .non H', rt := Q } (start N vs) H) :
    codeAny (model P w) A (.call (.ref f) args) (CR CX outer P w H s Q E) s := by
  have inK : K.In s.heap := e0.mod.kin.keeps fun b o e => (e0.bs b o e).1
  refine codeAny_call_function hr.depth (inK _ _ lk) rfl S.co S.gen rfl (PySem.W.codeRec_of inK hcd) (hb _ _ _ _ ?_)
  have kinds : ∀ y ∈ ps.zip us, scope.names.lookup y.1 = some .local ∨ (scope.names.lookup y.1 = some .cell ∧ ((cellsFrom (s.heap.objs.size + 1) scope.names []).lookup y.1).isSome = true) := by
    intro y hy
    obtain ⟨n, v⟩ := y
    cases S.par n (List.of_mem_zip hy).1 with
    | inl q => exact .inl q
    | inr q => exact .inr ⟨q, PySem.W.cellsFrom_some _ _ _ (.inl q)⟩
  refine wpAny_newFunctionEnv_cells S.kind kinds fun env he s1 x => ?_
  cases he
  have lim : s.heap.NoLimit := e0.mod.nolimit.keeps fun b o e => (e0.bs b o e).1
  refine ⟨lim.keeps x.toInCall.keep, codeAny_func ?_⟩
  have I : Inv (cxOf CX P w K mg base N qual scope f cdv A outer s H E) [] (start N vs) H s1 := inv_start S hr.hd e0 hl rv x
  refine wpAny_mono (ht.run [] s1 (start N vs) H _ I hq) (fun fl s' hs => ?_) fun _ _ h => h
  cases fl with
  | next =>
    obtain ⟨σ', H', J, q⟩ := hs
    exact ce_of (v := V.non) (u := Value.none) J rfl rfl rfl rfl rfl rfl rfl q
  | ret u =>
    obtain ⟨v, σ', H', J, rv', q⟩ := hs
    exact ce_of J rfl rfl rfl rfl rfl rfl rv' q
  | brk =>
    obtain ⟨_, _, _, q⟩ := hs
    exact False.elim q
  | cont =>
    obtain ⟨_, _, _, q⟩ := hs
    exact False.elim q
/-- a def of the text, its body read where no repr is under way -/
theorem okG {x qual : Str} {st : Stmt} (F : Fun K x qual st f fd) (S : FnScope N ps (defScope st)) (len : ∀ vs H Q E, sp vs H Q E → vs.length = ps.length)
    (hbody : ∀ (cdv : Value) (A : Around) (outer : List Env) (s : Shared) (H : Hp) (vs : List V) (Q : VK) (E : XK), A.guards = some [] → Room k (A.deeper (envOfC qual (defScope st) s.heap.objs.size f cdv)) → sp vs H Q E →
      ∃ t, PSs (cxOf CX0 P w K mg base N qual (defScope st) f cdv A outer s H E).nox (defBody st) t ∧ t { nx := fun _ H' => Q .non H', rt := Q } (start N vs) H) :
    FnG P w K mg base CX0 (k + 1) f fd ps sp := by
  obtain ⟨oc, od, kV, doc, pm, an, cdv, ct, osl, rfl, lk, hcd⟩ := F.ex
  refine ⟨len, fun A hg hr outer s H e0 args us vs Q E hb rv hs => ?_⟩
  obtain ⟨t, h, q⟩ := hbody cdv A outer s H vs Q E hg (hr.deeper _) hs
  exact def_at lk hcd S hr e0 hb rv (len _ _ _ _ hs) h.nox q
end

section
variable {X : Cx} {CX : CXT} {k : Nat} {f : Addr} {fd : FuncData} {ps : List Str} {sp : Sp} {dvs : List V} {ds : List Value} {E : XK} {x : Str} {p pos : Pos} {e : Expr} {es : List Expr} {t : TA}
theorem runG {pins : List (Addr × Obj)} {σ : L2.St} {H : Hp} {s : Shared} {Q : VK} {us : List Value} {vs : List V} (F : FnG X.prog X.w X.K X.mg X.base CX k f fd ps sp) (hG : X.A.guards = some []) (hr : Room k X.A) (hb : Binds X.K fd ps ds) (hd : Vals dvs ds) (hx : Passes CX X E)
    (I : Inv X pins σ H s) (r : Vals vs us) (h : sp (vs ++ dvs) H Q E) : wpAny (model X.prog X.w) X.A (call (.ref f) us) (EP X pins σ Q) X.xe s := by
  have both : Vals (vs ++ dvs) (us ++ ds) := r.append hd
  have many : (us ++ ds).length = ps.length := both.length.symm.trans (F.long _ _ _ _ h)
  refine wpAny_call (codeAny_mono (F.goes X.A hG hr X.stack s H I.env0 ⟨us, []⟩ (us ++ ds) (vs ++ dvs) Q E (hb s us I.kIn many) both h) fun r s' hq => ?_)
  match r, hq with
  | .error e, hq => exact hx pins σ H s e s' I hq
  | .ok (.ret u), hq => exact I.after hq
  | .ok .next, hq => exact hq.elim
  | .ok .brk, hq => exact hq.elim
  | .ok .cont, hq => exact hq.elim
/-- f(e, ..) -/
theorem pe_callG (F : FnG X.prog X.w X.K X.mg X.base CX k f fd ps sp) (hG : X.A.guards = some []) (hr : Room k X.A) (hg : Gl X x) (hm : X.mg x = some (.ref f)) (hk : PySem.W.keepIn X.K (.ref f) = true) (hb : Binds X.K fd ps ds) (hd : Vals dvs ds) (hx : Passes CX X E)
    (ha : PA X (e :: es) t) (hdb : (x == ("__debug__" : Str)) = false := by decide) (he : starEach (e :: es) X.env = (false, eval e X.env) :: starEach es X.env := by rfl) (hpl : (backTo pos (starEach es X.env)).any (·.1) = false := by rfl) :
    PE X (.Call (.Name x p) (e :: es) [] pos) (tCall sp dvs E t) :=
  ⟨fun pins s σ H Q I h => wpAny_Call_Name_kw (ld_glob I hg hm (PySem.W.callWith_K (h₀ := X.base) I.ok.mod.kin hk (thn (ha.run pos pins s σ H _ I h) fun us s1 ⟨vs, H1, I1, r, q⟩ => ⟨I1.kIn, runG F hG hr hb hd hx I1 r q⟩) he hpl) hdb)⟩
end

/-! ### the law's own call -/
theorem law_at {P : Program} {w : World} {K : PySem.W.Frag} {mg mb : Str → Option Value} {k : Nat} {fa a : Addr} {fd : FuncData} {x : Str} {sp : Sp} {s₁ : Shared} {vs : List Value} {ns : List Int}
    (inK : K.In s₁.heap) (hns : s₁.heap.Ns mainGlobals mg) (hb : s₁.heap.Ns builtinsNs mb) (hbb : ∀ x : Str, x ≠ "__name__" → mb x = bootBuiltins x) (hlim : s₁.heap.NoLimit) (hg : s₁.gens = #[])
    (ha : s₁.heap.get? a = some { cls := .type "list", data := .seq vs.toArray }) (hi : IntsAre vs ns) (hl : ns.length ≤ sizeLine) (hr : Room k callerA)
    (F : ∀ base : Heap, K.In base → base.Ns mainGlobals mg → FnG P w K mg base CX0 k fa fd [x] sp) (hbind : ∀ (s : Shared) (u : Value), BindsTo s fd ⟨[u], []⟩ [(x, u)])
    (hsp : ∀ H : Hp, Only H → SqL K H a (ns.map V.int) → sp [.ref a] H (fun v _ => v = .bl true) fun _ _ _ => False) :
    codeAny (model P w) callerA (.call (.ref fa) ⟨[.ref a], []⟩) (fun r s' => r = .ok (.ret (.bool true)) ∧ OldK s₁.heap s'.heap ∧ s'.os = s₁.os ∧ AllBare s'.gens) s₁ := by
  -- what is tracked is the script at most
  suffices core : ∀ H : Hp, (∀ b u, H b = some u → b = a ∧ u = .frz { cls := .type "list", data := .seq vs.toArray } (.lst (ns.map V.int)) ∧ K.lookup a = none) → SqL K H a (ns.map V.int) → HOk P w H s₁.heap →
      codeAny (model P w) callerA (.call (.ref fa) ⟨[.ref a], []⟩) (fun r s' => r = .ok (.ret (.bool true)) ∧ OldK s₁.heap s'.heap ∧ s'.os = s₁.os ∧ AllBare s'.gens) s₁ by
    cases hk : K.lookup a with
    | none =>
      refine core (fun b => if b = a then some (.frz { cls := .type "list", data := .seq vs.toArray } (.lst (ns.map V.int))) else none) (fun b u z => ?_) (.inl (.inr ⟨_, if_pos rfl⟩)) fun b u z => ?_
      · by_cases hb : b = a
        · exact ⟨hb, Option.some.inj (z.symm.trans (if_pos hb)), hk⟩
        · exact nomatch (if_neg hb).symm.trans z
      · by_cases hb : b = a
        · obtain rfl := Option.some.inj ((if_pos hb).symm.trans z)
          subst hb
          exact ⟨ha, by rw [List.length_map]; exact hl, vs, _, vals_ints hi, ha⟩
        · exact nomatch (if_neg hb).symm.trans z
    | some o =>
      have e := (inK a o hk).symm.trans ha
      cases e
      refine core (fun _ => none) (fun b u z => nomatch (show (none : Option HO) = some u from z)) (.inr ⟨_, vs.toArray, _, hk, rfl, rfl, rfl, ?_, ?_⟩) fun b u z => nomatch (show (none : Option HO) = some u from z)
      · rw [List.size_toArray, hi.length]; exact hl
      · simpa using vals_ints hi
  intro H only hS hok
  have off : ∀ {b : Addr} {o : Obj}, s₁.heap.get? b = some o → (b = a → False) → (hidT s₁.heap H).get? b = some o := fun {b o} e hne => hidT_get e (by
    cases q : H b with
    | none => rfl
    | some u => exact (hne (only b u q).1).elim)
  have dic : ∀ {b : Addr} {m : Str → Option Value}, s₁.heap.Ns b m → (hidT s₁.heap H).Ns b m := fun {b m} ⟨o, es, ep, e, d, r⟩ => ⟨o, es, ep, off e (fun hba => by
    rw [hba, ha] at e
    cases e
    exact nomatch (show Data.seq vs.toArray _ = Data.dict es ep from d)), d, r⟩
  have inB : K.In (hidT s₁.heap H) := fun b o e => hidT_get (inK b o e) (by
    cases q : H b with
    | none => rfl
    | some u =>
      obtain ⟨hba, _, hn⟩ := only b u q
      rw [hba, hn] at e
      cases e)
  have md : Mod K mg (hidT s₁.heap H) := ⟨inB, dic hns, ⟨mb, dic hb, hbb⟩, let ⟨mc, h1, h2⟩ := hlim; ⟨mc, dic h1, h2⟩⟩
  have e0 : Env0 P w K mg (hidT s₁.heap H) callerA [] s₁ H := ⟨rfl, md, fun _ _ e => of_hidT e, Nat.le_of_eq (hidT_size _ _), trivial, fun b hb => absurd (show b ∈ ([] : List Addr) from hb) (fun z => nomatch z), hok, .of_eq hg⟩
  have oH : Only H := fun b => by
    cases q : H b with
    | none => exact .inl rfl
    | some u => exact .inr ⟨_, _, congrArg some (only b u q).2.1⟩
  refine codeAny_mono ((F _ inB (dic hns)).goes callerA rfl hr [] s₁ H e0 ⟨[.ref a], []⟩ [.ref a] [.ref a] _ _ (hbind s₁ (.ref a)) (.cons rfl .nil) (hsp H oH hS)) fun r s' h => ?_
  match r, h with
  | .error e, h => exact h.elim
  | .ok .next, h => exact h.elim
  | .ok .brk, h => exact h.elim
  | .ok .cont, h => exact h.elim
  | .ok (.ret u), h =>
    obtain ⟨v, H', os, bare, un, hok', rv, q⟩ := h
    cases (show v = .bl true from q)
    cases (show u = Value.bool true from rv)
    refine ⟨rfl, OldK.of_keep fun b o e => ?_, os, bare⟩
    cases q : H b with
    | none => exact un.keep b o e q (fun z => nomatch z) (fun z => nomatch z)
    | some u =>
      obtain ⟨_, rfl, _⟩ := only b u q
      have e1 := (hok b _ q).1
      have e2 := (hok' b _ (un.frzs b _ _ q)).1
      exact e2.trans (e1.symm.trans e)
/-- the goal behind k_head -/
theorem walkG {l : PySem.W.OpenLaw} {n k : Nat} {q : Program} {loose : List Str} {XP : (Str → Option Value) → Heap → Prop} {YP : World → Heap → Prop} {d : DefRec} {K : Params → PySem.W.Frag} {sp : PySem.W.Frag → Sp} {x : Str}
    (hn : l.most = some n) (hn2 : n ≤ sizeLine) (hdf : d.params.defaults = []) (hr : Room k callerA) (hY : ∀ (w : World) (h : Heap), YP w h → (K w.params).In h)
    (F : ∀ (w : World) (mg : Str → Option Value) (fa : Addr) (h : Heap), (K w.params).In h → h.Ns mainGlobals mg → mg d.name = some (.ref fa) →
      ∃ fd : FuncData, (∀ (s : Shared) (u : Value), BindsTo s fd ⟨[u], []⟩ [(x, u)]) ∧ ∀ base : Heap, (K w.params).In base → base.Ns mainGlobals mg → FnG l.prog w (K w.params) mg base CX0 k fa fd [x] (sp (K w.params)))
    (hsp : ∀ (K : PySem.W.Frag) (H : Hp) (a : Addr) (ns : List Int), ns.length ≤ n → Only H → SqL K H a (ns.map V.int) → sp K [.ref a] H (fun v _ => v = .bl true) fun _ _ _ => False) :
    PySem.W.WalkO q loose XP YP l.row.toRowW d [] (fun f vs => PySem.call f vs) := by
  refine Att.attach_call hn hdf fun w s₀ s₁ mg mb fa o pm cd doc a vs ns G Y ho hd hcd hmg hobj hints hlen hg => ?_
  obtain ⟨fd, hb, hF⟩ := F w mg fa _ (hY w _ Y) G.T.g hmg
  exact law_at (hY w _ Y) G.T.g G.T.b G.T.builtins G.T.nolimit hg hobj hints (Nat.le_trans hlen hn2) hr hF hb fun H oH hS => hsp (K w.params) H a ns hlen oH hS

/-! ### repr of plain data -/
section
variable {X : Cx}
def rRepD (K : PySem.W.Frag) : List V → Hp → VK → Prop := fun xs H Q => ∃ v d, xs = [v] ∧ Dp K H v d ∧ d.showable = true ∧ d.depth ≤ 60 ∧ d.shown.length ≤ sizeLine ∧ Q (.str d.shown) H
theorem noDict {K : PySem.W.Frag} {H : Hp} : (∀ (d : PyData) (v : V), Dp K H v d → d.hasDict = false) ∧ True := by
  refine ⟨?_, trivial⟩
  intro d
  refine PyData.rec (motive_1 := fun d => ∀ v, Dp K H v d → d.hasDict = false) (motive_2 := fun ds => ∀ vs, DpAll K H vs ds → PyData.hasDictAll ds = false) (motive_3 := fun _ => True) (motive_4 := fun _ => True) ?_ ?_ ?_ ?_ ?_ ?_ ?_ ?_ ?_ ?_ ?_ ?_ d
  · intro v _; simp only [PyData.hasDict]
  · intro b v _; simp only [PyData.hasDict]
  · intro i v _; simp only [PyData.hasDict]
  · intro x v _; simp only [PyData.hasDict]
  · intro ds ih v h
    cases h with
    | lst _ ha => simp only [PyData.hasDict]; exact ih _ ha
  · intro ds ih v h
    cases h with
    | tup _ ha => simp only [PyData.hasDict]; exact ih _ ha
  · intro kvs _ v h
    cases h
  · intro vs _; simp only [PyData.hasDictAll]
  · intro d ds ih1 ih2 vs h
    cases h with
    | cons h1 h2 => simp only [PyData.hasDictAll, ih1 _ h1, ih2 _ h2, Bool.or_self]
  all_goals (intros; trivial)
theorem cr_repD (hG : X.A.guards = some []) (hu : X.A.units + 64 < cLine) : CallR X (.builtin "repr") (rRepD X.K) := by
  intro pins s σ H xs us Q I r h
  obtain ⟨v, d, rfl, hd, hs, hdp, hz, q⟩ := h
  obtain ⟨u, rfl, ru⟩ := vals1 r
  cases v with
  | ref a =>
    cases ru
    obtain ⟨as, rd⟩ := Dp.reads I d _ _ hd rfl
    exact repr_of_reads' rd hs (PyData.noDict_hsm (noDict.1 d _ hd)) hG (by omega) (fun _ _ e => e) (fun h' u tk hk => ⟨.str _, H, I.kept hk, ⟨_, rfl⟩, q⟩) hz
  | int i =>
    cases hd
    obtain ⟨t, rfl⟩ := ru
    exact PySem.P.repr_of_int (by simpa [PyData.showable] using hs) ⟨.str _, H, I.tok _, ⟨_, rfl⟩, q⟩
  | str x =>
    cases hd
    obtain ⟨t, rfl⟩ := ru
    exact PySem.P.repr_of_str ⟨.str _, H, I.tok _, ⟨_, rfl⟩, q⟩ hz
  | non =>
    cases hd
    cases ru
    exact PySem.P.repr_of_none ⟨.str _, H, I.tok _, ⟨_, rfl⟩, q⟩
  | bl b =>
    cases hd
    cases ru
    exact PySem.P.repr_of_bool ⟨.str _, H, I.tok _, ⟨_, rfl⟩, q⟩
  | byt b => cases hd
  | flt b => cases hd
  | ty n => cases hd
/-- a power of a great int -/
theorem op_powX : OpR X (binaryOp .Pow) (rI (fun i j => 0 ≤ j ∧ j ≤ 64 ∧ i.natAbs < 2 ^ 4000) fun i j => .int (i ^ j.toNat)) := opI fun i j _ _ _ _ _ hc q => by
  refine pow_int hc.1 ?_ q
  have b : (Builtin.Int.intBits i : Int) ≤ 4001 := by
    have h := PySem.Flt.log2_lt_of (k := 4000) (by omega) hc.2.2
    unfold Builtin.Int.intBits
    split <;> omega
  have n0 : (0 : Int) ≤ Builtin.Int.intBits i := Int.natCast_nonneg _
  have : (Builtin.Int.intBits i : Int) * j ≤ 4001 * 64 := Int.mul_le_mul b hc.2.1 hc.1 (by decide)
  have e : (2 : Int) ^ 27 = 134217728 := by decide
  omega
end
end Cc

set_option Elab.async false
set_option linter.all false
set_option maxRecDepth 100000
set_option maxHeartbeats 4000000
namespace Cc
open PySem PySem.Spec PyProof.Rows L2

/-! ### a def of the text by its name -/
def Tx (K : PySem.W.Frag) (mg : Str → Option Value) (x : Str) (st : Stmt) : Prop := ∃ f fd, Fun K x x st f fd ∧ mg x = some (.ref f)
/-- what a def of this name keeps -/
def Pr (P : Program) (w : World) (K : PySem.W.Frag) (mg : Str → Option Value) (base : Heap) (CX : CXT) (k : Nat) (x : Str) (ps : List Str) (sp : Sp) : Prop :=
  ∃ f fd, FnG P w K mg base CX k f fd ps sp ∧ mg x = some (.ref f) ∧ PySem.W.keepIn K (.ref f) = true ∧ Binds K fd ps []
section
variable {P : Program} {w : World} {K : PySem.W.Frag} {mg : Str → Option Value} {base : Heap} {k : Nat} {x : Str} {st : Stmt} {N ps : List Str} {sp : Sp}
theorem mkP (T : Tx K mg x st) (S : FnScope N ps (defScope st))
    (bi : ∀ (kV doc pm : Value) (an : Option Addr) (cdv ct : Value) (us : List Value), us.length = ps.length → bindArgs (PySem.W.fnOf x x (defArgs st) (defBody st) (defScope st) .none kV doc pm an cdv ct) ⟨us, []⟩ = pure (ps.zip us))
    (len : ∀ vs H Q E, sp vs H Q E → vs.length = ps.length)
    (hbody : ∀ (f : Addr) (cdv : Value) (A : Around) (outer : List Env) (s : Shared) (H : Hp) (vs : List V) (Q : VK) (E : XK), A.guards = some [] → Room k (A.deeper (envOfC x (defScope st) s.heap.objs.size f cdv)) → sp vs H Q E →
      ∃ t, PSs (cxOf CX0 P w K mg base N x (defScope st) f cdv A outer s H E).nox (defBody st) t ∧ t { nx := fun _ H' => Q .non H', rt := Q } (start N vs) H) :
    Pr P w K mg base CX0 (k + 1) x ps sp := by
  obtain ⟨f, fd, F, g⟩ := T
  exact ⟨f, fd, okG F S len (hbody f), g, F.kp, F.binds bi⟩
end
/-- the same of the def wherever its object stands -/
def PrAt (P : Program) (w : World) (K : PySem.W.Frag) (mg : Str → Option Value) (base : Heap) (CX : CXT) (k : Nat) (x : Str) (st : Stmt) (ps : List Str) (sp : Sp) : Prop :=
  ∀ f fd, Fun K x x st f fd → FnG P w K mg base CX k f fd ps sp
section
variable {P : Program} {w : World} {K : PySem.W.Frag} {mg : Str → Option Value} {base : Heap} {k : Nat} {x : Str} {st : Stmt} {N ps : List Str} {sp : Sp}
theorem mkA (S : FnScope N ps (defScope st)) (len : ∀ vs H Q E, sp vs H Q E → vs.length = ps.length)
    (hbody : ∀ (f : Addr) (cdv : Value) (A : Around) (outer : List Env) (s : Shared) (H : Hp) (vs : List V) (Q : VK) (E : XK), A.guards = some [] → Room k (A.deeper (envOfC x (defScope st) s.heap.objs.size f cdv)) → sp vs H Q E →
      ∃ t, PSs (cxOf CX0 P w K mg base N x (defScope st) f cdv A outer s H E).nox (defBody st) t ∧ t { nx := fun _ H' => Q .non H', rt := Q } (start N vs) H) :
    PrAt P w K mg base CX0 (k + 1) x st ps sp := fun f fd F => okG F S len (hbody f)
theorem tx_mk {f : Addr} {h : Heap} {oc : Value} {od an : Option Addr} {osl : Array (Option Value)} {kV doc pm cdv ct : Value} (X : K.In h) (G : h.Ns mainGlobals mg) (a : PySem.W.nsIn K mainGlobals x = some (some (.ref f)))
    (l : K.lookup f = some ⟨oc, od, .func (PySem.W.fnOf x x (defArgs st) (defBody st) (defScope st) .none kV doc pm an cdv ct), osl⟩) (c : PySem.W.codeIn K cdv x = true) (kp : PySem.W.keepIn K (.ref f) = true) : Tx K mg x st :=
  ⟨f, _, fun_mk l c kp, PySem.W.mg_of X G a⟩
end
section
variable {X : Cx} {CX : CXT} {j k : Nat} {ps : List Str} {sp : Sp} {x : Str} {p pos : Pos} {e : Expr} {es : List Expr} {t : TA}
theorem pe_P (h : Pr X.prog X.w X.K X.mg X.base CX0 j x ps sp) (hr : Room k X.A) (hG : X.A.guards = some []) (hg : Gl X x) (ha : PA X (e :: es) t) (hj : j ≤ k := by decide)
    (hdb : (x == ("__debug__" : Str)) = false := by decide) (he : starEach (e :: es) X.env = (false, eval e X.env) :: starEach es X.env := by rfl) (hpl : (backTo pos (starEach es X.env)).any (·.1) = false := by rfl) :
    PE X (.Call (.Name x p) (e :: es) [] pos) (tCall sp [] E0 t) := by
  obtain ⟨f, fd, F, g, kp, b⟩ := h
  exact pe_callG F hG (hr.mono hj) hg g kp b .nil pass0 ha hdb he hpl
end

/-! ### readings, one step each -/
theorem cxK {CX : CXT} {P : Program} {w : World} {K : PySem.W.Frag} {mg : Str → Option Value} {base : Heap} {N : List Str} {qual : Str} {scope : Scope} {f : Addr} {cd : Value} {A : Around} {outer : List Env} {s : Shared} {H : Hp} {E : XK} :
    (cxOf CX P w K mg base N qual scope f cd A outer s H E).K = K := rfl
theorem cxKn {CX : CXT} {P : Program} {w : World} {K : PySem.W.Frag} {mg : Str → Option Value} {base : Heap} {N : List Str} {qual : Str} {scope : Scope} {f : Addr} {cd : Value} {A : Around} {outer : List Env} {s : Shared} {H : Hp} {E : XK} :
    (cxOf CX P w K mg base N qual scope f cd A outer s H E).nox.K = K := rfl
section
variable {σ : L2.St} {H : Hp} {Q : VK} {K : PySem.W.Frag} {v x : V} {a b i' : Int} {i n : Nat} {s z : Str} {o : Option V} {k : Bool}
theorem x_var0 {r : L2.St} : tVar 0 (some v :: r) H Q ↔ Q v H := ⟨fun ⟨u, e, q⟩ => by cases e; exact q, fun q => ⟨v, rfl, q⟩⟩
theorem x_varS {r : L2.St} : tVar (n + 1) (o :: r) H Q ↔ tVar n r H Q := Iff.rfl
theorem x_c : tC v σ H Q ↔ Q v H := Iff.rfl
theorem x_op {r : R2} {ta tb : TE} : tOp r ta tb σ H Q ↔ ta σ H fun x H1 => tb σ H1 fun y H2 => r x y H2 Q := Iff.rfl
theorem x_un {r : V → Hp → VK → Prop} {ta : TE} : tUn r ta σ H Q ↔ ta σ H fun x H1 => r x H1 Q := Iff.rfl
theorem x_I0 {g : Int → Int → V} : rI0 g (.int a) (.int b) H Q ↔ Q (g a b) H := ⟨fun ⟨_, _, e1, e2, q⟩ => by cases e1; cases e2; exact q, fun q => ⟨_, _, rfl, rfl, q⟩⟩
theorem x_I {C : Int → Int → Prop} {g : Int → Int → V} : rI C g (.int a) (.int b) H Q ↔ C a b ∧ Q (g a b) H := ⟨fun ⟨_, _, e1, e2, q⟩ => by cases e1; cases e2; exact q, fun q => ⟨_, _, rfl, rfl, q⟩⟩
theorem x_rU {g : Int → V} : rU g (.int a) H Q ↔ Q (g a) H := ⟨fun ⟨_, e1, q⟩ => by cases e1; exact q, fun q => ⟨_, rfl, q⟩⟩
theorem x_nil {Q : List V → Hp → Prop} : tNil σ H Q ↔ Q [] H := Iff.rfl
theorem x_cons {ta : TE} {tr : TA} {Q : List V → Hp → Prop} : tCons ta tr σ H Q ↔ ta σ H fun x H1 => tr σ H1 fun xs H2 => Q (x :: xs) H2 := Iff.rfl
theorem x_test {te : TE} {Q : Bool → Hp → Prop} : tTest te σ H Q ↔ te σ H fun x H1 => ∃ k, x = .bl k ∧ Q k H1 := Iff.rfl
theorem x_B {te : TE} {Q : Bool → Hp → Prop} : tB te σ H Q ↔ te σ H fun x H1 => ∃ k, x = .bl k ∧ Q k H1 := Iff.rfl
theorem x_bl {Q : Bool → Prop} : (∃ c, V.bl k = V.bl c ∧ Q c) ↔ Q k := ⟨fun ⟨_, e, q⟩ => by cases e; exact q, fun q => ⟨_, rfl, q⟩⟩
theorem x_call {sp : Sp} {dvs : List V} {E : XK} {t : TA} : tCall sp dvs E t σ H Q ↔ t σ H fun vs H1 => sp (vs ++ dvs) H1 Q E := Iff.rfl
theorem x_CB {r : List V → Hp → VK → Prop} {t : TA} : tCB r t σ H Q ↔ t σ H fun vs H1 => r vs H1 Q := Iff.rfl
theorem x_tup {t : TA} : tTup t σ H Q ↔ t σ H fun xs H1 => xs.length ≤ sizeLine ∧ ∀ p, H1 p = none → Q (.ref p) (upd H1 p (.tup xs)) := Iff.rfl
theorem x_lst {t : TA} : tLst t σ H Q ↔ t σ H fun xs H1 => xs.length ≤ sizeLine ∧ ∀ p, H1 p = none → Q (.ref p) (upd H1 p (.lst xs)) := Iff.rfl
theorem x_not {t : TT} {Q : Bool → Hp → Prop} : tNot t σ H Q ↔ t σ H fun c H1 => Q (!c) H1 := Iff.rfl
theorem x_seq {t u : TS} {D : Ends} : tSeq t u D σ H ↔ t { D with nx := u D } σ H := Iff.rfl
theorem x_asg {te : TE} {g : TG} {D : Ends} : tAsg te g D σ H ↔ te σ H fun x H1 => g x σ H1 D.nx := Iff.rfl
theorem x_name {Q : L2.St → Hp → Prop} : gName i v σ H Q ↔ Q (σ.set i (some v)) H := Iff.rfl
theorem x_sub {to ti : TE} {t : TSet} {Q : L2.St → Hp → Prop} : gSub to ti t v σ H Q ↔ to σ H fun o H1 => ti σ H1 fun i H2 => t o i v H2 fun H3 => Q σ H3 := Iff.rfl
theorem x_ret {te : TE} {D : Ends} : tRet te D σ H ↔ te σ H D.rt := Iff.rfl
theorem x_ifS {c : TT} {t u : TS} {D : Ends} : tIfS c t u D σ H ↔ c σ H fun b H1 => if b = true then t D σ H1 else u D σ H1 := Iff.rfl
theorem x_next {D : Ends} : tNext D σ H ↔ D.nx σ H := Iff.rfl
theorem x_ixL {p : Addr} {xs : List V} (h : SqL K H p xs) (ha : atI xs i' = some v) (q : Q v H) : rIxL K (.ref p) (.int i') H Q := ⟨p, xs, i', v, rfl, rfl, h, ha, q⟩
theorem x_ixT {p : Addr} {xs : List V} (h : SqT K H p xs) (ha : atI xs i' = some v) (q : Q v H) : rIxT K (.ref p) (.int i') H Q := ⟨p, xs, i', v, rfl, rfl, h, ha, q⟩
theorem x_ite {c : Prop} [Decidable c] {A B : Prop} : (if decide c = true then A else B) ↔ ((c → A) ∧ (¬ c → B)) := by
  by_cases h : c
  · simp [h]
  · simp [h]
theorem x_iteN {c : Prop} [Decidable c] {A B : Prop} : (if (!decide c) = true then A else B) ↔ ((¬ c → A) ∧ (c → B)) := by
  by_cases h : c
  · simp [h]
  · simp [h]
theorem x_T {A B : Prop} : (if true = true then A else B) ↔ A := by simp
theorem x_F {A B : Prop} : (if false = true then A else B) ↔ B := by simp
theorem x_tT {A B : Prop} : (if (!true) = true then A else B) ↔ B := by simp
theorem x_tF {A B : Prop} : (if (!false) = true then A else B) ↔ A := by simp
theorem x_eqII {a b : Int} : scal (.int a) (.int b) = true := rfl
theorem x_eqSS {a b : Str} : scal (.str a) (.str b) = true := rfl
theorem x_eqBB {a b : Bool} : scal (.bl a) (.bl b) = true := rfl
theorem x_Eq : rEq v x H Q ↔ (scal v x = true ∧ Q (.bl (decide (v = x))) H) := Iff.rfl
theorem x_Ne : rNe v x H Q ↔ (scal v x = true ∧ Q (.bl (!decide (v = x))) H) := Iff.rfl
theorem x_and {t u : TT} {Q : Bool → Hp → Prop} : tAnd t u σ H Q ↔ t σ H fun c H1 => if c = true then u σ H1 Q else Q false H1 := Iff.rfl
theorem x_or {t u : TT} {Q : Bool → Hp → Prop} : tOr t u σ H Q ↔ t σ H fun c H1 => if c = true then Q true H1 else u σ H1 Q := Iff.rfl
theorem x_andV {ta tb : TE} : tAndV ta tb σ H Q ↔ ta σ H fun x H1 => ∃ c, x = .bl c ∧ if c = true then tb σ H1 Q else Q (.bl false) H1 := Iff.rfl
theorem x_orV {ta tb : TE} : tOrV ta tb σ H Q ↔ ta σ H fun x H1 => ∃ c, x = .bl c ∧ if c = true then Q (.bl true) H1 else tb σ H1 Q := Iff.rfl
theorem x_notV {ta : TE} : tNotV ta σ H Q ↔ ta σ H fun x H1 => ∃ c, x = .bl c ∧ Q (.bl (!c)) H1 := Iff.rfl
theorem x_if {t : TT} {ta tb : TE} : tIf t ta tb σ H Q ↔ t σ H fun c H1 => if c = true then ta σ H1 Q else tb σ H1 Q := Iff.rfl
theorem x_par {i j : Nat} {ta : TA} {D : Ends} : tPar i j ta D σ H ↔ ta σ H fun vs H1 => ∃ v w, vs = [v, w] ∧ D.nx ((σ.set i (some v)).set j (some w)) H1 := Iff.rfl
theorem x_two {v w : V} {Q : V → V → Prop} : (∃ a b, [v, w] = [a, b] ∧ Q a b) ↔ Q v w := ⟨fun ⟨_, _, e, q⟩ => by cases e; exact q, fun q => ⟨_, _, rfl, q⟩⟩
theorem x_drop {te : TE} {D : Ends} : tDrop te D σ H ↔ te σ H fun _ H1 => D.nx σ H1 := Iff.rfl
theorem x_BM {T : String} {r : V → List V → Hp → VK → Prop} {to : TE} {t : TA} : tBM K T r to t σ H Q ↔ to σ H fun x H1 => tyV K T x H1 ∧ t σ H1 fun xs H2 => r x xs H2 Q := Iff.rfl
theorem x_app {l : Addr} {xs : List V} (h : H l = some (.lst xs)) (hz : xs.length < sizeLine) (q : Q .non (upd H l (.lst (xs ++ [v])))) : rAppend (.ref l) [v] H Q := ⟨l, xs, v, rfl, rfl, h, hz, q⟩
theorem x_tyL {l : Addr} {xs : List V} (h : SqL K H l xs) : tyV K "list" (.ref l) H := Or.inl ⟨rfl, _, h⟩
theorem x_set0 {r : L2.St} {u : Option V} : List.set (o :: r) 0 u = u :: r := rfl
theorem x_setS {r : L2.St} {u : Option V} : List.set (o :: r) (n + 1) u = o :: List.set r n u := rfl
theorem x_setL {p : Addr} {xs : List V} {j : Nat} {Q : Hp → Prop} (h : H p = some (.lst xs)) (hj : ixN xs.length i' = some j) (q : Q (upd H p (.lst (xs.set j v)))) : rSetL (.ref p) (.int i') v H Q := ⟨p, xs, i', j, rfl, rfl, h, hj, q⟩
/-- what is left of a for loop over J -/
def Lp (J : It) (g : TG) (tb : TS) (D : Ends) (σ : L2.St) (H1 : Hp) : Prop := ∃ W : Nat → Nat → L2.St → Hp → Prop, (∃ m, W 0 m σ H1) ∧ ∀ i m σ H, W i m σ H →
  (J.stop i H ∧ D.nx σ H) ∨ (J.go i H ∧ ∃ N : L2.St → Hp → Prop, (∀ σ' H', N σ' H' → ∃ m', m' < m ∧ W (i + 1) m' σ' H') ∧ ∀ x H', J.yld i H x H' → g x σ H' fun σ2 H2 => tb { D with nx := N, ct := N, bk := D.nx } σ2 H2)
theorem x_forL {te : TE} {g : TG} {tb : TS} {D : Ends} : tFor (iList K te) g tb D σ H ↔ te σ H fun x H1 => ∃ a, x = .ref a ∧ (∃ xs, SqL K H1 a xs) ∧ Lp (Itl K a) g tb D σ H1 := Iff.rfl
theorem x_forT {te : TE} {g : TG} {tb : TS} {D : Ends} : tFor (iTup K te) g tb D σ H ↔ te σ H fun x H1 => ∃ a, x = .ref a ∧ (∃ xs, SqT K H1 a xs) ∧ Lp (Itt K a) g tb D σ H1 := Iff.rfl
theorem x_forR1 {ta : TA} {g : TG} {tb : TS} {D : Ends} : tFor (iRng1 ta) g tb D σ H ↔ ta σ H fun vs H1 => ∃ j : Int, vs = [.int j] ∧ -(2 ^ 62) ≤ j ∧ j < 2 ^ 62 ∧ Lp (Itr 0 j.toNat) g tb D σ H1 := Iff.rfl
theorem x_forR2 {ta : TA} {g : TG} {tb : TS} {D : Ends} : tFor (iRng2 ta) g tb D σ H ↔ ta σ H fun vs H1 => ∃ i j : Int, vs = [.int i, .int j] ∧ (-(2 ^ 62) ≤ i ∧ i < 2 ^ 62 ∧ -(2 ^ 62) ≤ j ∧ j < 2 ^ 62) ∧ Lp (Itr i (j - i).toNat) g tb D σ H1 := Iff.rfl
theorem x_forE {ta : TA} {g : TG} {tb : TS} {D : Ends} : tFor (iEnum K ta) g tb D σ H ↔ ta σ H fun vs H1 => ∃ a xs, vs = [.ref a] ∧ SqL K H1 a xs ∧ Lp (Ite K a) g tb D σ H1 := Iff.rfl
theorem lpL {a : Addr} {xs : List V} {g : TG} {tb : TS} {D : Ends} (Pv : Nat → L2.St → Hp → Prop) (h0 : Pv 0 σ H) (hl : ∀ i σ H, i ≤ xs.length → Pv i σ H → SqL K H a xs)
    (hs : ∀ i x σ H, xs[i]? = some x → Pv i σ H → g x σ H fun σ2 H2 => tb { D with nx := Pv (i + 1), ct := Pv (i + 1), bk := D.nx } σ2 H2) (hd : ∀ σ H, Pv xs.length σ H → D.nx σ H) : Lp (Itl K a) g tb D σ H := for_list Pv h0 hl hs hd
theorem lpT {a : Addr} {xs : List V} {g : TG} {tb : TS} {D : Ends} (Pv : Nat → L2.St → Hp → Prop) (h0 : Pv 0 σ H) (hl : ∀ i σ H, i ≤ xs.length → Pv i σ H → SqT K H a xs)
    (hs : ∀ i x σ H, xs[i]? = some x → Pv i σ H → g x σ H fun σ2 H2 => tb { D with nx := Pv (i + 1), ct := Pv (i + 1), bk := D.nx } σ2 H2) (hd : ∀ σ H, Pv xs.length σ H → D.nx σ H) : Lp (Itt K a) g tb D σ H := for_tup Pv h0 hl hs hd
theorem lpR {lo : Int} {m : Nat} {g : TG} {tb : TS} {D : Ends} (Pv : Nat → L2.St → Hp → Prop) (h0 : Pv 0 σ H)
    (hs : ∀ i σ H, i < m → Pv i σ H → g (.int (lo + i)) σ H fun σ2 H2 => tb { D with nx := Pv (i + 1), ct := Pv (i + 1), bk := D.nx } σ2 H2) (hd : ∀ σ H, Pv m σ H → D.nx σ H) : Lp (Itr lo m) g tb D σ H := for_range Pv h0 hs hd
theorem lpE {a : Addr} {xs : List V} {g : TG} {tb : TS} {D : Ends} (Pv : Nat → L2.St → Hp → Prop) (h0 : Pv 0 σ H) (hl : ∀ i σ H, i ≤ xs.length → Pv i σ H → SqL K H a xs)
    (hs : ∀ i x σ H T, xs[i]? = some x → Pv i σ H → H T = none → g (.ref T) σ (upd H T (.tup [.int (i : Nat), x])) fun σ2 H2 => tb { D with nx := Pv (i + 1), ct := Pv (i + 1), bk := D.nx } σ2 H2) (hd : ∀ σ H, Pv xs.length σ H → D.nx σ H) : Lp (Ite K a) g tb D σ H := by
  refine ⟨fun i m σ H => m = xs.length - i ∧ i ≤ xs.length ∧ Pv i σ H, ⟨xs.length, by simp, Nat.zero_le _, h0⟩, ?_⟩
  rintro i m σ H ⟨rfl, hi, p⟩
  have q := hl i σ H hi p
  by_cases hlt : i < xs.length
  · refine .inr ⟨⟨xs, xs[i], q, by simp [hlt]⟩, Pv (i + 1), fun σ' H' p' => ⟨xs.length - (i + 1), by omega, rfl, hlt, p'⟩, fun x H' y => ?_⟩
    obtain ⟨T, z, rfl, nT, rfl, f⟩ := y
    have e := f xs q
    exact hs i z σ H T e p nT
  · have e : i = xs.length := by omega
    subst e
    exact .inl ⟨⟨xs, q, Nat.le_refl _⟩, hd σ H p⟩
theorem x_ref {b : Addr} {P : Addr → Prop} : (∃ a, V.ref b = V.ref a ∧ P a) ↔ P b := ⟨fun ⟨_, e, q⟩ => by cases e; exact q, fun q => ⟨_, rfl, q⟩⟩
theorem x_int1 {a : Int} {P : Int → Prop} : (∃ i, V.int a = V.int i ∧ P i) ↔ P a := ⟨fun ⟨_, e, q⟩ => by cases e; exact q, fun q => ⟨_, rfl, q⟩⟩
theorem x_oneI {a : Int} {P : Int → Prop} : (∃ i, [V.int a] = [V.int i] ∧ P i) ↔ P a := ⟨fun ⟨_, e, q⟩ => by cases e; exact q, fun q => ⟨_, rfl, q⟩⟩
theorem x_oneB {P : Bool → Prop} : (∃ i, [V.bl k] = [V.bl i] ∧ P i) ↔ P k := ⟨fun ⟨_, e, q⟩ => by cases e; exact q, fun q => ⟨_, rfl, q⟩⟩
theorem x_noBI {P : Int → Prop} : (∃ i, [V.bl k] = [V.int i] ∧ P i) ↔ False := ⟨fun ⟨_, e, _⟩ => (nomatch e), fun q => q.elim⟩
theorem x_twoI {a b : Int} {P : Int → Int → Prop} : (∃ i j, [V.int a, V.int b] = [V.int i, V.int j] ∧ P i j) ↔ P a b := ⟨fun ⟨_, _, e, q⟩ => by cases e; exact q, fun q => ⟨_, _, rfl, q⟩⟩
theorem x_sl {r : V → Option Int → Option Int → Hp → VK → Prop} {te : TE} {tl th : TO} : tSl r te tl th σ H Q ↔ te σ H fun x H1 => tl σ H1 fun l H2 => th σ H2 fun u H3 => r x l u H3 Q := Iff.rfl
theorem x_noP {Q : Option Int → Hp → Prop} : tNoPart σ H Q ↔ Q none H := Iff.rfl
theorem x_part {te : TE} {Q : Option Int → Hp → Prop} : tPart te σ H Q ↔ te σ H fun x H1 => ∃ i, x = .int i ∧ Q (some i) H1 := Iff.rfl
theorem x_slL {a : Addr} {xs : List V} {lo hi : Option Int} (h : SqL K H a xs) (q : ∀ p, H p = none → Q (.ref p) (upd H p (.lst (cutV xs lo hi)))) : rSlL K (.ref a) lo hi H Q := ⟨a, xs, rfl, h, q⟩
theorem same_new {H : Hp} {p : Addr} {o : HO} (h : H p = none) : Same H (upd H p o) := fun b x e => by rw [upd_ne (ne_of_none e h)]; exact e
theorem same_mut {H H' : Hp} {p : Addr} {o : HO} (e : Same H H') (h : H p = none) : Same H (upd H' p o) := fun a u ha => by rw [upd_ne (ne_of_none ha h)]; exact e a u ha
theorem x_gtup {a : Addr} {xs : List V} {t : TGs} {Q : L2.St → Hp → Prop} (h : SqT K H a xs) (hl : xs.length = n) (q : t xs σ H Q) : gTup K n t (.ref a) σ H Q := ⟨a, xs, rfl, h, hl, q⟩
theorem x_gcons {t : TG} {u : TGs} {xs : List V} {Q : L2.St → Hp → Prop} : gCons t u (v :: xs) σ H Q ↔ t v σ H fun σ' H' => u xs σ' H' Q := ⟨fun ⟨_, _, e, q⟩ => by cases e; exact q, fun q => ⟨_, _, rfl, q⟩⟩
theorem x_gnil {Q : L2.St → Hp → Prop} : gNil [] σ H Q ↔ Q σ H := ⟨fun ⟨_, q⟩ => q, fun q => ⟨rfl, q⟩⟩
theorem x_dec {a b : Int} : decide (V.int a = V.int b) = decide (a = b) := by
  by_cases h : a = b
  · simp [h]
  · rw [decide_eq_false h, decide_eq_false (fun e => h (V.int.inj e))]
theorem x_decS {a b : Str} : decide (V.str a = V.str b) = decide (a = b) := by
  by_cases h : a = b
  · simp [h]
  · rw [decide_eq_false h, decide_eq_false (fun e => h (V.str.inj e))]
end
theorem atI_in {xs : List V} {i : Int} (h0 : 0 ≤ i) (h1 : i < xs.length) : ∃ x, atI xs i = some x ∧ x ∈ xs := by
  have hj : i.toNat < xs.length := by omega
  refine ⟨xs[i.toNat], ?_, List.getElem_mem hj⟩
  have e := atI_nat (xs := xs) (j := i.toNat) (List.getElem?_eq_getElem hj)
  rwa [Int.toNat_of_nonneg h0] at e
/-- an if without else: what follows is shown once, for all heaps of which I holds -/
theorem joinI {c A : Prop} {G : Hp → Prop} {H : Hp} (I : Hp → Prop) (hI : I H) (t : ∀ H, I H → G H) (ha : c → (∀ H, I H → G H) → A) : (c → A) ∧ (¬ c → G H) := ⟨fun h => ha h t, fun _ => t H hI⟩
theorem joinE {c A : Prop} {G : Hp → Prop} {H : Hp} (I : Hp → Prop) (hI : I H) (t : ∀ H, I H → G H) (ha : ¬ c → (∀ H, I H → G H) → A) : (c → G H) ∧ (¬ c → A) := ⟨fun _ => t H hI, fun h => ha h t⟩
end Cc

set_option Elab.async false
set_option linter.all false
set_option maxRecDepth 100000
set_option maxHeartbeats 4000000
/-! When repr of plain data is short enough. -/
namespace Cc
open PySem PySem.Spec PyProof.Rows L2
mutual
def smallD : PyData → Prop
  | .none => True
  | .bool _ => True
  | .int i => i.natAbs < 10 ^ 500
  | .str x => ∀ c ∈ x.cps.toList, c < 16 ^ 8
  | .list xs => smallL xs
  | .tuple xs => smallL xs
  | .dict _ => False
def smallL : List PyData → Prop
  | [] => True
  | x :: xs => smallD x ∧ smallL xs
end
mutual
theorem small_ok : ∀ d : PyData, smallD d → d.showable = true ∧ d.leavesShort 700 = true
  | .none, _ => ⟨rfl, rfl⟩
  | .bool _, _ => ⟨rfl, rfl⟩
  | .int i, h => by
    have h1 : i.natAbs < 10 ^ 500 := by simpa only [smallD] using h
    have h2 : i.natAbs < 2 ^ 1920 := Nat.lt_trans h1 (by decide +kernel)
    refine ⟨by simp only [PyData.showable, decide_eq_true_eq]; exact log2_small h2, ?_⟩
    simp only [PyData.leavesShort, decide_eq_true_eq, PyData.shown]
    refine decide_eq_true ?_
    rw [PySem.ofString_length]
    exact Nat.le_trans (int_text_length_le10 (k := 500) (by decide) h1) (show 500 + 1 ≤ 700 by decide)
  | .str x, h => by
    refine ⟨rfl, ?_⟩
    simp only [PyData.leavesShort, List.all_eq_true, decide_eq_true_eq]
    simpa only [smallD] using h
  | .list xs, h => by
    have q := small_okL xs (by simpa only [smallD] using h)
    exact ⟨by simpa only [PyData.showable] using q.1, by simpa only [PyData.leavesShort] using q.2⟩
  | .tuple xs, h => by
    have q := small_okL xs (by simpa only [smallD] using h)
    exact ⟨by simpa only [PyData.showable] using q.1, by simpa only [PyData.leavesShort] using q.2⟩
  | .dict _, h => by simp only [smallD] at h
theorem small_okL : ∀ ds : List PyData, smallL ds → PyData.showableAll ds = true ∧ PyData.leavesShortAll 700 ds = true
  | [], _ => ⟨rfl, rfl⟩
  | d :: ds, h => by
    have h' : smallD d ∧ smallL ds := by simpa only [smallL] using h
    have q1 := small_ok d h'.1
    have q2 := small_okL ds h'.2
    exact ⟨by simp only [PyData.showableAll, q1.1, q2.1, Bool.and_self], by simp only [PyData.leavesShortAll, q1.2, q2.2, Bool.and_self]⟩
end
def Rok (d : PyData) : Prop := d.showable = true ∧ d.depth ≤ 60 ∧ d.shown.length ≤ sizeLine
theorem rok_of {d : PyData} (h : smallD d) (hd : d.depth ≤ 60) (hb : d.bulk ≤ 20000) : Rok d := by
  have q := small_ok d h
  refine ⟨q.1, hd, ?_⟩
  have z := PyData.shown_le_bulk 700 (by decide) d q.2
  have : (700 + 2) * d.bulk ≤ 702 * 20000 := Nat.mul_le_mul (by omega) hb
  rw [sizeLine_eq]
  omega
section
variable {K : PySem.W.Frag} {H : Hp} {Q : VK} {v : V} {d : PyData}
theorem x_repD (h : Dp K H v d) (r : Rok d) (q : Q (.str d.shown) H) : rRepD K [v] H Q := ⟨v, d, rfl, h, r.1, r.2.1, r.2.2, q⟩
end
theorem nat_abs_lt {i : Int} (h0 : -(10 ^ 400) < i) (h1 : i < 10 ^ 400) : i.natAbs < 10 ^ 500 := by
  have h : i.natAbs < 10 ^ 400 := by
    rcases Int.natAbs_eq i with e | e
    · rw [e] at h1; exact_mod_cast h1
    · rw [e] at h0
      have : ((i.natAbs : Nat) : Int) < 10 ^ 400 := by omega
      exact_mod_cast this
  exact Nat.lt_trans h (by decide +kernel)
end Cc

set_option Elab.async false
set_option linter.all false
set_option maxRecDepth 100000
set_option maxHeartbeats 4000000
/-! Data in a growing heap; comprehensions; a text repeated. -/
namespace Cc
open PySem PySem.Spec PyProof.Rows L2
theorem Same.tup' {K : PySem.W.Frag} {H H' : Hp} {a : Addr} {xs : List V} (e : Same H H') (h : SqT K H a xs) : SqT K H' a xs := by
  rcases h with (h | ⟨o, h⟩) | h
  · exact .inl (.inl (e _ _ h))
  · exact .inl (.inr ⟨o, e _ _ h⟩)
  · exact .inr h
mutual
theorem Dp.same {K : PySem.W.Frag} {H H' : Hp} (e : Same H H') : ∀ (d : PyData) {v : V}, Dp K H v d → Dp K H' v d
  | .none, _, h => by cases h; exact .non
  | .bool b, _, h => by cases h; exact .bl b
  | .int i, _, h => by cases h; exact .int i
  | .str x, _, h => by cases h; exact .str x
  | .list ds, _, h => by
    cases h with
    | lst hs ha => exact .lst (e.seq hs) (DpAll.same e ds ha)
  | .tuple ds, _, h => by
    cases h with
    | tup hs ha => exact .tup (Same.tup' e hs) (DpAll.same e ds ha)
  | .dict _, _, h => by cases h
theorem DpAll.same {K : PySem.W.Frag} {H H' : Hp} (e : Same H H') : ∀ (ds : List PyData) {vs : List V}, DpAll K H vs ds → DpAll K H' vs ds
  | [], _, h => by cases h; exact .nil
  | d :: ds, _, h => by
    cases h with
    | cons h1 h2 => exact .cons (Dp.same e d h1) (DpAll.same e ds h2)
end
theorem dpBools {K : PySem.W.Frag} {H : Hp} : ∀ bs : List Bool, DpAll K H (bs.map V.bl) (bs.map PyData.bool)
  | [] => .nil
  | b :: bs => .cons (.bl b) (dpBools bs)
/-- what is left of a comprehension over J, its list at D -/
def Lcp (J : It) (g : TG) (tt : TT) (te : TE) (vs : List Nat) (σ : L2.St) (D : Addr) (H1 : Hp) (Q : VK) : Prop := ∃ W : Nat → Nat → Hp → Prop, (∃ m, W 0 m (upd H1 D (.lst []))) ∧ ∀ i m H, W i m H →
  (J.stop i H ∧ Q (.ref D) H) ∨ (J.go i H ∧ ∃ Nx : Hp → Prop, (∀ H', Nx H' → ∃ m', m' < m ∧ W (i + 1) m' H') ∧ ∀ x H', J.yld i H x H' → g x (wipe σ vs) H' fun σ2 H2 => wipe σ2 vs = wipe σ vs ∧ tt σ2 H2 fun b H3 =>
    if b = true then te σ2 H3 fun y H4 => ∃ acc, H4 D = some (.lst acc) ∧ acc.length < sizeLine ∧ Nx (upd H4 D (.lst (acc ++ [y]))) else Nx H3)
section
variable {K : PySem.W.Frag} {σ : L2.St} {H : Hp} {Q : VK} {g : TG} {tt : TT} {te tl : TE} {ta : TA} {vs : List Nat} {D : Addr} {n : Nat} {o : Option V}
theorem x_lcR1 : tLc (iRng1 ta) g tt te vs σ H Q ↔ ta σ H fun ws H1 => ∃ j : Int, ws = [.int j] ∧ -(2 ^ 62) ≤ j ∧ j < 2 ^ 62 ∧ ∀ D, H1 D = none → Lcp (Itr 0 j.toNat) g tt te vs σ D H1 Q := Iff.rfl
theorem x_lcL : tLc (iList K tl) g tt te vs σ H Q ↔ tl σ H fun x H1 => ∃ a, x = .ref a ∧ (∃ xs, SqL K H1 a xs) ∧ ∀ D, H1 D = none → Lcp (Itl K a) g tt te vs σ D H1 Q := Iff.rfl
theorem lcR {lo : Int} {n : Nat} (Pv : Nat → Hp → Prop) (h0 : Pv 0 (upd H D (.lst [])))
    (hs : ∀ i H, i < n → Pv i H → g (.int (lo + i)) (wipe σ vs) H fun σ2 H2 => wipe σ2 vs = wipe σ vs ∧ tt σ2 H2 fun b H3 =>
      if b = true then te σ2 H3 fun y H4 => ∃ acc, H4 D = some (.lst acc) ∧ acc.length < sizeLine ∧ Pv (i + 1) (upd H4 D (.lst (acc ++ [y]))) else Pv (i + 1) H3) (hd : ∀ H, Pv n H → Q (.ref D) H) : Lcp (Itr lo n) g tt te vs σ D H Q := lc_range Pv h0 hs hd
theorem lcL {a : Addr} {xs : List V} (Pv : Nat → Hp → Prop) (h0 : Pv 0 (upd H D (.lst []))) (hl : ∀ i H, i ≤ xs.length → Pv i H → SqL K H a xs)
    (hs : ∀ i x H, xs[i]? = some x → Pv i H → g x (wipe σ vs) H fun σ2 H2 => wipe σ2 vs = wipe σ vs ∧ tt σ2 H2 fun b H3 =>
      if b = true then te σ2 H3 fun y H4 => ∃ acc, H4 D = some (.lst acc) ∧ acc.length < sizeLine ∧ Pv (i + 1) (upd H4 D (.lst (acc ++ [y]))) else Pv (i + 1) H3) (hd : ∀ H, Pv xs.length H → Q (.ref D) H) : Lcp (Itl K a) g tt te vs σ D H Q := lc_list Pv h0 hl hs hd
theorem x_yes {Q : Bool → Hp → Prop} : tYes σ H Q ↔ Q true H := Iff.rfl
theorem x_wipe0 : wipe σ [] = σ := rfl
theorem x_wipeS {v : Nat} : wipe σ (v :: vs) = (wipe σ vs).set v none := rfl
end
/-! ### a text repeated -/
theorem rep_size (a : Array Nat) : ∀ (n : Nat) (b : Array Nat), ((List.replicate n a).foldl (· ++ ·) b).size = b.size + n * a.size
  | 0, b => by simp
  | n + 1, b => by
    rw [List.replicate_succ, List.foldl_cons, rep_size a n (b ++ a), Array.size_append, Nat.succ_mul]
    omega
theorem rep_mem (a : Array Nat) : ∀ (n : Nat) (b : Array Nat) (c : Nat), c ∈ ((List.replicate n a).foldl (· ++ ·) b).toList → c ∈ b.toList ∨ c ∈ a.toList
  | 0, b, c, h => by simp at h; exact .inl (by simpa using h)
  | n + 1, b, c, h => by
    rw [List.replicate_succ, List.foldl_cons] at h
    rcases rep_mem a n (b ++ a) c h with h | h
    · rw [Array.toList_append, List.mem_append] at h
      exact h
    · exact .inr h
section
variable {X : Cx}
def rRepS : R2 := fun x y H Q => ∃ z n, x = .str z ∧ y = .int n ∧ 0 ≤ n ∧ n ≤ 1000 ∧ z.length ≤ 1000 ∧ ∀ z' : Str, z'.length ≤ z.length * n.toNat → (∀ c ∈ z'.cps.toList, c ∈ z.cps.toList) → Q (.str z') H
theorem op_repS : OpR X (binaryOp .Mult) rRepS := by
  intro pins s σ H x y v u Q I rx ry h
  obtain ⟨z, n, rfl, rfl, n0, n1, hz, q⟩ := h
  obtain ⟨t, rfl⟩ := rx
  obtain ⟨t', rfl⟩ := ry
  have hm : z.length * n.toNat ≤ 1000 * 1000 := Nat.mul_le_mul hz (by omega)
  refine PySem.P.mul_str (by simp; omega) (fun h1 _ => ?_) (fun _ _ => ?_) ?_
  · have h2 : (1000 : Int) ≤ (2 ^ 63 - 1) / n := by
      rw [Int.le_ediv_iff_mul_le (by omega)]
      omega
    omega
  · unfold PySem.Builtin.Str.tooLong
    rw [decide_eq_false]
    rw [sizeLine_eq]
    omega
  · split
    · exact ⟨by decide, ⟨.str Str.empty, H, I.tok _, ⟨_, rfl⟩, q _ (Nat.zero_le _) (fun c hc => nomatch hc)⟩⟩
    · split
      · rename_i h1 h2
        refine ⟨.str z, H, I, ⟨_, rfl⟩, q z ?_ (fun c hc => hc)⟩
        exact Nat.le_mul_of_pos_right _ (by omega)
      · refine ⟨?_, ⟨.str _, H, I.tok _, ⟨_, rfl⟩, q _ ?_ (fun c hc => ?_)⟩⟩
        · show ((List.replicate n.toNat z.cps).foldl (· ++ ·) #[]).size ≤ sizeLine
          rw [rep_size, sizeLine_eq, Nat.mul_comm, show z.cps.size = z.length from rfl]
          simp only [List.size_toArray, List.length_nil]
          omega
        · show ((List.replicate n.toNat z.cps).foldl (· ++ ·) #[]).size ≤ _
          rw [rep_size, Nat.mul_comm, show z.cps.size = z.length from rfl]
          simp only [List.size_toArray, List.length_nil]
          omega
        · rcases rep_mem _ _ _ _ hc with h | h
          · exact nomatch h
          · exact h
end
section
variable {σ : L2.St} {H : Hp} {Q : VK} {z : Str} {n : Int}
theorem x_repS (n0 : 0 ≤ n) (n1 : n ≤ 1000) (hz : z.length ≤ 1000) (q : ∀ z' : Str, z'.length ≤ z.length * n.toNat → (∀ c ∈ z'.cps.toList, c ∈ z.cps.toList) → Q (.str z') H) : rRepS (.str z) (.int n) H Q := ⟨z, n, rfl, rfl, n0, n1, hz, q⟩
theorem x_cat {l b : Addr} {xs zs : List V} (h1 : H l = some (.lst xs)) (h2 : H b = some (.lst zs)) (hz : xs.length + zs.length ≤ sizeLine) (q : ∀ p, H p = none → Q (.ref p) (upd H p (.lst (xs ++ zs)))) : rCat (.ref l) (.ref b) H Q := ⟨l, b, xs, zs, rfl, rfl, h1, h2, hz, q⟩
end
end Cc

set_option Elab.async false
set_option linter.all false
set_option maxRecDepth 100000
set_option maxHeartbeats 4000000
/-! Chains: what steps make of a number; how a chain stands in the heap. -/
namespace Cc
open PySem PySem.Spec PyProof.Rows L2
abbrev Ch := List (Str × Int)
def lowI (w : Str) (n : Int) : Int := if w = "u" then 0 else -(2 ^ (n - 1).toNat)
def castI (x : Int) (w : Str) (n : Int) : Int := lowI w n + (x - lowI w n) % 2 ^ n.toNat
def stepI (x : Int) (s : Str × Int) : Int := if s.1 = "add" then x + s.2 else castI x s.1 s.2
def convI (x : Int) (c : Ch) : Int := c.foldl stepI x
def isC (w : Str) (n : Int) : Bool := decide (w = "u" ∨ w = "s") && decide (1 ≤ n)
def okS (s : Str × Int) : Bool := decide (s.1 = "add") || isC s.1 s.2
def big : Int := 100000
def okC (c : Ch) : Prop := ∀ s ∈ c, okS s = true ∧ s.2 ≤ (if s.1 = "add" then s.2 else big)
theorem two_pos (n : Nat) : (0 : Int) < 2 ^ n := by
  have h : 0 < 2 ^ n := Nat.two_pow_pos n
  exact_mod_cast h

/-- the tuples of a chain -/
inductive Sts (K : PySem.W.Frag) (H : Hp) : List V → Ch → Prop
  | nil : Sts K H [] []
  | cons {t : Addr} {w : Str} {n : Int} {xs : List V} {c : Ch} : SqT K H t [.str w, .int n] → Sts K H xs c → Sts K H (.ref t :: xs) ((w, n) :: c)
def ChAt (K : PySem.W.Frag) (H : Hp) (a : Addr) (c : Ch) : Prop := ∃ xs, SqL K H a xs ∧ Sts K H xs c
theorem Same.tup {K : PySem.W.Frag} {H H' : Hp} {a : Addr} {xs : List V} (e : Same H H') (h : SqT K H a xs) : SqT K H' a xs := by
  rcases h with (h | ⟨o, h⟩) | h
  · exact .inl (.inl (e _ _ h))
  · exact .inl (.inr ⟨o, e _ _ h⟩)
  · exact .inr h
section
variable {K : PySem.W.Frag} {H H' : Hp} {xs : List V} {c : Ch} {a : Addr}
theorem Sts.same (e : Same H H') : ∀ {xs : List V} {c : Ch}, Sts K H xs c → Sts K H' xs c
  | _, _, .nil => .nil
  | _, _, .cons h t => .cons (Same.tup e h) (Sts.same e t)
theorem Sts.len : ∀ {xs : List V} {c : Ch}, Sts K H xs c → xs.length = c.length
  | _, _, .nil => rfl
  | _, _, .cons _ t => congrArg (· + 1) (Sts.len t)
theorem Sts.get : ∀ {xs : List V} {c : Ch} {i : Nat} {x : V}, Sts K H xs c → xs[i]? = some x → ∃ t w n, x = .ref t ∧ c[i]? = some (w, n) ∧ SqT K H t [.str w, .int n]
  | _, _, _, _, .nil, e => by simp at e
  | _, _, 0, _, .cons h _, e => by
    simp at e
    exact ⟨_, _, _, e.symm, rfl, h⟩
  | _, _, i + 1, x, .cons _ t, e => by
    obtain ⟨t', w, n, e1, e2, e3⟩ := Sts.get (i := i) (x := x) t (by simpa using e)
    exact ⟨t', w, n, e1, by simpa using e2, e3⟩
theorem ChAt.same (e : Same H H') (h : ChAt K H a c) : ChAt K H' a c := by
  obtain ⟨xs, h1, h2⟩ := h
  exact ⟨xs, e.seq h1, h2.same e⟩
end
theorem inV2 (w : Str) : inV (.str w) [.str "u", .str "s"] = decide (w = "u" ∨ w = "s") := by
  show (((("u" : Str) == w) || (("s" : Str) == w || false))) = _
  rw [Bool.or_false, Bool.eq_iff_iff]
  simp only [Bool.or_eq_true, beq_iff_eq, decide_eq_true_eq]
  exact ⟨fun h => h.elim (fun h => .inl h.symm) (fun h => .inr h.symm), fun h => h.elim (fun h => .inl h.symm) (fun h => .inr h.symm)⟩
theorem convI_take {c : Ch} {x : Int} {i : Nat} {s : Str × Int} (h : c[i]? = some s) : convI x (c.take (i + 1)) = stepI (convI x (c.take i)) s := by
  unfold convI
  rw [List.take_add_one, h, List.foldl_append]
  rfl
theorem isC_of {x : Str} {n : Int} (h : okS (x, n) = true) (hx : ¬ x = "add") : 1 ≤ n := by
  unfold okS isC at h
  simp [hx] at h
  exact h.2
end Cc

set_option Elab.async false
set_option linter.all false
set_option maxRecDepth 100000
set_option maxHeartbeats 4000000
/-! An exception of an own class made by a call with keywords. -/
namespace PySem
namespace HandSPX
open PySem.W PySem.Calls PyProof.Rows
section
variable {nm q : Str} {C N : Addr} {bs bm bmB : List Value} {hdct : Bool} {sn : List Str} {sub : List Value} {ab : Bool} {col : Option Bool} {dd : Option Addr} {k0 k1 k2 k3 k5 : Option Value} {B newId initId : String}
variable {h : Heap} {g : Array GenState} {d : Drawn} {t : Nat} {os : OsState}
theorem kwx_check_new {M : Model} {A : Around} {E : Value → Shared → Prop} {key : Str} {v : Value} {Q : Unit → Shared → Prop}
    (F : ExcBaseFacts B newId initId bmB) (hT : ∀ X : String, bm.contains (.type X) = bmB.contains (.type X))
    (hC : h.get? C = some (excClassObj nm q C N bs bm hdct sn sub ab col dd k0 k1 k2 k3 k5 newId)) (hq : Q () ⟨h, g, d, t, os⟩) :
    wpAny M A (checkBuiltinCall newId ⟨[.ref C], [(key, v)]⟩) Q E ⟨h, g, d, t, os⟩ := by
  have inB : (Value.ref C :: bm).contains (.type B) = true := by
    rw [List.contains_cons, hT]
    rw [F.hasB, Bool.or_true]
  have star := F.noStar
  simp only [checkBuiltinCall, F.newKind, F.newSplit, F.newRow]
  repeat (first
    | refine wpAny_loadPart_at hC ?_
    | (refine wpAny_isSubtype_exc hC ?_
       rw [inB])
    | refine wpAny_staticBase_exc hC ?_
    | refine wpAny_madeBy_exc hC ?_
    | simp only [bne_self_eq_false, Bool.false_eq_true, if_false]
    | wp_step)
  exact hq
theorem kwx_check_call {M : Model} {A : Around} {E : Value → Shared → Prop} {key : Str} {v : Value} {Q : Unit → Shared → Prop}
    (hC : h.get? C = some (excClassObj nm q C N bs bm hdct sn sub ab col dd k0 k1 k2 k3 k5 newId)) (hq : Q () ⟨h, g, d, t, os⟩) :
    wpAny M A (checkBuiltinCall "type.__call__" ⟨[.ref C], [(key, v)]⟩) Q E ⟨h, g, d, t, os⟩ := by
  have f3 := tc_sub
  have isT : (⟨h, g, d, t, os⟩ : Shared).TypeIs (.ref C) "type" := ⟨_, hC, rfl⟩
  simp only [checkBuiltinCall, tc_kind, tc_split]
  repeat (any_goals (first
    | assumption
    | with_reducible refine wpAny_loadPart_at hC ?_
    | with_reducible refine wpAny_onRaise ?_
    | with_reducible refine wpAny_map ?_
    | wp_step))
end
section
variable {nm q : Str} {C N : Addr} {bs bm bmB : List Value} {hdct : Bool} {sn : List Str} {sub : List Value} {ab : Bool} {col : Option Bool} {dd : Option Addr} {k0 k1 k2 k3 k5 : Option Value} {B newId initId : String}
variable {h : Heap} {g : Array GenState} {d : Drawn} {t : Nat} {os : OsState} {prog : Program} {w : World} {A : Around} {E : Value → Shared → Prop} {R : Result → Shared → Prop}
theorem kwx_new {key : Str} {v : Value} (F : ExcBaseFacts B newId initId bmB) (hT : ∀ X : String, bm.contains (.type X) = bmB.contains (.type X))
    (hC : h.get? C = some (excClassObj nm q C N bs bm hdct sn sub ab col dd k0 k1 k2 k3 k5 newId))
    (hq : R (.ok (.ret (.ref (h.objs.size + 1)))) ⟨(h.push (W.kdv_tup [])).push (excO C h.objs.size), g, d, t, os⟩) :
    codeAny (model prog w) A (.builtin newId ⟨[.ref C], [(key, v)]⟩) R ⟨h, g, d, t, os⟩ := by
  have ends := F.ends
  have inB : (Value.ref C :: bm).contains (.type B) = true := by rw [List.contains_cons, hT]; rw [F.hasB, Bool.or_true]
  have inA : (Value.ref C :: bm).contains (.type "AttributeError") = false := by rw [List.contains_cons, hT]; simp only [F.noAttr]; rfl
  have inN : (Value.ref C :: bm).contains (.type "NameError") = false := by rw [List.contains_cons, hT]; simp only [F.noName]; rfl
  refine codeAny_builtinAt F.entry ?_
  unfold Builtin.«BaseException.__new__»
  refine wpAt_bind ?_
  show wpAt _ _ _ (stack >>= _) _ _ _
  refine wpAt_bind (wpAt_stack fun p below => wpAt_of_wpAny ?_)
  wp_walk
  refine wpAt_of_wpAny ?_
  rw [F.owner]
  repeat (first
    | with_reducible refine wpAny_madeHere_exc F.canon hC ?_
    | with_reducible refine wpAny_loadPart_at hC ?_
    | (with_reducible refine wpAny_isSubtype_exc hC ?_
       first
       | rw [inB]
       | rw [inA]
       | rw [inN])
    | wp_step)
  show R _ _
  rw [Heap.size_push]
  exact hq
theorem kwx_type_call {key : Str} {v : Value} {fI : Addr} {Q : Fin → Shared → Prop} (F : ExcBaseFacts B newId initId bmB) (hT : ∀ X : String, bm.contains (.type X) = bmB.contains (.type X))
    (hC : h.get? C = some (excClassObj nm q C N bs bm hdct sn sub ab col dd k0 k1 k2 k3 k5 newId))
    (hi : W.Looks (model prog w) h (typeLookup (.ref C) "__init__") (some (.ref fI))) (hb : ∀ self, W.Looks (model prog w) h (bindSpecial (.ref fI) self) (.ref fI, [self]))
    (hq : codeAny (model prog w) A (.call (.ref fI) ⟨[.ref (h.objs.size + 1)], [(key, v)]⟩)
      (fun r s' => match r with | .ok (.ret z) => z = .none ∧ Q (.done (.ret (.ref (h.objs.size + 1)))) s' | .ok _ => False | .error e => E e s')
      ⟨(h.push (W.kdv_tup [])).push (excO C h.objs.size), g, d, t, os⟩) :
    wpAny (model prog w) A (Builtin.«type.__call__» ⟨[.ref C], [(key, v)]⟩) Q E ⟨h, g, d, t, os⟩ := by
  repeat (first
    | with_reducible refine wpAny_loadPart_at hC ?_
    | with_reducible refine wpAny_madeBy_exc hC ?_
    | wp_step)
  refine codeAny_call_builtin_code (Code.quiet_builtin _ F.quiet) (kwx_check_new F hT hC ?_)
  refine kwx_new F hT hC ?_
  show wpAny _ _ _ _ _ _
  have keep : ∀ b o, h.get? b = some o → ((h.push (W.kdv_tup [])).push (excO C h.objs.size)).get? b = some o := fun b o e => Heap.get?_push_of_some _ (Heap.get?_push_of_some _ e)
  have atC := keep _ _ hC
  have atE : ((h.push (W.kdv_tup [])).push (excO C h.objs.size)).get? (h.objs.size + 1) = some (excO C h.objs.size) := by heap_get
  have inC : (Value.ref C :: bm).contains (.ref C) = true := by simp
  have i1 := hi.keeps keep
  have b1 := (hb (.ref (h.objs.size + 1))).keeps keep
  unfold isInstance
  repeat (first
    | with_reducible refine wpAny_loadPart_at atE ?_
    | (with_reducible refine wpAny_isSubtype_exc atC ?_
       rw [inC])
    | wp_step)
  show wpAny _ _ (typeLookup (.ref C) _) _ _ _
  refine i1.at ?_
  refine wpAny_holding (wpAny_bind (b1.at ?_))
  refine wpAny_bind (wpAny_call (codeAny_mono hq fun r s' z => ?_))
  match r, z with
  | .error e, z => exact z
  | .ok .next, z => exact z.elim
  | .ok .brk, z => exact z.elim
  | .ok .cont, z => exact z.elim
  | .ok (.ret u), z =>
    obtain ⟨rfl, z⟩ := z
    first
      | exact wpAny_pure (wpAny_pure z)
      | (wp_walk; exact z)
theorem kwx_call {key : Str} {v : Value} {fI : Addr} (F : ExcBaseFacts B newId initId bmB) (hT : ∀ X : String, bm.contains (.type X) = bmB.contains (.type X))
    (hC : h.get? C = some (excClassObj nm q C N bs bm hdct sn sub ab col dd k0 k1 k2 k3 k5 newId))
    (hi : W.Looks (model prog w) h (typeLookup (.ref C) "__init__") (some (.ref fI))) (hb : ∀ self, W.Looks (model prog w) h (bindSpecial (.ref fI) self) (.ref fI, [self]))
    (hq : codeAny (model prog w) (A.under (.builtin "type.__call__" ⟨[.ref C], [(key, v)]⟩)) (.call (.ref fI) ⟨[.ref (h.objs.size + 1)], [(key, v)]⟩) (W.InitBack (h.objs.size + 1) R)
      ⟨(h.push (W.kdv_tup [])).push (excO C h.objs.size), g, d, t, os⟩) :
    codeAny (model prog w) A (.call (.ref C) ⟨[], [(key, v)]⟩) R ⟨h, g, d, t, os⟩ := by
  have f1 := tc_lookup
  have f2 := tc_bind (.ref C)
  have isT : (⟨h, g, d, t, os⟩ : Shared).TypeIs (.ref C) "type" := ⟨_, hC, rfl⟩
  refine codeAny_of_tree ?_
  show wpAny _ _ (callAny (.ref C) _) _ _ _
  repeat (any_goals (first
    | assumption
    | with_reducible refine wpAny_loadPart_at hC ?_
    | wp_step))
  refine ⟨rfl, ?_⟩
  refine codeAny_call_builtin_at (Code.quiet_builtin _ (by decide +kernel)) entry_typeCall (kwx_check_call hC (kwx_type_call F hT hC hi hb ?_))
  refine codeAny_mono hq fun r s' z => ?_
  match r, z with
  | .error e, z => exact z
  | .ok .next, z => exact z
  | .ok .brk, z => exact z
  | .ok .cont, z => exact z
  | .ok (.ret u), z => exact z
end
end HandSPX
end PySem

set_option Elab.async false
set_option linter.all false
set_option maxRecDepth 100000
set_option maxHeartbeats 4000000
/-! Exceptions of own classes as values: made, asked for their class, their field read. -/
namespace Cc
open PySem PySem.Spec PyProof.Rows L2
/-- an exception of the class cls stands at a, its own dict at d -/
def exT (a : Addr) (cls : Value) (d : Option Addr) : HO := .ext fun h => ∃ oe vs, h.get? a = some oe ∧ L2N.Zn cls d oe ∧ oe.data = .fields vs
theorem exT_ok {P : Program} {w : World} {H : Hp} {h : Heap} {a : Addr} {cls : Value} {d : Option Addr} {oe : Obj} {vs : Array Value} (e : h.get? a = some oe) (z : L2N.Zn cls d oe) (f : oe.data = .fields vs) : ObjOk P w H h a (exT a cls d) :=
  ⟨⟨oe, vs, e, z, f⟩, ⟨oe, e⟩, fun _ _ ⟨o, v, q, r⟩ k => ⟨o, v, k o q, r⟩⟩
/-- what the written part says of an exception class with an __init__ that stores value -/
structure XC (K : PySem.W.Frag) (mg : Str → Option Value) (x : Str) (C fI : Addr) : Prop where
  gC : mg x = some (.ref C)
  T : OexC K C
  I : ExcC K C
  no : PySem.W.findIn K (.ref C) "value" = some none
  iC : PySem.W.findIn K (.ref C) "__init__" = some (some (.ref fI))
  tI : PySem.W.typeIn K (.ref fI) = some (.type "function")
def spInit (K : PySem.W.Frag) (C : Addr) : Sp := fun vs H Q _ => ∃ (a : Addr) (v : V), vs = [.ref a, v] ∧ H a = some (exo a C none) ∧ ∀ dx, H dx = none → dx ≠ a → Q .non (upd (upd H dx (exd dx [("value", v)])) a (exo a C (some dx)))
section
variable {X : Cx} {x : Str} {C fI : Addr} {e : Expr} {ta : TA} {p pos : Pos} {k : Nat} {fd : FuncData}
theorem made_eq {H1 : Hp} {a d : Addr} {C : Addr} {fs : List (Str × V)} {u v : HO} (na : H1 a = none) (hne : d ≠ a) :
    upd (del (upd (upd (upd H1 a u) d (exd d fs)) a v) a) d (.xd fs) = upd H1 d (.xd fs) := by
  funext b
  by_cases hd : b = d
  · rw [hd, upd_same, upd_same]
  · rw [upd_ne hd, upd_ne hd]
    by_cases ha : b = a
    · rw [ha, del_same, na]
    · rw [del_ne ha, upd_ne ha, upd_ne hd, upd_ne ha]
/-- an exception of the class at C is made of the values vs -/
def MkR (K : PySem.W.Frag) (C : Addr) (vs : List V) (H1 : Hp) (Q : XK) : Prop := vs.length ≤ 1000 ∧ ∀ a, H1 a = none → spInit K C (.ref a :: (vs ++ [])) (upd H1 a (exo a C none))
  (fun v H2 => v = .non ∧ ∃ (d : Addr) (fs : List (Str × V)), H2 a = some (exo a C (some d)) ∧ H2 d = some (exd d fs) ∧ H1 d = none ∧ Q (.ref C) (some d) (upd (del H2 a) d (.xd fs))) (fun _ _ _ => False)
theorem mkR {K : PySem.W.Frag} {H1 : Hp} {v : V} {Q : XK} (h : ∀ d, H1 d = none → Q (.ref C) (some d) (upd H1 d (.xd [("value", v)]))) : MkR K C [v] H1 Q :=
  ⟨by simp, fun a na => ⟨a, v, rfl, upd_same, fun d hd hne => ⟨rfl, d, _, upd_same, by rw [upd_ne hne, upd_same], by rw [upd_ne hne] at hd; exact hd, by
    rw [upd_ne hne] at hd
    rw [made_eq (C := C) na hne]
    exact h d hd⟩⟩⟩
def asV (Q : VK) : XK := fun cls d H' => ∀ a, H' a = none → Q (.ref a) (upd H' a (exT a cls d))
/-- as a value -/
theorem mkV {K : PySem.W.Frag} {H1 : Hp} {v : V} {Q : VK} (h : ∀ d a, H1 d = none → upd H1 d (.xd [("value", v)]) a = none → Q (.ref a) (upd (upd H1 d (.xd [("value", v)])) a (exT a (.ref C) (some d)))) : MkR K C [v] H1 (asV Q) :=
  mkR fun d hd a ha => h d a hd ha
theorem pe_mk {t : L2.St → Hp → XK → Prop} (h : L2N.PMk X e t) : PE X e (fun σ H Q => t σ H (asV Q)) := by
  refine ⟨fun pins s σ H Q I q => thn (h pins s σ H _ I q) fun u s1 hu => ?_⟩
  obtain ⟨a, oe, vs, sI, H', cls, d, rfl, J, kp, ne, ho, hz, hf, _, na, os, ag, _, q1⟩ := hu
  obtain ⟨hp, g, dr, tk, o1⟩ := s1
  have J2 : Inv X pins σ (upd H' a (exT a cls d)) { sI with heap := hp, toks := tk } := J.laidN (t' := tk) kp ne na (exT_ok ho hz hf)
  have J3 : Inv X pins σ (upd H' a (exT a cls d)) ⟨hp, g, dr, tk, o1⟩ := ⟨J2.ok, os.trans J2.os, ag, J2.base, J2.loc, J2.cell, J2.free, J2.freeC, J2.pin, J2.hok, J2.len⟩
  exact ⟨.ref a, _, J3, rfl, q1 a na⟩
def tMk (K : PySem.W.Frag) (C : Addr) (ta : TA) : L2.St → Hp → XK → Prop := fun σ H Q => ta σ H fun vs H1 => MkR K C vs H1 Q
def tMkV (K : PySem.W.Frag) (C : Addr) (ta : TA) : TE := fun σ H Q => ta σ H fun vs H1 => MkR K C vs H1 (asV Q)
/-- what a made exception leaves, its context none -/
theorem endN {pins : List (Addr × Obj)} {σ : L2.St} {H1 H2 : Hp} {Q : XK} {hp hp2 h2 : Heap} {g1 g2 : Array GenState} {d1 d2 : Drawn} {t1 t2 : Nat} {os1 os2 : OsState} {a C d : Addr} {fs : List (Str × V)}
    (T : Raises X (.ref C)) (I1 : Inv X pins σ H1 ⟨hp, g1, d1, t1, os1⟩) (ha : hp.objs.size ≤ a) (k : ∀ b o, hp.get? b = some o → hp2.get? b = some o)
    (un : Un (frs X.stack) [] (upd H1 a (exo a C none)) H2 hp2 h2) (hok : HOk X.prog X.w H2 h2) (ho : os2 = os1) (hb : AllBare g2)
    (ea : H2 a = some (exo a C (some d))) (ed : H2 d = some (exd d fs)) (hd1 : H1 d = none) (q : Q (.ref C) (some d) (upd (del H2 a) d (.xd fs))) : L2N.MkP X pins σ Q (.ref a) ⟨h2, g2, d2, t2, os2⟩ :=
  match mk_end0 (d2 := d2) (t2 := t2) I1 ha k un hok ho hb ea ed hd1 with
  | ⟨_, G, J, kG, ge, hoe, na⟩ => ⟨a, _, _, ⟨G, g2, d2, t2, os2⟩, _, .ref C, some d, rfl, J, kG, ge, hoe, ⟨rfl, rfl, fun vs hv => by cases hv; rfl⟩, rfl, rfl, na, rfl, hb, T, q⟩
theorem pmk_ex (Y : XC X.K X.mg x C fI) (F1 : FnOk X.prog X.w X.K X.mg X.base CX0 k fI fd ["self", "value"] (spInit X.K C)) (hr : Room (k + 1) X.A) (hb : Binds X.K fd ["self", "value"] []) (hg : Gl X x) (ha : PA X [e] ta)
    (hdb : (x == ("__debug__" : Str)) = false := by decide) (he : starEach [e] X.env = (false, eval e X.env) :: starEach [] X.env := by rfl) (hpl : (backTo pos (starEach [] X.env)).any (·.1) = false := by rfl) :
    L2N.PMk X (.Call (.Name x p) [e] [] pos) (tMk X.K C ta) := by
  intro pins s σ H Q I h
  obtain ⟨nm, q, N, bs, bm, sn, sub, ab, col, dd, k0, k1, k2, k3, k5, hC, hbm⟩ := Y.T.cls
  refine wpAny_Call_Name_kw (ld_glob I hg Y.gC ?_ hdb)
  refine PySem.W.callWith_K (h₀ := X.base) I.ok.mod.kin Y.T.kC (thn (ha.run pos pins s σ H _ I h) fun ws s1 ⟨vs, H1, I1, rz, _, q1⟩ => ⟨I1.kIn, ?_⟩) he hpl
  obtain ⟨hp, g, dr, tk, os⟩ := s1
  have more : hp.objs.size ≤ hp.objs.size + 1 := Nat.le_succ _
  have hn : H1 (hp.objs.size + 1) = none := I1.hok.fresh more
  have hq := q1 (hp.objs.size + 1) hn
  obtain ⟨v, rfl⟩ : ∃ v, vs = [v] := by
    obtain ⟨a0, v, e0, _⟩ := hq
    rw [List.append_nil] at e0
    obtain ⟨_, e2⟩ := List.cons.inj e0
    exact ⟨v, e2⟩
  cases rz with
  | @cons _ wv _ ur rv rest =>
    cases rest
    have atE : ((hp.push (PySem.W.kdv_tup [wv])).push (PySem.HandSPX.excO C hp.objs.size)).get? (hp.objs.size + 1) = some (PySem.HandSPX.excO C hp.objs.size) := by heap_get
    have kk : ∀ b o, hp.get? b = some o → ((hp.push (PySem.W.kdv_tup [wv])).push (PySem.HandSPX.excO C hp.objs.size)).get? b = some o := fun b o z => Heap.get?_push_of_some _ (Heap.get?_push_of_some _ z)
    have I2 := I1.laid (t' := tk) (a := hp.objs.size + 1) (o := exo (hp.objs.size + 1) C none) (h' := (hp.push (PySem.W.kdv_tup [wv])).push (PySem.HandSPX.excO C hp.objs.size)) kk more (exo_ok atE)
    show wpAny _ _ (call (.ref C) [wv]) _ _ _
    have both : Vals [V.ref (hp.objs.size + 1), v] [Value.ref (hp.objs.size + 1), wv] := .cons rfl (.cons rv .nil)
    have bnd := hb _ [Value.ref (hp.objs.size + 1), wv] I2.kIn rfl
    rw [List.append_nil] at bnd
    refine wpAny_call (PySem.HandSPX.call_own F.excBase_ValueError (fun Z => PySem.HandSPX.refsVE_contains Z bm hbm) (I1.kIn _ _ hC) (PySem.W.looks_findIn I1.kIn Y.iC) (fun self => PySem.W.bind_fn I1.kIn self Y.tI) (by show 1 ≤ sizeLine; rw [sizeLine_eq]; decide) ?_)
    have run := F1.run _ X.stack _ _ ⟨[Value.ref (hp.objs.size + 1), wv], []⟩ _ _ _ (fun _ _ _ => False) (hr.make C [wv] []) (I2.env0.make C [wv] []) bnd both hq
    refine codeAny_mono run fun r s' z => ?_
    match r, z with
    | .error e, z => exact z.elim
    | .ok .next, z => exact z.elim
    | .ok .brk, z => exact z.elim
    | .ok .cont, z => exact z.elim
    | .ok (.ret u), z =>
      obtain ⟨v', H2, os2, bare2, un2, hok2, rv', ev, d, fs, ea, ed, hd1, q2⟩ := z
      subst ev
      obtain ⟨h2, g2, d2, t2, os'⟩ := s'
      exact ⟨rv', endN (raises_own Y.T.exC Y.T.tyC) I1 more kk un2 hok2 os2 bare2 ea ed hd1 q2⟩
/-- x(value = e) -/
theorem pmk_exK {kws : List Keyword} (Y : XC X.K X.mg x C fI) (F1 : FnOk X.prog X.w X.K X.mg X.base CX0 k fI fd ["self", "value"] (spInit X.K C)) (hr : Room (k + 1) X.A)
    (hb : ∀ (s : Shared) (u v : Value), BindsTo s fd ⟨[u], [("value", v)]⟩ [("self", u), ("value", v)]) (hg : Gl X x) (hkw : PK X kws ta)
    (hall : (backToKw pos (keywordEach kws X.env)).all (·.1.isSome) = true := by rfl) (hks : (backToKw pos (keywordEach kws X.env)).filterMap (·.1) = [("value" : Str)] := by rfl) (hdb : (x == ("__debug__" : Str)) = false := by decide)
    (hpl : ((backTo pos (starEach [] X.env)).any (·.1) || (backToKw pos (keywordEach kws X.env)).any (·.1.isNone)) = false := by rfl) :
    L2N.PMk X (.Call (.Name x p) [] kws pos) (tMk X.K C ta) := by
  intro pins s σ H Q I h
  obtain ⟨nm, q, N, bs, bm, sn, sub, ab, col, dd, k0, k1, k2, k3, k5, hC, hbm⟩ := Y.T.cls
  refine wpAny_Call_Name_kw (ld_glob I hg Y.gC ?_ hdb)
  refine PySem.W.callWith_KW0 (h₀ := X.base) I.ok.mod.kin Y.T.kC hall ?_ hpl
  refine thn (hkw.run pos pins s σ H _ I h) fun ws s1 ⟨vs, H1, I1, rz, _, q1⟩ => ⟨I1.kIn, ?_⟩
  rw [hks]
  obtain ⟨hp, g, dr, tk, os⟩ := s1
  have more : hp.objs.size ≤ hp.objs.size + 1 := Nat.le_succ _
  have hn : H1 (hp.objs.size + 1) = none := I1.hok.fresh more
  have hq := q1 (hp.objs.size + 1) hn
  obtain ⟨v, rfl⟩ : ∃ v, vs = [v] := by
    obtain ⟨a0, v, e0, _⟩ := hq
    rw [List.append_nil] at e0
    obtain ⟨_, e2⟩ := List.cons.inj e0
    exact ⟨v, e2⟩
  cases rz with
  | @cons _ wv _ ur rv rest =>
    cases rest
    have kk : ∀ b o, hp.get? b = some o → ((hp.push (PySem.W.kdv_tup [])).push (PySem.HandSPX.excO C hp.objs.size)).get? b = some o := fun b o z => Heap.get?_push_of_some _ (Heap.get?_push_of_some _ z)
    have atE : ((hp.push (PySem.W.kdv_tup [])).push (PySem.HandSPX.excO C hp.objs.size)).get? (hp.objs.size + 1) = some (PySem.HandSPX.excO C hp.objs.size) := by heap_get
    have I2 := I1.laid (t' := tk) (a := hp.objs.size + 1) (o := exo (hp.objs.size + 1) C none) (h' := (hp.push (PySem.W.kdv_tup [])).push (PySem.HandSPX.excO C hp.objs.size)) kk more (exo_ok atE)
    show wpAny _ _ (call (.ref C) [] [("value", wv)]) _ _ _
    have both : Vals [V.ref (hp.objs.size + 1), v] [Value.ref (hp.objs.size + 1), wv] := .cons rfl (.cons rv .nil)
    refine wpAny_call (PySem.HandSPX.kwx_call F.excBase_ValueError (fun Z => PySem.HandSPX.refsVE_contains Z bm hbm) (I1.kIn _ _ hC) (PySem.W.looks_findIn I1.kIn Y.iC) (fun self => PySem.W.bind_fn I1.kIn self Y.tI) ?_)
    have run := F1.run _ X.stack _ _ ⟨[Value.ref (hp.objs.size + 1)], [("value", wv)]⟩ _ _ _ (fun _ _ _ => False) (hr.make C [] [("value", wv)]) (I2.env0.make C [] [("value", wv)]) (hb _ (Value.ref (hp.objs.size + 1)) wv) both hq
    refine codeAny_mono run fun r s' z => ?_
    match r, z with
    | .error e, z => exact z.elim
    | .ok .next, z => exact z.elim
    | .ok .brk, z => exact z.elim
    | .ok .cont, z => exact z.elim
    | .ok (.ret u), z =>
      obtain ⟨v', H2, os2, bare2, un2, hok2, rv', ev, d, fs, ea, ed, hd1, q2⟩ := z
      subst ev
      obtain ⟨h2, g2, d2, t2, os'⟩ := s'
      exact ⟨rv', endN (raises_own Y.T.exC Y.T.tyC) I1 more kk un2 hok2 os2 bare2 ea ed hd1 q2⟩
theorem pe_ex (Y : XC X.K X.mg x C fI) (F1 : FnOk X.prog X.w X.K X.mg X.base CX0 k fI fd ["self", "value"] (spInit X.K C)) (hr : Room (k + 1) X.A) (hb : Binds X.K fd ["self", "value"] []) (hg : Gl X x) (ha : PA X [e] ta)
    (hdb : (x == ("__debug__" : Str)) = false := by decide) (he : starEach [e] X.env = (false, eval e X.env) :: starEach [] X.env := by rfl) (hpl : (backTo pos (starEach [] X.env)).any (·.1) = false := by rfl) :
    PE X (.Call (.Name x p) [e] [] pos) (tMkV X.K C ta) := pe_mk (pmk_ex Y F1 hr hb hg ha hdb he hpl)
theorem pe_exK {kws : List Keyword} (Y : XC X.K X.mg x C fI) (F1 : FnOk X.prog X.w X.K X.mg X.base CX0 k fI fd ["self", "value"] (spInit X.K C)) (hr : Room (k + 1) X.A)
    (hb : ∀ (s : Shared) (u v : Value), BindsTo s fd ⟨[u], [("value", v)]⟩ [("self", u), ("value", v)]) (hg : Gl X x) (hkw : PK X kws ta)
    (hall : (backToKw pos (keywordEach kws X.env)).all (·.1.isSome) = true := by rfl) (hks : (backToKw pos (keywordEach kws X.env)).filterMap (·.1) = [("value" : Str)] := by rfl) (hdb : (x == ("__debug__" : Str)) = false := by decide)
    (hpl : ((backTo pos (starEach [] X.env)).any (·.1) || (backToKw pos (keywordEach kws X.env)).any (·.1.isNone)) = false := by rfl) :
    PE X (.Call (.Name x p) [] kws pos) (tMkV X.K C ta) := pe_mk (pmk_exK Y F1 hr hb hg hkw hall hks hdb hpl)
/-- the object that stands at a, with its dict -/
theorem ex_inst {pins : List (Addr × Obj)} {σ : L2.St} {H : Hp} {s : Shared} {a d : Addr} {fs : List (Str × V)} (I : Inv X pins σ H s) (ha : H a = some (exT a (.ref C) (some d))) (hd : H d = some (.xd fs)) :
    ∃ (oe od : Obj) (mA : Str → Option Value), PySem.W.InstAt s.heap a oe C (some od) ∧ (∀ name, PySem.W.lookIn name od = some (mA name)) ∧ ∀ f, RelO (fs.lookup f) (mA f) := by
  have h1 : ObjOk X.prog X.w H s.heap a (exT a (.ref C) (some d)) := I.hok a _ ha
  obtain ⟨⟨oe, vs, e, z, f⟩, _, _⟩ := h1
  have h2 : ObjOk X.prog X.w H s.heap d (.xd fs) := I.hok d _ hd
  obtain ⟨mA, hns, hr⟩ := h2
  obtain ⟨od, ho, hl⟩ := lookIn_ns hns
  exact ⟨oe, od, mA, ⟨e, z.1, by unfold PySem.W.notCls; rw [f] <;> rfl, by rw [z.2.1]; exact ho⟩, hl, hr⟩
/-- isinstance(e, c) -/
def rIsX (K : PySem.W.Frag) : List V → Hp → VK → Prop := fun xs H Q => ∃ (a C d : Addr) (fs : List (Str × V)) (c : V) (u : Value) (b : Bool), xs = [.ref a, c] ∧ H a = some (exT a (.ref C) (some d)) ∧ H d = some (.xd fs) ∧ ExcC K C ∧ ClsV c u ∧
  PySem.W.kitOne K (.ref C) u = some b ∧ Q (.bl b) H
theorem cr_isX : CallR X (.builtin "isinstance") (rIsX X.K) := by
  intro pins s σ H xs us Q I r h
  obtain ⟨a, C, d, fs, c, u, b, rfl, ha, hd, E, hc, e, q⟩ := h
  cases r with
  | cons rx rr =>
    cases rr with
    | cons rt rr =>
      cases rr
      cases rx
      have ec := hc.eq rt
      subst ec
      obtain ⟨oe, od, mA, J, _⟩ := ex_inst I ha hd
      exact PySem.W.kia_one (PySem.W.kitx_exc (by obtain ⟨cd, hcd, _⟩ := PySem.W.any_some E.hd; rw [hcd]; rfl) E.hg E.hk E.hs E.ha E.hn E.ht E.hm) I.kIn J e (fun z => nomatch z) fun tk => ⟨.bl b, H, I.kept (t' := tk) fun _ _ z => z, rfl, q⟩
/-- e.value -/
def tValue (K : PySem.W.Frag) (te : TE) : TE := fun σ H Q => te σ H fun x H1 => ∃ (a C d : Addr) (v : V), x = .ref a ∧ H1 a = some (exT a (.ref C) (some d)) ∧ H1 d = some (.xd [("value", v)]) ∧ ExcC K C ∧ PySem.W.findIn K (.ref C) "value" = some none ∧ Q v H1
theorem pe_value {te : TE} (he : PE X e te) (hb : attributeBase e "value" X.env (eval e X.env) = eval e X.env := by rfl) : PE X (.Attribute e "value" pos) (tValue X.K te) := by
  refine ⟨fun pins s σ H Q I h => ?_⟩
  refine attr_of hb (thn (he.run pins s σ H _ I h) fun u s1 hh => ?_)
  obtain ⟨x, H1, I1, rx, a, C, d, v, rfl, ha, hd, E, hno, q⟩ := hh
  cases rx
  obtain ⟨oe, od, mA, J, hl, hr⟩ := ex_inst I1 ha hd
  have l : List.lookup ("value" : Str) [(("value" : Str), v)] = some v := by simp [List.lookup]
  obtain ⟨u, hu, ru⟩ := RelO.some_of (v := v) (o := mA "value") (by rw [← l]; exact hr "value")
  exact PySem.HandSPX.exc_get I1.kIn J E.hg E.hk E.hs (PySem.W.findObj_own E.hd hno rfl (by rw [hl, hu])) (handed_of ru) ⟨v, H1, I1.tok _, ru, q⟩
end
section
variable {σ : L2.St} {H : Hp} {Q : VK} {K : PySem.W.Frag} {C : Addr} {ta : TA} {te : TE}
theorem x_mkV : tMkV K C ta σ H Q ↔ ta σ H fun vs H1 => MkR K C vs H1 (asV Q) := Iff.rfl
theorem x_value : tValue K te σ H Q ↔ te σ H fun x H1 => ∃ (a C d : Addr) (v : V), x = .ref a ∧ H1 a = some (exT a (.ref C) (some d)) ∧ H1 d = some (.xd [("value", v)]) ∧ ExcC K C ∧ PySem.W.findIn K (.ref C) "value" = some none ∧ Q v H1 := Iff.rfl
end
end Cc

set_option Elab.async false
set_option linter.all false
set_option maxRecDepth 100000
set_option maxHeartbeats 4000000
/-! try .. except C as n: the exception stays tracked behind the suite. -/
namespace Cc
open PySem PySem.Spec PyProof.Rows L2
section
variable {X : Cx} {pins : List (Addr × Obj)} {σ : L2.St} {H : Hp}
/-- an object that was not there at the entry and is not tracked yet is tracked from now on -/
theorem track {q t : Shared} {a : Addr} {o : HO} (I : Inv X pins σ H q) (J : Inv X pins σ H t) (fresh : q.heap.get? a = none) (na : H a = none) (hex : X.ex = []) (new : ObjOk X.prog X.w (upd H a o) t.heap a o) : Inv X pins σ (upd H a o) t := by
  have old : X.s_0.heap.get? a = none := by
    cases e : X.s_0.heap.get? a with
    | none => rfl
    | some z =>
      obtain ⟨z', e'⟩ := I.base.there a z e (by rw [hex]; simp)
      rw [fresh] at e'
      cases e'
  obtain ⟨m, hm, _⟩ := id I.loc
  have nl : X.env.locals ≠ a := fun z => by
    obtain ⟨z1, hz1⟩ : ∃ z1, q.heap.get? X.env.locals = some z1 := by
      obtain ⟨z1, _, _, h, _⟩ := hm
      exact ⟨z1, h⟩
    rw [z, fresh] at hz1
    cases hz1
  refine ⟨J.ok, J.os, J.bare, ⟨J.base.keep, J.base.slot, fun b z e n hx => ?_, J.base.there, fun b xs e => ?_, fun b z u e => ?_, fun b ps e => ?_⟩, J.loc, J.cell, ?_, fun x c hc => ?_, fun p hp => ?_, J.hok.laidN (fun _ _ h => h) na new, J.len⟩
  · rw [upd_ne (fun z' => by rw [z', old] at e; cases e)]
    exact J.base.free b z e n hx
  · have h := J.base.tups b xs e
    rw [upd_ne (ne_of_none h na)]
    exact h
  · have h := J.base.frzs b z u e
    rw [upd_ne (ne_of_none h na)]
    exact h
  · obtain ⟨more, h⟩ := J.base.tbls b ps e
    exact ⟨more, by rw [upd_ne (ne_of_none h na)]; exact h⟩
  · rw [upd_ne nl]
    exact J.free
  · have nc : c ≠ a := fun z => by
      obtain ⟨v, hv⟩ := I.cell x c hc
      obtain ⟨z1, hz1⟩ : ∃ z1, q.heap.get? c = some z1 := by
        first | (obtain ⟨z1, h, _⟩ := hv; exact ⟨z1, h⟩) | exact ⟨_, hv⟩
      rw [z, fresh] at hz1
      cases hz1
    rw [upd_ne nc]
    exact J.freeC x c hc
  · have np : p.1 ≠ a := fun z => by
      have h := (I.pin p hp).1
      rw [z, fresh] at h
      cases h
    obtain ⟨h1, h2, h3⟩ := J.pin p hp
    exact ⟨h1, by rw [upd_ne np]; exact h2, h3⟩
end
/-- nothing is raised -/
theorem takesN {X : Cx} : L2N.Takes X (fun _ _ _ _ => False) := fun _ _ x => by
  obtain ⟨_, _, _, _, _, _, _, _, _, _, _, _, _, _, _, _, q⟩ := x
  exact q.elim
/-- what is wanted of an exception of the body, where the clause names c and slot i takes the exception, which is tracked from then on -/
def wTrk (K : PySem.W.Frag) (c : Value) (i : Nat) (ts : TS) (Wout : WX) (D : Ends) : WX := fun cls d σ H => ∃ yes, PySem.W.exmOne K cls c = some yes ∧
  (yes = true → ∀ a, H a = none → ts { nx := fun σ2 H2 => D.nx (σ2.set i none) H2, rt := D.rt, bk := fun σ2 H2 => D.bk (σ2.set i none) H2, ct := fun σ2 H2 => D.ct (σ2.set i none) H2 } (σ.set i (some (.ref a))) (upd H a (exT a cls d))) ∧
  (yes = false → Wout cls d σ H)
section
variable {X : Cx} {x n : Str} {c : Value} {i : Nat} {body suite : List Stmt} {st : Stmt} {p1 p2 p3 : Pos} {tb : WX → TS} {ts : TS} {Wout : WX} {pins : List (Addr × Obj)} {σ : L2.St} {H : Hp}
theorem inSuite {s : Shared} (a : Addr) (I : Inv X pins σ H s) : Inv (X.suite a (X.pn ++ pins)) [] σ H s :=
  ⟨I.ok.suite _ _, I.os, I.bare, I.base, I.loc, I.cell, I.free, I.freeC, fun p hp => I.pin p (by rw [List.append_nil] at hp; exact hp), I.hok, I.len⟩
theorem outSuite {s : Shared} {a : Addr} (ok : X.Ok) (I : Inv (X.suite a (X.pn ++ pins)) [] σ H s) : Inv X pins σ H s :=
  ⟨ok, I.os, I.bare, I.base, I.loc, I.cell, I.free, I.freeC, fun p hp => I.pin p (by rw [List.append_nil]; exact hp), I.hok, I.len⟩
/-- the exception has come to the clauses: h stands above sI -/
theorem caughtAt {W' : Value → Shared → Prop} {u : Value} {s' : Shared} (hs : X.stack = X.env :: X.outer) (hf : X.env.frame = some X.env.locals) (hex : X.ex = []) (hc : Names X x c) (hN : X.N.Nodup) (hi : X.N[i]? = some n) (hln : X.env.kindOf n = some .local) (tk : L2N.Takes X Wout)
    (hsu : ∀ (a : Addr) (pn : List (Addr × Obj)), PSs (X.suite a pn) (st :: suite) ts) (ok : X.Ok) (D : Ends) (xx : L2N.XE (X.tr (X.pn ++ pins) W') (wTrk X.K c i ts Wout D) u s') :
    wpAny (model X.prog X.w) X.A (noteFrame u X.env) (fun _ s₂ => wpAny (model X.prog X.w) X.A (setFlight u none) (fun _ s₃ =>
      wpAny (model X.prog X.w) X.A (handleBy u X.env [.ExceptHandler (some (.Name x p1)) (some n) (st :: suite) p2]) (SP X pins D) X.xe s₃) X.xe s₂) X.xe s' := by
  have frm : X.A.frames = some (X.env :: X.outer) := hs ▸ ok.frames
  obtain ⟨a, B, sI, pins1, σ1, H1, cls, d, rfl, I1, nb, up, sky, na, os, ag, yes, em, onYes, onNo⟩ := xx
  have I : Inv X pins σ1 H1 sI := I1.ofTry ok
  refine L2N.Sky.land L2N.Zn.steady frm hf (by rw [← hs]; exact sky) fun g1 fly1 up1 => ?_
  obtain ⟨o1, vs1, ho1, hz1, hd1⟩ := fly1.there
  have offStack : a ∉ frs (X.env :: X.outer) := fun hm => by
    obtain ⟨_, o', e', hnf⟩ := fly1.2.2.1.mem hm
    rw [ho1] at e'
    cases e'
    exact hnf _ hd1
  have fresh : sI.heap.get? a = none := by
    cases e : sI.heap.get? a with
    | none => rfl
    | some z =>
      have h := nb a z e (by show a ∉ frs X.stack; rw [hs]; exact offStack)
      rw [fly1.2.1] at h
      cases h
  have land : ∀ {g : Heap}, HandSPX.FlyingZ B (X.env :: X.outer) a (L2N.Zn cls d) g → sI.heap.UpToSlots g → Inv X pins σ1 (upd H1 a (exT a cls d)) { s' with heap := g } := fun {g} fly upg => by
    obtain ⟨o, vs, ho, hz, hd⟩ := fly.there
    exact track I (I.landed nb fly.1 upg os ag) fresh na hex (exT_ok ho hz hd)
  have T1 := inSuite a (land fly1 (up.trans up1))
  refine wpAny_handleBy_cons (codeAny_handlers_test ?_) (fun q => nomatch q)
  have ty : PySem.W.Looks (model X.prog X.w) g1 (typeOf (.ref a)) cls := fun A Q E s k q => wpAny_typeOf_ref (k _ _ ho1) (by rw [hz1.1]; exact q)
  have hit := PySem.W.exm_one (M := model X.prog X.w) (land fly1 (up.trans up1)).kIn ty em
  have cl : ∀ {Q : Value → Shared → Prop} {E : Value → Shared → Prop}, Q c { s' with heap := g1 } → wpAny (model X.prog X.w) (X.A.mark (some (.ref a))) (eval (.Name x p1) X.env) Q E { s' with heap := g1 } := fun {Q E} q => by
    obtain ⟨hg, hdbg, hm | ⟨hm, hv, hnn⟩⟩ := hc
    · exact ld_glob (X := X.suite a (X.pn ++ pins)) T1 hg hm q hdbg
    · exact ld_blt (X := X.suite a (X.pn ++ pins)) T1 hg hm hv q hnn hdbg
  refine cl (hit.here ?_)
  cases yes with
  | true =>
    refine codeAny_handlers_suite_as (HandSPX.lands_againZ fly1 fun g2 fly2 up2 => ?_)
    have T2 := inSuite a (land fly2 ((up.trans up1).trans up2))
    refine store_ok (X := X.suite a (X.pn ++ pins)) (v := .ref a) T2 hN hi (.inl hln) rfl (fun s3 T3 => ?_) (.inr hln)
    have away : ∀ {σ6 : L2.St} {H6 : Hp} {s6 : Shared} {Q : Shared → Prop}, Inv (X.suite a (X.pn ++ pins)) [] σ6 H6 s6 → (∀ s7, Inv X pins (σ6.set i none) H6 s7 → Q s7) →
        wpAny (model X.prog X.w) X.A (do bindName X.env n .none; unbindBehindTheSuite X.env n p2) (fun _ s7 => Q s7) X.xe s6 := fun T q => gone_ok (outSuite ok T) hN hi hln q
    refine wpAny_mono ((hsu a (X.pn ++ pins)).run [] s3 _ _ _ T3 (onYes rfl a na)) (fun f s4 r => ?_) (fun _ _ z => False.elim z)
    cases f with
    | next => obtain ⟨_, _, T4, q⟩ := r; exact away T4 fun _ J => ⟨_, _, J, q⟩
    | brk => obtain ⟨_, _, T4, q⟩ := r; exact away T4 fun _ J => ⟨_, _, J, q⟩
    | cont => obtain ⟨_, _, T4, q⟩ := r; exact away T4 fun _ J => ⟨_, _, J, q⟩
    | ret u => obtain ⟨_, _, _, T4, rv, q⟩ := r; exact away T4 fun _ J => ⟨_, _, _, J, rv, q⟩
  | false =>
    show wpAny _ X.A (handleBy (.ref a) X.env []) _ _ _
    refine wpAny_handleBy_nil ?_
    obtain ⟨_, _, _, o, vs, T, oT, ts', he, hz, hd, h1, _⟩ := id fly1
    unfold PySem.passOn
    refine wpAny_bind (wpAny_field he hd h1 ?_)
    rw [if_neg (show ¬ ((Value.ref T == Value.none) = true) from by simp)]
    have up_ : wpAny (model X.prog X.w) X.A (setFlight (.ref a) X.env.frame) (fun _ s4 => wpAny (model X.prog X.w) X.A (throw (.ref a) : Sem Flow) (SP X pins D) X.xe s4) X.xe { s' with heap := g1 } := by
      rw [hf]
      exact HandSPX.setFlight_upZ fly1 fun g2 held up2 => wpAny_throw (tk _ _ ⟨a, B, sI, pins, σ1, H1, cls, d, rfl, I, nb, (up.trans up1).trans up2, .inr (.inr (by rw [hs]; exact held)), na, os, ag, onNo rfl⟩)
    first
      | exact wpAny_bind (wpAny_pure (wpAny_bind up_))
      | exact wpAny_bind up_
theorem ps_trk (hs : X.stack = X.env :: X.outer) (hf : X.env.frame = some X.env.locals) (hex : X.ex = []) (hN : X.N.Nodup) (hi : X.N[i]? = some n) (hln : X.env.kindOf n = some .local) (hc : Names X x c) (tk : L2N.Takes X Wout)
    (hb : ∀ (W : WX) (pn : List (Addr × Obj)) (xe : Value → Shared → Prop), L2N.Takes (X.tr pn xe) W → PassesOwn (model X.prog X.w) X.A X.env xe → PSs (X.tr pn xe) body (tb W))
    (hsu : ∀ (a : Addr) (pn : List (Addr × Obj)), PSs (X.suite a pn) (st :: suite) ts) :
    PS X (.Try body [.ExceptHandler (some (.Name x p1)) (some n) (st :: suite) p2] [] [] p3) (fun D σ H => tb (wTrk X.K c i ts Wout D) D σ H) := by
  refine ⟨fun pins s σ H D I h => wpAny_Try_except ?_⟩
  have ok := I.ok
  refine wpAny_mono ((hb (wTrk X.K c i ts Wout D) (X.pn ++ pins) _ (fun u s' xx => caughtAt (p1 := p1) (p2 := p2) hs hf hex hc hN hi hln tk hsu ok D xx) PassesOwn.looking).run [] s σ H D (I.toTry _) h) (fun f s1 r => ?_) (fun _ _ z => z)
  cases f with
  | next => obtain ⟨_, _, T, q⟩ := r; exact wpAny_execs_nil ⟨_, _, T.ofTry ok, q⟩
  | brk => obtain ⟨_, _, T, q⟩ := r; exact ⟨_, _, T.ofTry ok, q⟩
  | cont => obtain ⟨_, _, T, q⟩ := r; exact ⟨_, _, T.ofTry ok, q⟩
  | ret u => obtain ⟨_, _, _, T, rv, q⟩ := r; exact ⟨_, _, _, T.ofTry ok, rv, q⟩
end
end Cc

set_option Elab.async false
set_option linter.all false
set_option maxRecDepth 100000
set_option maxHeartbeats 4000000
/-! Defs that may raise; calls by keyword. -/
namespace Cc
open PySem PySem.Spec PyProof.Rows L2
section
variable {P : Program} {w : World} {K : PySem.W.Frag} {mg : Str → Option Value} {base : Heap} {k : Nat} {x qual : Str} {st : Stmt} {N ps : List Str} {sp : Sp} {f : Addr} {fd : FuncData}
theorem okGX (F : Fun K x qual st f fd) (S : FnScope N ps (defScope st)) (len : ∀ vs H Q E, sp vs H Q E → vs.length = ps.length)
    (hbody : ∀ (cdv : Value) (A : Around) (outer : List Env) (s : Shared) (H : Hp) (vs : List V) (Q : VK) (E : XK), A.guards = some [] → Room k (A.deeper (envOfC qual (defScope st) s.heap.objs.size f cdv)) → sp vs H Q E →
      ∃ t, PSs (cxOf (L2N.CX P w) P w K mg base N qual (defScope st) f cdv A outer s H E) (defBody st) t ∧ t { nx := fun _ H' => Q .non H', rt := Q } (start N vs) H) :
    FnG P w K mg base (L2N.CX P w) (k + 1) f fd ps sp := by
  obtain ⟨oc, od, kV, doc, pm, an, cdv, ct, osl, rfl, lk, hcd⟩ := F.ex
  refine ⟨len, fun A hg hr outer s H e0 args us vs Q E hb rv hs => ?_⟩
  obtain ⟨t, h, q⟩ := hbody cdv A outer s H vs Q E hg (hr.deeper _) hs
  exact def_at lk hcd S hr e0 hb rv (len _ _ _ _ hs) h q
theorem mkPX (T : Tx K mg x st) (S : FnScope N ps (defScope st))
    (bi : ∀ (kV doc pm : Value) (an : Option Addr) (cdv ct : Value) (us : List Value), us.length = ps.length → bindArgs (PySem.W.fnOf x x (defArgs st) (defBody st) (defScope st) .none kV doc pm an cdv ct) ⟨us, []⟩ = pure (ps.zip us))
    (len : ∀ vs H Q E, sp vs H Q E → vs.length = ps.length)
    (hbody : ∀ (f : Addr) (cdv : Value) (A : Around) (outer : List Env) (s : Shared) (H : Hp) (vs : List V) (Q : VK) (E : XK), A.guards = some [] → Room k (A.deeper (envOfC x (defScope st) s.heap.objs.size f cdv)) → sp vs H Q E →
      ∃ t, PSs (cxOf (L2N.CX P w) P w K mg base N x (defScope st) f cdv A outer s H E) (defBody st) t ∧ t { nx := fun _ H' => Q .non H', rt := Q } (start N vs) H) :
    Pr P w K mg base (L2N.CX P w) (k + 1) x ps sp := by
  obtain ⟨f, fd, F, g⟩ := T
  exact ⟨f, fd, okGX F S len (hbody f), g, F.kp, F.binds bi⟩
theorem mkAX (S : FnScope N ps (defScope st)) (len : ∀ vs H Q E, sp vs H Q E → vs.length = ps.length)
    (hbody : ∀ (f : Addr) (cdv : Value) (A : Around) (outer : List Env) (s : Shared) (H : Hp) (vs : List V) (Q : VK) (E : XK), A.guards = some [] → Room k (A.deeper (envOfC x (defScope st) s.heap.objs.size f cdv)) → sp vs H Q E →
      ∃ t, PSs (cxOf (L2N.CX P w) P w K mg base N x (defScope st) f cdv A outer s H E) (defBody st) t ∧ t { nx := fun _ H' => Q .non H', rt := Q } (start N vs) H) :
    PrAt P w K mg base (L2N.CX P w) (k + 1) x st ps sp := fun f fd F => okGX F S len (hbody f)
end
/-- what a def of this name keeps, and that the text has it -/
def PrK (P : Program) (w : World) (K : PySem.W.Frag) (mg : Str → Option Value) (base : Heap) (CX : CXT) (k : Nat) (x : Str) (st : Stmt) (ps : List Str) (sp : Sp) : Prop :=
  ∃ f fd, Fun K x x st f fd ∧ FnG P w K mg base CX k f fd ps sp ∧ mg x = some (.ref f)
section
variable {P : Program} {w : World} {K : PySem.W.Frag} {mg : Str → Option Value} {base : Heap} {CX : CXT} {k : Nat} {x : Str} {st : Stmt} {N ps : List Str} {sp : Sp}
theorem PrK.pr (h : PrK P w K mg base CX k x st ps sp)
    (bi : ∀ (kV doc pm : Value) (an : Option Addr) (cdv ct : Value) (us : List Value), us.length = ps.length → bindArgs (PySem.W.fnOf x x (defArgs st) (defBody st) (defScope st) .none kV doc pm an cdv ct) ⟨us, []⟩ = pure (ps.zip us)) :
    Pr P w K mg base CX k x ps sp := by
  obtain ⟨f, fd, F, g, m⟩ := h
  exact ⟨f, fd, g, m, F.kp, F.binds bi⟩
theorem mkK (T : Tx K mg x st) (S : FnScope N ps (defScope st)) (len : ∀ vs H Q E, sp vs H Q E → vs.length = ps.length)
    (hbody : ∀ (f : Addr) (cdv : Value) (A : Around) (outer : List Env) (s : Shared) (H : Hp) (vs : List V) (Q : VK) (E : XK), A.guards = some [] → Room k (A.deeper (envOfC x (defScope st) s.heap.objs.size f cdv)) → sp vs H Q E →
      ∃ t, PSs (cxOf CX0 P w K mg base N x (defScope st) f cdv A outer s H E).nox (defBody st) t ∧ t { nx := fun _ H' => Q .non H', rt := Q } (start N vs) H) :
    PrK P w K mg base CX0 (k + 1) x st ps sp := by
  obtain ⟨f, fd, F, g⟩ := T
  exact ⟨f, fd, F, okG F S len (hbody f), g⟩
theorem mkKX (T : Tx K mg x st) (S : FnScope N ps (defScope st)) (len : ∀ vs H Q E, sp vs H Q E → vs.length = ps.length)
    (hbody : ∀ (f : Addr) (cdv : Value) (A : Around) (outer : List Env) (s : Shared) (H : Hp) (vs : List V) (Q : VK) (E : XK), A.guards = some [] → Room k (A.deeper (envOfC x (defScope st) s.heap.objs.size f cdv)) → sp vs H Q E →
      ∃ t, PSs (cxOf (L2N.CX P w) P w K mg base N x (defScope st) f cdv A outer s H E) (defBody st) t ∧ t { nx := fun _ H' => Q .non H', rt := Q } (start N vs) H) :
    PrK P w K mg base (L2N.CX P w) (k + 1) x st ps sp := by
  obtain ⟨f, fd, F, g⟩ := T
  exact ⟨f, fd, F, okGX F S len (hbody f), g⟩
end
section
variable {X : Cx} {CX : CXT} {j k : Nat} {f : Addr} {fd : FuncData} {ps ks : List Str} {is : List Nat} {sp : Sp} {E : L2.St → XK} {x : Str} {p pos : Pos} {e : Expr} {es : List Expr} {kws : List Keyword} {t : TA} {W : WX}
theorem runGS {pins : List (Addr × Obj)} {σ : L2.St} {H : Hp} {s : Shared} {Q : VK} {args : Args} {us : List Value} {vs : List V} (F : FnG X.prog X.w X.K X.mg X.base CX k f fd ps sp) (hG : X.A.guards = some []) (hr : Room k X.A) (hb : BindsTo s fd args (ps.zip us)) (hx : PassesAt CX X σ (E σ))
    (I : Inv X pins σ H s) (r : Vals vs us) (h : sp vs H Q (E σ)) : codeAny (model X.prog X.w) X.A (.call (.ref f) args) (fun r s' => match r with | .ok (.ret u) => EP X pins σ Q u s' | .error e => X.xe e s' | _ => False) s := by
  refine codeAny_mono (F.goes X.A hG hr X.stack s H I.env0 args us vs Q (E σ) hb r h) fun r s' hq => ?_
  match r, hq with
  | .error e, hq => exact hx pins H s e s' I hq
  | .ok (.ret u), hq => exact I.after hq
  | .ok .next, hq => exact hq.elim
  | .ok .brk, hq => exact hq.elim
  | .ok .cont, hq => exact hq.elim
/-- f(e, ..), where f may raise -/
theorem pe_GS (F : FnG X.prog X.w X.K X.mg X.base CX k f fd ps sp) (hG : X.A.guards = some []) (hr : Room k X.A) (hg : Gl X x) (hm : X.mg x = some (.ref f)) (hk : PySem.W.keepIn X.K (.ref f) = true) (hb : Binds X.K fd ps []) (hx : ∀ σ, PassesAt CX X σ (E σ))
    (ha : PA X (e :: es) t) (hdb : (x == ("__debug__" : Str)) = false := by decide) (he : starEach (e :: es) X.env = (false, eval e X.env) :: starEach es X.env := by rfl) (hpl : (backTo pos (starEach es X.env)).any (·.1) = false := by rfl) :
    PE X (.Call (.Name x p) (e :: es) [] pos) (tCallS sp E t) := by
  refine ⟨fun pins s σ H Q I h => wpAny_Call_Name_kw (ld_glob I hg hm ?_ hdb)⟩
  refine PySem.W.callWith_K (h₀ := X.base) I.ok.mod.kin hk (thn (ha.run pos pins s σ H _ I h) fun us s1 ⟨vs, H1, I1, r, q⟩ => ⟨I1.kIn, ?_⟩) he hpl
  have b := hb s1 us I1.kIn (by rw [List.append_nil]; exact r.length.symm.trans (F.long _ _ _ _ q))
  rw [List.append_nil] at b
  refine wpAny_call (codeAny_mono (runGS F hG hr b (hx σ) I1 r q) fun r s' z => ?_)
  match r, z with
  | .error _, z => exact z
  | .ok (.ret _), z => exact z
def tCallKS (sp : Sp) (gV : List V → List V) (E : L2.St → XK) (t : TA) : TE := fun σ H Q => t σ H fun vs H1 => sp (gV vs) H1 Q (E σ)
/-- f(a = e, ..) -/
theorem pe_GK {g : List Value → List Value} {gV : List V → List V} (F : FnG X.prog X.w X.K X.mg X.base CX k f fd ps sp) (hG : X.A.guards = some []) (hr : Room k X.A) (hg : Gl X x) (hm : X.mg x = some (.ref f)) (hk : PySem.W.keepIn X.K (.ref f) = true)
    (hb : ∀ (s : Shared) (us : List Value), (g us).length = ps.length → BindsTo s fd ⟨[], ks.zip us⟩ (ps.zip (g us))) (hrel : ∀ {vs : List V} {us : List Value}, Vals vs us → Vals (gV vs) (g us)) (hx : ∀ σ, PassesAt CX X σ (E σ)) (hkw : PK X kws t)
    (hall : (backToKw pos (keywordEach kws X.env)).all (·.1.isSome) = true := by rfl) (hks : (backToKw pos (keywordEach kws X.env)).filterMap (·.1) = ks := by rfl) (hdb : (x == ("__debug__" : Str)) = false := by decide)
    (hpl : ((backTo pos (starEach [] X.env)).any (·.1) || (backToKw pos (keywordEach kws X.env)).any (·.1.isNone)) = false := by rfl) :
    PE X (.Call (.Name x p) [] kws pos) (tCallKS sp gV E t) := by
  refine ⟨fun pins s σ H Q I h => wpAny_Call_Name_kw (ld_glob I hg hm ?_ hdb)⟩
  refine PySem.W.callWith_KW0 (h₀ := X.base) I.ok.mod.kin hk hall ?_ hpl
  refine thn (hkw.run pos pins s σ H _ I h) fun us s1 ⟨vs, H1, I1, r, q⟩ => ⟨I1.kIn, ?_⟩
  rw [hks]
  have r2 := hrel r
  refine wpAny_call (codeAny_mono (runGS F hG hr (hb s1 us (r2.length.symm.trans (F.long _ _ _ _ q))) (hx σ) I1 r2 q) fun r s' z => ?_)
  match r, z with
  | .error _, z => exact z
  | .ok (.ret _), z => exact z
theorem pass0At (E : L2.St → XK) (h : ∀ σ, E σ = E0) : ∀ σ, PassesAt CX0 X σ (E σ) := fun _ _ _ _ _ _ _ z => z.elim
/-- by position, where it may raise -/
theorem pe_PX (h : Pr X.prog X.w X.K X.mg X.base (L2N.CX X.prog X.w) j x ps sp) (hr : Room k X.A) (hG : X.A.guards = some []) (hg : Gl X x) (tk : L2N.Takes X W) (ha : PA X (e :: es) t) (hj : j ≤ k := by decide)
    (hdb : (x == ("__debug__" : Str)) = false := by decide) (he : starEach (e :: es) X.env = (false, eval e X.env) :: starEach es X.env := by rfl) (hpl : (backTo pos (starEach es X.env)).any (·.1) = false := by rfl) :
    PE X (.Call (.Name x p) (e :: es) [] pos) (tCallS sp (WE W) t) := by
  obtain ⟨f, fd, F, g, kp, b⟩ := h
  exact pe_GS F hG (hr.mono hj) hg g kp b (fun σ => L2N.passAt tk σ) ha hdb he hpl
section
variable {st : Stmt} {g : List Value → List Value} {gV : List V → List V}
/-- by keyword, where it may raise -/
theorem pe_KX (h : PrK X.prog X.w X.K X.mg X.base (L2N.CX X.prog X.w) j x st ps sp) (hr : Room k X.A) (hG : X.A.guards = some []) (hg : Gl X x) (tk : L2N.Takes X W)
    (hb : ∀ (kV doc pm : Value) (an : Option Addr) (cdv ct : Value) (us : List Value), (g us).length = ps.length → bindArgs (PySem.W.fnOf x x (defArgs st) (defBody st) (defScope st) .none kV doc pm an cdv ct) ⟨[], ks.zip us⟩ = pure (ps.zip (g us)))
    (hrel : ∀ {vs : List V} {us : List Value}, Vals vs us → Vals (gV vs) (g us)) (hkw : PK X kws t) (hj : j ≤ k := by decide)
    (hall : (backToKw pos (keywordEach kws X.env)).all (·.1.isSome) = true := by rfl) (hks : (backToKw pos (keywordEach kws X.env)).filterMap (·.1) = ks := by rfl) (hdb : (x == ("__debug__" : Str)) = false := by decide)
    (hpl : ((backTo pos (starEach [] X.env)).any (·.1) || (backToKw pos (keywordEach kws X.env)).any (·.1.isNone)) = false := by rfl) :
    PE X (.Call (.Name x p) [] kws pos) (tCallKS sp gV (WE W) t) := by
  obtain ⟨f, fd, F, G, m⟩ := h
  obtain ⟨oc, od, kV, doc, pm, an, cdv, ct, osl, rfl, lk, hcd⟩ := F.ex
  exact pe_GK G hG (hr.mono hj) hg m F.kp (fun s us hl => .of_eq (hb _ _ _ _ _ _ us hl)) hrel (fun σ => L2N.passAt tk σ) hkw hall hks hdb hpl
/-- by keyword, where it raises nothing -/
theorem pe_KP (h : PrK X.prog X.w X.K X.mg X.base CX0 j x st ps sp) (hr : Room k X.A) (hG : X.A.guards = some []) (hg : Gl X x)
    (hb : ∀ (kV doc pm : Value) (an : Option Addr) (cdv ct : Value) (us : List Value), (g us).length = ps.length → bindArgs (PySem.W.fnOf x x (defArgs st) (defBody st) (defScope st) .none kV doc pm an cdv ct) ⟨[], ks.zip us⟩ = pure (ps.zip (g us)))
    (hrel : ∀ {vs : List V} {us : List Value}, Vals vs us → Vals (gV vs) (g us)) (hkw : PK X kws t) (hj : j ≤ k := by decide)
    (hall : (backToKw pos (keywordEach kws X.env)).all (·.1.isSome) = true := by rfl) (hks : (backToKw pos (keywordEach kws X.env)).filterMap (·.1) = ks := by rfl) (hdb : (x == ("__debug__" : Str)) = false := by decide)
    (hpl : ((backTo pos (starEach [] X.env)).any (·.1) || (backToKw pos (keywordEach kws X.env)).any (·.1.isNone)) = false := by rfl) :
    PE X (.Call (.Name x p) [] kws pos) (tCallKS sp gV (fun _ => E0) t) := by
  obtain ⟨f, fd, F, G, m⟩ := h
  obtain ⟨oc, od, kV, doc, pm, an, cdv, ct, osl, rfl, lk, hcd⟩ := F.ex
  exact pe_GK G hG (hr.mono hj) hg m F.kp (fun s us hl => .of_eq (hb _ _ _ _ _ _ us hl)) hrel (fun σ _ _ _ _ _ _ z => z.elim) hkw hall hks hdb hpl
end
end
/-- two arguments by keyword, as they stand and the other way round -/
def swap2 {α : Type} : List α → List α
  | [a, b] => [b, a]
  | _ => []
theorem Vals.swap2 : ∀ {vs : List V} {us : List Value}, Vals vs us → Vals (swap2 vs) (Cc.swap2 us)
  | _, _, .nil => .nil
  | _, _, .cons _ .nil => .nil
  | _, _, .cons h1 (.cons h2 .nil) => .cons h2 (.cons h1 .nil)
  | _, _, .cons _ (.cons _ (.cons _ _)) => .nil
section
variable {σ : L2.St} {H : Hp} {Q : VK} {K : PySem.W.Frag} {C : Addr} {ta : TA} {te : TE} {W : WX} {D : Ends} {sp : Sp} {t : TA} {E : L2.St → XK} {gV : List V → List V}
def tRaise (K : PySem.W.Frag) (C : Addr) (W : WX) (ta : TA) : TS := fun _ σ H => tMk K C ta σ H fun cls d H' => W cls d σ H'
theorem ps_rs {X : Cx} {e : Expr} {pos : Pos} (hc : X.calm = true) (tk : L2N.Takes X W) (he : L2N.PMk X e (tMk X.K C ta)) : PS X (.Raise (some e) none pos) (tRaise X.K C W ta) := L2N.ps_raise hc tk he
theorem x_rs : tRaise K C W ta D σ H ↔ ta σ H fun vs H1 => MkR K C vs H1 fun cls d H' => W cls d σ H' := Iff.rfl
theorem x_callS : tCallS sp E t σ H Q ↔ t σ H fun vs H1 => sp vs H1 Q (E σ) := Iff.rfl
theorem x_callKS : tCallKS sp gV E t σ H Q ↔ t σ H fun vs H1 => sp (gV vs) H1 Q (E σ) := Iff.rfl
theorem mkR1 {H1 : Hp} {v : V} {R : XK} (h : ∀ d, H1 d = none → R (.ref C) (some d) (upd H1 d (.xd [("value", v)]))) : MkR K C [v] H1 R := mkR h
end
end Cc

set_option Elab.async false
set_option linter.all false
set_option maxRecDepth 100000
set_option maxHeartbeats 4000000
/-! Methods of own classes, where no repr is under way; readings of fields. -/
namespace Cc
open PySem PySem.Spec PyProof.Rows L2
/-- the method m of the class at C, by its def -/
def MTx (K : PySem.W.Frag) (C : Addr) (m q : Str) (st : Stmt) : Prop := ∃ f fd, Fun K m q st f fd ∧ Meth K C m f
def MPr (P : Program) (w : World) (K : PySem.W.Frag) (mg : Str → Option Value) (base : Heap) (CX : CXT) (k : Nat) (C : Addr) (m : Str) (ps : List Str) (sp : Sp) : Prop :=
  ∃ f fd, FnG P w K mg base CX k f fd ps sp ∧ Meth K C m f ∧ Binds K fd ps []
section
variable {P : Program} {w : World} {K : PySem.W.Frag} {mg : Str → Option Value} {base : Heap} {k : Nat} {C : Addr} {m q : Str} {st : Stmt} {N ps : List Str} {sp : Sp}
theorem mkM (T : MTx K C m q st) (S : FnScope N ps (defScope st))
    (bi : ∀ (kV doc pm : Value) (an : Option Addr) (cdv ct : Value) (us : List Value), us.length = ps.length → bindArgs (PySem.W.fnOf m q (defArgs st) (defBody st) (defScope st) .none kV doc pm an cdv ct) ⟨us, []⟩ = pure (ps.zip us))
    (len : ∀ vs H Q E, sp vs H Q E → vs.length = ps.length)
    (hbody : ∀ (f : Addr) (cdv : Value) (A : Around) (outer : List Env) (s : Shared) (H : Hp) (vs : List V) (Q : VK) (E : XK), A.guards = some [] → Room k (A.deeper (envOfC q (defScope st) s.heap.objs.size f cdv)) → sp vs H Q E →
      ∃ t, PSs (cxOf CX0 P w K mg base N q (defScope st) f cdv A outer s H E).nox (defBody st) t ∧ t { nx := fun _ H' => Q .non H', rt := Q } (start N vs) H) :
    MPr P w K mg base CX0 (k + 1) C m ps sp := by
  obtain ⟨f, fd, F, g⟩ := T
  exact ⟨f, fd, okG F S len (hbody f), g, F.binds bi⟩
end
section
variable {X : Cx} {CX : CXT} {j k : Nat} {C : Addr} {f : Addr} {fd : FuncData} {ps : List Str} {sp : Sp} {E : XK} {x m : Str} {p pos apos : Pos} {o e : Expr} {es : List Expr} {t : TA} {ta : TE} {dvs : List V} {ds : List Value}
/-- o.m(e, ..) -/
theorem pe_MP {pl : Sem Bool} (he : PE X o ta) (c : Cls X.K C) (h : MPr X.prog X.w X.K X.mg X.base CX0 j C m ps sp) (hr : Room k X.A) (hG : X.A.guards = some []) (ha : PA X (e :: es) t) (hj : j ≤ k := by decide)
    (hst : starEach (e :: es) X.env = (false, eval e X.env) :: starEach es X.env := by rfl) (hpl : (backTo pos (starEach es X.env)).any (·.1) = false := by rfl)
    (ht : eval (.Call (.Attribute o m apos) (e :: es) [] pos) X.env = (do
      let ov ← eval o X.env
      standAt apos.atName
      let (fn, first) ← holding [ov] (getMethod ov m pl)
      callWith pos fn first (backTo pos (starEach (e :: es) X.env)) (backToKw pos (keywordEach [] X.env))) := by rfl) :
    PE X (.Call (.Attribute o m apos) (e :: es) [] pos) (tMeth C m sp [] E0 ta t) := by
  obtain ⟨f, fd, F, hm, hb⟩ := h
  refine ⟨fun pins s σ H Q I h => PySem.W.methodCall_KW (pl := pl) (thn (he.run pins s σ H _ I h) fun u s1 r => ?_) ht⟩
  obtain ⟨x, H1, I1, rx, a, dx, fs, rfl, ea, l, q⟩ := r
  obtain rfl : u = Value.ref a := rx
  refine getmeth_ok I1 ea c hm l (PySem.W.callWith_K (first := [.ref a]) (h₀ := X.base) I.ok.mod.kin hm.kp (thn (ha.run pos pins s1 σ H1 _ I1 q) fun us s2 r2 => ?_) hst hpl)
  obtain ⟨vs, H2, I2, r, q2⟩ := r2
  exact ⟨I2.kIn, runG (us := .ref a :: us) (vs := .ref a :: vs) F hG (hr.mono hj) hb .nil pass0 I2 (.cons rfl r) q2⟩
/-- o.m() -/
theorem pe_MP0 {pl : Sem Bool} (he : PE X o ta) (c : Cls X.K C) (h : MPr X.prog X.w X.K X.mg X.base CX0 j C m ps sp) (hr : Room k X.A) (hG : X.A.guards = some []) (hj : j ≤ k := by decide)
    (ht : eval (.Call (.Attribute o m apos) [] [] pos) X.env = (do
      let ov ← eval o X.env
      standAt apos.atName
      let (fn, first) ← holding [ov] (getMethod ov m pl)
      callWith pos fn first (backTo pos (starEach [] X.env)) (backToKw pos (keywordEach [] X.env))) := by rfl) :
    PE X (.Call (.Attribute o m apos) [] [] pos) (tMeth C m sp [] E0 ta tNil) := by
  obtain ⟨f, fd, F, hm, hb⟩ := h
  refine ⟨fun pins s σ H Q I h => PySem.W.methodCall_KW (pl := pl) (thn (he.run pins s σ H _ I h) fun u s1 r => ?_) ht⟩
  obtain ⟨x, H1, I1, rx, a, dx, fs, rfl, ea, l, q⟩ := r
  obtain rfl : u = Value.ref a := rx
  exact getmeth_ok I1 ea c hm l (PySem.W.callWith_K0 (first := [.ref a]) I1.kIn hm.kp (runG (us := [.ref a]) (vs := [.ref a]) F hG (hr.mono hj) hb .nil pass0 I1 (.cons rfl .nil) q))
end
/-! ### readings -/
def Fld (K : PySem.W.Frag) (f : Str) (x : V) (H : Hp) (Q : VK) : Prop := ∃ a C dx fs v, x = .ref a ∧ H a = some (.ins C dx fs) ∧ Cls K C ∧ NoAttr K C f ∧ fs.lookup f = some v ∧ Q v H
def SFld (K : PySem.W.Frag) (f : Str) (x y : V) (H : Hp) (G : Hp → Prop) : Prop := ∃ a C dx fs, x = .ref a ∧ H a = some (.ins C dx fs) ∧ Cls K C ∧ NoAttr K C f ∧ fs.length < 1000 ∧ G (upd H a (.ins C dx (putF f y fs)))
def MethR (C : Addr) (m : Str) (sp : Sp) (t : TA) (x : V) (σ : L2.St) (H : Hp) (Q : VK) : Prop := ∃ a dx fs, x = .ref a ∧ H a = some (.ins C dx fs) ∧ fs.lookup m = none ∧ t σ H fun vs H2 => sp (x :: (vs ++ [])) H2 Q E0
section
variable {σ : L2.St} {H : Hp} {Q : VK} {K : PySem.W.Frag} {v y : V} {ta tv : TE} {t : TA} {f m : Str} {D : Ends} {C p dx : Addr} {fs : List (Str × V)} {sp : Sp} {G : Hp → Prop} {xs : List V} {rd : V → V → Hp → VK → Prop} {T : String} {r : V → List V → Hp → VK → Prop} {b : Bool}
theorem x_fld : tFld K ta f σ H Q ↔ ta σ H fun x H1 => Fld K f x H1 Q := Iff.rfl
theorem fld (h : H p = some (.ins C dx fs)) (c : Cls K C) (n : NoAttr K C f) (l : fs.lookup f = some v) (q : Q v H) : Fld K f (.ref p) H Q := ⟨p, C, dx, fs, v, rfl, h, c, n, l, q⟩
theorem x_sfld : sFld K ta tv f D σ H ↔ tv σ H fun y H1 => ta σ H1 fun x H2 => SFld K f x y H2 fun H3 => D.nx σ H3 := Iff.rfl
theorem sfld (h : H p = some (.ins C dx fs)) (c : Cls K C) (n : NoAttr K C f) (l : fs.length < 1000) (q : G (upd H p (.ins C dx (putF f y fs)))) : SFld K f (.ref p) y H G := ⟨p, C, dx, fs, rfl, h, c, n, l, q⟩
theorem x_meth : tMeth C m sp [] E0 ta t σ H Q ↔ ta σ H fun x H1 => MethR C m sp t x σ H1 Q := Iff.rfl
theorem meth (h : H p = some (.ins C dx fs)) (l : fs.lookup m = none) (q : t σ H fun vs H2 => sp (.ref p :: (vs ++ [])) H2 Q E0) : MethR C m sp t (.ref p) σ H Q := ⟨p, dx, fs, rfl, h, l, q⟩
theorem x_make {dvs : List V} {E : XK} : tMake C sp dvs E t σ H Q ↔ t σ H fun vs H1 => ∀ x dx, H1 x = none → H1 dx = none → dx ≠ x → sp (.ref x :: (vs ++ dvs)) (upd (upd H1 dx (.own x)) x (.ins C dx [])) (fun v H2 => v = .non ∧ Q (.ref x) H2) E := Iff.rfl
theorem x_fldaug : sFldAug K ta tv rd f D σ H ↔ ta σ H fun x H1 => ∃ a C dx fs v, x = .ref a ∧ H1 a = some (.ins C dx fs) ∧ Cls K C ∧ NoAttr K C f ∧ fs.lookup f = some v ∧
  tv σ H1 fun y H2 => rd v y H2 fun z H3 => ∃ dx' fs', H3 a = some (.ins C dx' fs') ∧ fs'.length < 1000 ∧ D.nx σ (upd H3 a (.ins C dx' (putF f z fs'))) := Iff.rfl
theorem x_BM0 : tBM0 K T r ta σ H Q ↔ ta σ H fun x H1 => tyV K T x H1 ∧ r x [] H1 Q := Iff.rfl
theorem x_pop {l : Addr} (h : H l = some (.lst xs)) (hy : xs[xs.length - 1]? = some y) (q : Q y (upd H l (.lst xs.dropLast))) : rPop (.ref l) [] H Q := ⟨l, xs, y, rfl, rfl, h, hy, q⟩
end
section
variable {σ : L2.St} {H : Hp} {Q : VK} {i : Nat} {te : TE} {ti : V → V → Hp → VK → Prop} {D : Ends} {g : Int → Int → Int} {a b : Int}
theorem x_aug : tAug i te ti D σ H ↔ ∃ x, σ[i]? = some (some x) ∧ te σ H fun y H1 => ti x y H1 fun z H2 => D.nx (σ.set i (some z)) H2 := Iff.rfl
theorem x_ipI : ipI g (.int a) (.int b) H Q ↔ Q (.int (g a b)) H := ⟨fun ⟨_, _, e1, e2, q⟩ => by cases e1; cases e2; exact q, fun q => ⟨_, _, rfl, rfl, q⟩⟩
theorem x_rAdd : rAdd (.int a) (.int b) H Q ↔ Q (.int (a + b)) H := ⟨fun ⟨_, _, e1, e2, q⟩ => by cases e1; cases e2; exact q, fun q => ⟨_, _, rfl, rfl, q⟩⟩
end
theorem x_while {c : TT} {tb : TS} {D : Ends} {σ : L2.St} {H : Hp} : tWhile c tb D σ H ↔ ∃ W : Nat → L2.St → Hp → Prop, (∃ m, W m σ H) ∧ ∀ m σ H, W m σ H →
  c σ H fun b H1 => if b = true then ∃ N : L2.St → Hp → Prop, (∀ σ' H', N σ' H' → ∃ m', m' < m ∧ W m' σ' H') ∧ tb { D with nx := N, ct := N, bk := D.nx } σ H1 else D.nx σ H1 := Iff.rfl
theorem x_retN {D : Ends} {σ : L2.St} {H : Hp} : tRetN D σ H ↔ D.rt .non H := Iff.rfl
section
variable {X : Cx} {K : PySem.W.Frag}
theorem ixTK (h : X.K = K) : IxR X (rIxT K) := h ▸ ix_tup
theorem ixLK (h : X.K = K) : IxR X (rIxL K) := h ▸ ix_list
end
theorem truL {K : PySem.W.Frag} {H : Hp} {p : Addr} {xs : List V} (h : SqL K H p xs) : TruV K (.ref p) H (!xs.isEmpty) := .inl ⟨xs, h, rfl⟩
theorem truT {K : PySem.W.Frag} {H : Hp} {p : Addr} {xs : List V} (h : SqT K H p xs) : TruV K (.ref p) H (!xs.isEmpty) := .inr (.inl ⟨xs, h, rfl⟩)
end Cc

set_option Elab.async false
set_option linter.all false
set_option maxRecDepth 100000
set_option maxHeartbeats 4000000
/-! The numbers that a chain can give: what the object that is asked for them holds. -/
namespace Cc
open PySem PySem.Spec PyProof.Rows L2
abbrev Rg := List (Int × Int)
def cntR (r : Rg) : Int := (r.map fun p => p.2 - p.1 + 1).sum
def numAt : Rg → Int → Option Int
  | [], _ => none
  | p :: r, k => if k ≤ p.2 - p.1 then some (p.1 + k) else numAt r (k - (p.2 - p.1 + 1))
def movR (r : Rg) (d : Int) : Rg := r.map fun p => (p.1 + d, p.2 + d)
def stayR (r : Rg) (last : Int) : Rg := (r.filter fun p => decide (p.1 ≤ last)).map fun p => (p.1, if last < p.2 then last else p.2)
def leavR (r : Rg) (last : Int) : Rg := (r.filter fun p => decide (last < p.2)).map fun p => (if last + 1 > p.1 then last + 1 else p.1, p.2)
structure Lv where
  w : Int
  cut : Int
  rs : Rg
structure Spr where
  lv : List Lv
  off : Int
  tot : Int
def Spr.new : Spr := ⟨[], 0, 0⟩
def popS (lv : List Lv) (n : Int) : List Lv := (lv.reverse.dropWhile fun v => decide (n ≤ v.w)).reverse
def lowOf (r : Rg) : Int := match r with | p :: _ => p.1 | [] => 0
def wider (S : Spr) (v : Lv) (w : Str) (n : Int) : Spr :=
  let off := castI (lowOf v.rs + S.off) w n - lowOf v.rs
  let last := lowI w n + 2 ^ n.toNat - 1 - off
  if leavR v.rs last = [] then ⟨S.lv, off, S.tot⟩ else ⟨S.lv ++ [⟨n, cntR (stayR v.rs last), movR (leavR v.rs last) (-(2 ^ n.toNat)) ++ stayR v.rs last⟩], off, S.tot⟩
def takeS (S : Spr) (w : Str) (n : Int) : Spr :=
  if w = "add" then ⟨S.lv, S.off + n, S.tot + n⟩
  else match (popS S.lv n).getLast? with
    | none => ⟨[⟨n, 0, [(0, 2 ^ n.toNat - 1)]⟩], lowI w n, S.tot⟩
    | some v => wider ⟨popS S.lv n, S.off, S.tot⟩ v w n
/-- every level has a range -/
def Full (S : Spr) : Prop := ∀ v ∈ S.lv, v.rs ≠ []

theorem popS_snoc (lv : List Lv) (v : Lv) (n : Int) : popS (lv ++ [v]) n = if n ≤ v.w then popS lv n else lv ++ [v] := by
  unfold popS
  rw [List.reverse_append, List.reverse_singleton, List.singleton_append, List.dropWhile_cons]
  by_cases h : n ≤ v.w
  · simp [h]
  · simp [h]
theorem popS_nil (n : Int) : popS [] n = [] := rfl
theorem popS_sub {lv : List Lv} {n : Int} {v : Lv} (h : v ∈ popS lv n) : v ∈ lv := by
  unfold popS at h
  rw [List.mem_reverse] at h
  exact List.mem_reverse.mp ((List.dropWhile_sublist _).mem h)

/-! ### in the heap -/
inductive Rgs (K : PySem.W.Frag) (H : Hp) : List V → Rg → Prop
  | nil : Rgs K H [] []
  | cons {t : Addr} {a b : Int} {xs : List V} {r : Rg} : H t = some (.tup [.int a, .int b]) → Rgs K H xs r → Rgs K H (.ref t :: xs) ((a, b) :: r)
def RgAt (K : PySem.W.Frag) (H : Hp) (l : Addr) (r : Rg) : Prop := ∃ xs, H l = some (.lst xs) ∧ Rgs K H xs r
inductive Lvs (K : PySem.W.Frag) (H : Hp) (l : Addr) : List V → List Lv → Prop
  | nil : Lvs K H l [] []
  | cons {t q : Addr} {w c : Int} {r : Rg} {xs : List V} {lv : List Lv} : SqT K H t [.int w, .int c, .ref q] → q ≠ l → RgAt K H q r → Lvs K H l xs lv → Lvs K H l (.ref t :: xs) (⟨w, c, r⟩ :: lv)
def sf (l : Addr) (o t : Int) : List (Str × V) := [("levels", .ref l), ("offset", .int o), ("total", .int t)]
/-- the object stands at p, its list of levels at l -/
def SpAt (K : PySem.W.Frag) (C : Addr) (H : Hp) (p l : Addr) (S : Spr) : Prop := ∃ dx xs, H p = some (.ins C dx (sf l S.off S.tot)) ∧ H l = some (.lst xs) ∧ Lvs K H l xs S.lv
/-- all but p and l stands -/
def But (p l : Addr) (H H' : Hp) : Prop := ∀ b o, b ≠ p → b ≠ l → H b = some o → H' b = some o
section
variable {K : PySem.W.Frag} {H H' H'' : Hp} {p l q : Addr} {xs ys : List V} {r r' : Rg} {C : Addr} {S : Spr} {lv : List Lv}
theorem But.refl : But p l H H := fun _ _ _ _ e => e
theorem But.trans (a : But p l H H') (b : But p l H' H'') : But p l H H'' := fun c o h1 h2 e => b c o h1 h2 (a c o h1 h2 e)
theorem But.of (e : Same H H') : But p l H H' := fun b o _ _ h => e b o h
theorem But.updP {o : HO} : But p l H (upd H p o) := fun b u h _ e => by rw [upd_ne h]; exact e
theorem But.updL {o : HO} : But p l H (upd H l o) := fun b u _ h e => by rw [upd_ne h]; exact e
/-- tuples are none of the two -/
theorem But.tup {o : HO} (e : But p l H H') (hp : H p = some o) (hl : H l = some (.lst ys)) (no : ∀ zs, o ≠ .tup zs) (nf : ∀ u v, o ≠ .frz u v) {t : Addr} (h : SqT K H t xs) : SqT K H' t xs := by
  have np : ∀ {u : HO}, H t = some u → (∀ zs, u ≠ .tup zs → True) → u ≠ o → t ≠ p := fun hu _ hn z => by
    rw [z, hp] at hu
    exact hn (Option.some.inj hu).symm
  rcases h with (h | ⟨u, h⟩) | h
  · refine .inl (.inl (e t _ (fun z => ?_) (fun z => ?_) h))
    · rw [z, hp] at h; exact no _ (Option.some.inj h)
    · rw [z, hl] at h; exact nomatch h
  · refine .inl (.inr ⟨u, e t _ (fun z => ?_) (fun z => ?_) h⟩)
    · rw [z, hp] at h; exact nf _ _ (Option.some.inj h)
    · rw [z, hl] at h; exact nomatch h
  · exact .inr h
theorem Rgs.same (e : ∀ {t : Addr} {xs : List V}, H t = some (.tup xs) → H' t = some (.tup xs)) : ∀ {xs : List V} {r : Rg}, Rgs K H xs r → Rgs K H' xs r
  | _, _, .nil => .nil
  | _, _, .cons h t => .cons (e h) (Rgs.same e t)
theorem RgAt.same (e : Same H H') (h : RgAt K H q r) : RgAt K H' q r := by
  obtain ⟨xs, h1, h2⟩ := h
  exact ⟨xs, e _ _ h1, h2.same fun h => e _ _ h⟩
theorem RgAt.but {dx : Addr} {fs : List (Str × V)} (e : But p l H H') (hp : H p = some (.ins C dx fs)) (hl : H l = some (.lst ys)) (hq : q ≠ l) (h : RgAt K H q r) : RgAt K H' q r := by
  obtain ⟨xs, h1, h2⟩ := h
  refine ⟨xs, e q _ (fun z => ?_) hq h1, h2.same fun h => e _ _ (fun z => by rw [z, hp] at h; exact nomatch h) (fun z => by rw [z, hl] at h; exact nomatch h) h⟩
  rw [z, hp] at h1
  exact nomatch h1
theorem Lvs.but {dx : Addr} {fs : List (Str × V)} (e : But p l H H') (hp : H p = some (.ins C dx fs)) (hl : H l = some (.lst ys)) : ∀ {xs : List V} {lv : List Lv}, Lvs K H l xs lv → Lvs K H' l xs lv
  | _, _, .nil => .nil
  | _, _, .cons h1 h2 h3 h4 => .cons (But.tup e hp hl (fun _ => nofun) (fun _ _ => nofun) h1) h2 (RgAt.but e hp hl h2 h3) (Lvs.but e hp hl h4)
theorem Lvs.same (e : Same H H') : ∀ {xs : List V} {lv : List Lv}, Lvs K H l xs lv → Lvs K H' l xs lv
  | _, _, .nil => .nil
  | _, _, .cons h1 h2 h3 h4 => .cons (Same.tup e h1) h2 (h3.same e) (Lvs.same e h4)
theorem SpAt.same (e : Same H H') (h : SpAt K C H p l S) : SpAt K C H' p l S := by
  obtain ⟨dx, xs, h1, h2, h3⟩ := h
  exact ⟨dx, xs, e _ _ h1, e _ _ h2, h3.same e⟩
theorem Lvs.len : ∀ {xs : List V} {lv : List Lv}, Lvs K H l xs lv → xs.length = lv.length
  | _, _, .nil => rfl
  | _, _, .cons _ _ _ t => congrArg (· + 1) (Lvs.len t)
theorem Lvs.get : ∀ {xs : List V} {lv : List Lv} {i : Nat} {x : V}, Lvs K H l xs lv → xs[i]? = some x → ∃ t q v, x = .ref t ∧ lv[i]? = some v ∧ SqT K H t [.int v.w, .int v.cut, .ref q] ∧ q ≠ l ∧ RgAt K H q v.rs
  | _, _, _, _, .nil, e => by simp at e
  | _, _, 0, _, .cons h1 h2 h3 _, e => by
    simp at e
    exact ⟨_, _, _, e.symm, rfl, h1, h2, h3⟩
  | _, _, i + 1, x, .cons _ _ _ t, e => by
    obtain ⟨t', q, v, e1, e2, e3⟩ := Lvs.get (i := i) (x := x) t (by simpa using e)
    exact ⟨t', q, v, e1, by simpa using e2, e3⟩
theorem Lvs.snoc {t : Addr} {w c : Int} : ∀ {xs : List V} {lv : List Lv}, Lvs K H l xs lv → SqT K H t [.int w, .int c, .ref q] → q ≠ l → RgAt K H q r → Lvs K H l (xs ++ [.ref t]) (lv ++ [⟨w, c, r⟩])
  | _, _, .nil, h1, h2, h3 => .cons h1 h2 h3 .nil
  | _, _, .cons a b c' d, h1, h2, h3 => .cons a b c' (Lvs.snoc d h1 h2 h3)
theorem Lvs.dropLast (h : Lvs K H l xs lv) : Lvs K H l xs.dropLast lv.dropLast := by
  induction h with
  | nil => exact .nil
  | cons a b c d ih =>
    cases d with
    | nil => exact .nil
    | cons a' b' c' d' => exact .cons a b c ih
theorem Rgs.len : ∀ {xs : List V} {r : Rg}, Rgs K H xs r → xs.length = r.length
  | _, _, .nil => rfl
  | _, _, .cons _ t => congrArg (· + 1) (Rgs.len t)
theorem Rgs.get : ∀ {xs : List V} {r : Rg} {i : Nat} {x : V}, Rgs K H xs r → xs[i]? = some x → ∃ t a b, x = .ref t ∧ r[i]? = some (a, b) ∧ SqT K H t [.int a, .int b]
  | _, _, _, _, .nil, e => by simp at e
  | _, _, 0, _, .cons h1 _, e => by
    simp at e
    exact ⟨_, _, _, e.symm, rfl, SqT.of h1⟩
  | _, _, i + 1, x, .cons _ t, e => by
    obtain ⟨t', a, b, e1, e2, e3⟩ := Rgs.get (i := i) (x := x) t (by simpa using e)
    exact ⟨t', a, b, e1, by simpa using e2, e3⟩
theorem Rgs.append : ∀ {xs ys : List V} {r r' : Rg}, Rgs K H xs r → Rgs K H ys r' → Rgs K H (xs ++ ys) (r ++ r')
  | _, _, _, _, .nil, h => h
  | _, _, _, _, .cons a b, h => .cons a (Rgs.append b h)
theorem Rgs.snoc {t : Addr} {a b : Int} (h : Rgs K H xs r) (ht : H t = some (.tup [.int a, .int b])) : Rgs K H (xs ++ [.ref t]) (r ++ [(a, b)]) := h.append (.cons ht .nil)
end
/-- a list of ranges grows by one, its new tuple at p -/
theorem Rgs.grow {K : PySem.W.Frag} {H : Hp} {p D : Addr} {ys zs : List V} {r : Rg} {a b : Int} {o : HO} (h : Rgs K H ys r) (np : H p = none) (hD : H D = some (.lst zs)) : Rgs K (upd (upd H p (.tup [.int a, .int b])) D o) (ys ++ [.ref p]) (r ++ [(a, b)]) := by
  have hpD : p ≠ D := fun z => by rw [z, hD] at np; cases np
  refine (h.same fun {t zs} h => ?_).snoc (by rw [upd_ne hpD, upd_same])
  have h1 := (same_new (o := .tup [.int a, .int b]) np) _ _ h
  rw [upd_ne (fun z => by rw [z, upd_ne hpD.symm, hD] at h1; exact nomatch h1)]
  exact h1
/-- another list changes: none of the object's, for its items are no ranges and no levels -/
theorem Rgs.other {K : PySem.W.Frag} {H : Hp} {c : Addr} {o : HO} (ho : ∀ zs, H c ≠ some (.tup zs)) {xs : List V} {r : Rg} (h : Rgs K H xs r) : Rgs K (upd H c o) xs r :=
  h.same fun h => by rw [upd_ne (fun z => ho _ (by rw [← z]; exact h))]; exact h
theorem RgAt.other {K : PySem.W.Frag} {H : Hp} {c t q : Addr} {ys : List V} {o : HO} {x : Str} {n : Int} {r : Rg} (hc : H c = some (.lst (.ref t :: ys))) (ht : H t = some (.tup [.str x, .int n])) (hr : r ≠ []) (h : RgAt K H q r) : RgAt K (upd H c o) q r := by
  obtain ⟨xs, h1, h2⟩ := h
  have hq : q ≠ c := fun z => by
    rw [z, hc] at h1
    cases h1
    cases h2 with
    | cons a b =>
      rw [ht] at a
      cases a
  exact ⟨xs, by rw [upd_ne hq]; exact h1, h2.other fun zs e => by rw [hc] at e; cases e⟩
theorem Lvs.other {K : PySem.W.Frag} {H : Hp} {l c t : Addr} {ys : List V} {o : HO} {x : Str} {n : Int} (hc : H c = some (.lst (.ref t :: ys))) (ht : H t = some (.tup [.str x, .int n]))
    {xs : List V} {lv : List Lv} (hf : ∀ v ∈ lv, v.rs ≠ []) (h : Lvs K H l xs lv) : Lvs K (upd H c o) l xs lv := by
  induction h with
  | nil => exact .nil
  | cons h1 h2 h3 h4 ih =>
    refine .cons ?_ h2 (h3.other hc ht (hf _ List.mem_cons_self)) (ih fun v hv => hf v (List.mem_cons_of_mem _ hv))
    rcases h1 with (h1 | ⟨u, h1⟩) | h1
    · exact .inl (.inl (by show upd H c o _ = _; rw [upd_ne (fun z => by rw [z, hc] at h1; cases h1)]; exact h1))
    · exact .inl (.inr ⟨u, by show upd H c o _ = _; rw [upd_ne (fun z => by rw [z, hc] at h1; cases h1)]; exact h1⟩)
    · exact .inr h1
theorem SpAt.other {K : PySem.W.Frag} {C : Addr} {H : Hp} {p l c t : Addr} {ys : List V} {o : HO} {x : Str} {n : Int} {S : Spr} (hc : H c = some (.lst (.ref t :: ys))) (ht : H t = some (.tup [.str x, .int n])) (hl : c ≠ l) (hF : ∀ v ∈ S.lv, v.rs ≠ []) (h : SpAt K C H p l S) : SpAt K C (upd H c o) p l S := by
  obtain ⟨dx, xs, h1, h2, h3⟩ := h
  exact ⟨dx, xs, by rw [upd_ne (fun z => by rw [z, hc] at h1; cases h1)]; exact h1, by rw [upd_ne hl.symm]; exact h2, h3.other hc ht hF⟩
/-! ### the fields -/
theorem sf_levels (l : Addr) (o t : Int) : (sf l o t).lookup ("levels" : Str) = some (.ref l) := by
  unfold sf
  rw [List.lookup_cons, show (("levels" : Str) == "levels") = true by decide +kernel]
theorem sf_offset (l : Addr) (o t : Int) : (sf l o t).lookup ("offset" : Str) = some (.int o) := by
  unfold sf
  rw [List.lookup_cons, show (("offset" : Str) == "levels") = false by decide +kernel]
  simp only
  rw [List.lookup_cons, show (("offset" : Str) == "offset") = true by decide +kernel]
theorem sf_total (l : Addr) (o t : Int) : (sf l o t).lookup ("total" : Str) = some (.int t) := by
  unfold sf
  rw [List.lookup_cons, show (("total" : Str) == "levels") = false by decide +kernel]
  simp only
  rw [List.lookup_cons, show (("total" : Str) == "offset") = false by decide +kernel]
  simp only
  rw [List.lookup_cons, show (("total" : Str) == "total") = true by decide +kernel]
theorem sf_none {m : Str} (l : Addr) (o t : Int) (h1 : (m == ("levels" : Str)) = false) (h2 : (m == ("offset" : Str)) = false) (h3 : (m == ("total" : Str)) = false) : (sf l o t).lookup m = none := by
  unfold sf
  rw [List.lookup_cons, h1]
  simp only
  rw [List.lookup_cons, h2]
  simp only
  rw [List.lookup_cons, h3]
  rfl
theorem lo_ : ¬ (("levels" : Str) = "offset") := by decide +kernel
theorem lt_ : ¬ (("levels" : Str) = "total") := by decide +kernel
theorem ot_ : ¬ (("offset" : Str) = "total") := by decide +kernel
theorem sf_put_offset (l : Addr) (o o' t : Int) : putF "offset" (.int o') (sf l o t) = sf l o' t := by
  show (if ("levels" : Str) = "offset" then _ else (("levels" : Str), V.ref l) :: (if ("offset" : Str) = "offset" then (("offset" : Str), V.int o') :: [(("total" : Str), V.int t)] else _)) = sf l o' t
  rw [if_neg lo_, if_pos rfl]
  rfl
theorem sf_put_total (l : Addr) (o t t' : Int) : putF "total" (.int t') (sf l o t) = sf l o t' := by
  show (if ("levels" : Str) = "total" then _ else (("levels" : Str), V.ref l) :: (if ("offset" : Str) = "total" then _ else (("offset" : Str), V.int o) :: (if ("total" : Str) = "total" then [(("total" : Str), V.int t')] else _))) = sf l o t'
  rw [if_neg lt_, if_neg ot_, if_pos rfl]
  rfl
theorem sf_make (l : Addr) : putF "total" (.int 0) (putF "offset" (.int 0) (putF "levels" (.ref l) [])) = sf l 0 0 := by
  show putF "total" (.int 0) (if ("levels" : Str) = "offset" then _ else (("levels" : Str), V.ref l) :: [(("offset" : Str), V.int 0)]) = sf l 0 0
  rw [if_neg lo_]
  show (if ("levels" : Str) = "total" then _ else (("levels" : Str), V.ref l) :: (if ("offset" : Str) = "total" then _ else (("offset" : Str), V.int 0) :: [(("total" : Str), V.int 0)])) = sf l 0 0
  rw [if_neg lt_, if_neg ot_]
  rfl
end Cc

set_option Elab.async false
set_option linter.all false
set_option maxRecDepth 100000
set_option maxHeartbeats 4000000
/-! What casts make of numbers: plain arithmetic. -/
namespace Cc
open PySem PySem.Spec PyProof.Rows L2
theorem two_succ (n : Nat) : (2 : Int) ^ (n + 1) = 2 * 2 ^ n := by rw [Int.pow_succ, Int.mul_comm]
theorem two_dvd {m n : Nat} (h : m ≤ n) : (2 : Int) ^ m ∣ 2 ^ n := ⟨2 ^ (n - m), by rw [← Int.pow_add, Nat.add_sub_cancel' h]⟩
theorem low_u (n : Int) : lowI "u" n = 0 := if_pos rfl
theorem low_s (n : Int) : lowI "s" n = -(2 ^ (n - 1).toNat) := if_neg (by decide +kernel)
theorem cast_lo (x : Int) (w : Str) (n : Int) : lowI w n ≤ castI x w n := by
  have h := Int.emod_nonneg (x - lowI w n) (show (2 : Int) ^ n.toNat ≠ 0 from Int.ne_of_gt (two_pos _))
  unfold castI
  omega
theorem cast_hi (x : Int) (w : Str) (n : Int) : castI x w n < lowI w n + 2 ^ n.toNat := by
  have h := Int.emod_lt_of_pos (x - lowI w n) (two_pos n.toNat)
  unfold castI
  omega
theorem cast_mod (x : Int) (w : Str) (n : Int) : castI x w n % 2 ^ n.toNat = x % 2 ^ n.toNat := by
  unfold castI
  rw [Int.add_emod_emod, show lowI w n + (x - lowI w n) = x by omega]
theorem cast_dvd (x : Int) (w : Str) (n : Int) : (2 : Int) ^ n.toNat ∣ castI x w n - x := Int.dvd_of_emod_eq_zero (Int.emod_eq_emod_iff_emod_sub_eq_zero.mp (cast_mod x w n))
theorem cast_fix {x : Int} {w : Str} {n : Int} (h0 : lowI w n ≤ x) (h1 : x < lowI w n + 2 ^ n.toNat) : castI x w n = x := by
  unfold castI
  rw [Int.emod_eq_of_lt (by omega) (by omega)]
  omega
theorem cast_same {x y : Int} {w : Str} {n : Int} (h : x % 2 ^ n.toNat = y % 2 ^ n.toNat) : castI x w n = castI y w n := by
  unfold castI
  have e : (x - lowI w n) % 2 ^ n.toNat = (y - lowI w n) % 2 ^ n.toNat := by rw [Int.sub_emod, h, ← Int.sub_emod]
  rw [e]
theorem mod_mod_of {x y : Int} {m n : Nat} (h : m ≤ n) (e : x % 2 ^ n = y % 2 ^ n) : x % 2 ^ m = y % 2 ^ m := by
  rw [← Int.emod_emod_of_dvd x (two_dvd h), e, Int.emod_emod_of_dvd y (two_dvd h)]
/-- a wider cast ahead of a narrower one is needless -/
theorem cast_cast {x : Int} {w w' : Str} {n o : Int} (h : n ≤ o) : castI (castI x w' o) w n = castI x w n :=
  cast_same (mod_mod_of (by omega) (cast_mod x w' o))
theorem cast_u (x n : Int) : castI x "u" n = x % 2 ^ n.toNat := by
  unfold castI
  rw [low_u, Int.sub_zero, Int.zero_add]
theorem half_two {n : Int} (h : 1 ≤ n) : (2 : Int) ^ n.toNat = 2 * 2 ^ (n - 1).toNat := by
  rw [← two_succ]
  congr 1
  omega
theorem fits_in {x : Int} {w w' : Str} {n : Int} (hw : w = "u" ∨ w = "s") (hn : 1 ≤ n) : castI (castI x w n) "s" (n + 1) = castI x w n := by
  have h0 := cast_lo x w n
  have h1 := cast_hi x w n
  have p := two_pos n.toNat
  have q := two_pos (n - 1).toNat
  have e := half_two hn
  have e2 := half_two (n := n + 1) (by omega)
  rw [show (n + 1 - 1).toNat = n.toNat by omega] at e2
  refine cast_fix ?_ ?_
  · rw [low_s, show (n + 1 - 1).toNat = n.toNat by omega]
    rcases hw with rfl | rfl
    · rw [low_u] at h0; omega
    · rw [low_s] at h0; omega
  · rw [low_s, show (n + 1 - 1).toNat = n.toNat by omega, e2]
    rcases hw with rfl | rfl
    · rw [low_u] at h1; omega
    · rw [low_s] at h1; omega
/-! the lowest binary digits, by halving -/
def bitsI (x : Int) (m : Nat) : List Int := (List.range m).map fun j => x / 2 ^ j % 2
theorem bits_len (x : Int) (m : Nat) : (bitsI x m).length = m := by unfold bitsI; simp
theorem bits_succ (x : Int) (m : Nat) : bitsI x (m + 1) = bitsI x m ++ [x / 2 ^ m % 2] := by
  unfold bitsI
  rw [List.range_succ, List.map_append]
  rfl
theorem half_half (x : Int) (m : Nat) : x / 2 ^ m / 2 = x / 2 ^ (m + 1) := by
  rw [Int.ediv_ediv_of_nonneg (Int.le_of_lt (two_pos m)), Int.pow_succ]
/-- what the digits up to the i-th are worth -/
def worth (x : Int) : Nat → Int
  | 0 => 0
  | i + 1 => worth x i + x / 2 ^ i % 2 * 2 ^ i
theorem worth_mod (x : Int) : ∀ i, worth x i = x % 2 ^ i
  | 0 => by simp [worth]
  | i + 1 => by
    have ih := worth_mod x i
    unfold worth
    rw [ih]
    have p := two_pos i
    have h1 := Int.emod_add_mul_ediv x (2 ^ i)
    have h2 := Int.emod_add_mul_ediv (x / 2 ^ i) 2
    have h3 := Int.emod_add_mul_ediv x (2 ^ (i + 1))
    rw [half_half] at h2
    have e : (2 : Int) ^ (i + 1) = 2 ^ i * 2 := Int.pow_succ _ _
    have h4 : (2 : Int) ^ i * (x / 2 ^ i) = 2 ^ i * (x / 2 ^ i % 2) + 2 ^ (i + 1) * (x / 2 ^ (i + 1)) := by
      have h5 : (2 : Int) ^ i * (x / 2 ^ i) = 2 ^ i * (x / 2 ^ i % 2 + 2 * (x / 2 ^ (i + 1))) := by rw [h2]
      rw [h5, Int.mul_add, ← Int.mul_assoc, ← e]
    rw [Int.mul_comm (x / 2 ^ i % 2)]
    omega
theorem signed_worth {x n : Int} (hn : 1 ≤ n) : castI x "s" n = worth x (n.toNat - 1) - x / 2 ^ (n.toNat - 1) % 2 * 2 ^ (n.toNat - 1) := by
  rw [worth_mod]
  have p := two_pos (n.toNat - 1)
  have e : (2 : Int) ^ n.toNat = 2 * 2 ^ (n.toNat - 1) := by
    rw [← two_succ]
    congr 1
    omega
  have r0 := Int.emod_nonneg x (show (2 : Int) ^ (n.toNat - 1) ≠ 0 from Int.ne_of_gt p)
  have r1 := Int.emod_lt_of_pos x p
  have b0 := Int.emod_nonneg (x / 2 ^ (n.toNat - 1)) (show (2 : Int) ≠ 0 by decide)
  have b1 := Int.emod_lt_of_pos (x / 2 ^ (n.toNat - 1)) (show (0 : Int) < 2 by decide)
  have w2 := worth_mod x (n.toNat - 1 + 1)
  have w1 := worth_mod x (n.toNat - 1)
  unfold worth at w2
  rw [w1, two_succ] at w2
  rw [← e] at w2
  generalize hb : x / 2 ^ (n.toNat - 1) % 2 = b at *
  generalize hr : x % 2 ^ (n.toNat - 1) = r at *
  generalize hP : (2 : Int) ^ (n.toNat - 1) = Pw at *
  have lo : lowI "s" n = -Pw := by rw [low_s, ← hP]; congr 2; omega
  have key : ∀ y : Int, y % 2 ^ n.toNat = x % 2 ^ n.toNat → -Pw ≤ y → y < Pw → castI x "s" n = y := fun y hy h0 h1 => by
    rw [cast_same (w := "s") hy.symm]
    exact cast_fix (by rw [lo]; exact h0) (by rw [lo, e]; omega)
  have hb2 : b = 0 ∨ b = 1 := by omega
  rcases hb2 with rfl | rfl
  · refine key _ ?_ (by omega) (by omega)
    rw [← w2]
    rw [Int.zero_mul, Int.sub_zero, Int.add_zero]
    exact Int.emod_eq_of_lt r0 (by rw [e]; omega)
  · refine key _ ?_ (by omega) (by omega)
    rw [← w2, Int.one_mul]
    have : r - Pw = (r + Pw) + (2 ^ n.toNat) * (-1) := by rw [e]; omega
    rw [this, Int.add_mul_emod_self_left]
    exact Int.emod_eq_of_lt (by omega) (by rw [e]; omega)
end Cc

set_option Elab.async false
set_option linter.all false
set_option maxRecDepth 100000
set_option maxHeartbeats 1000000
/-! What the steps make of the levels: ascending ranges, as many numbers as the least cast has. -/
namespace Cc
open PySem PySem.Spec PyProof.Rows L2
/-- ascending ranges between lo and hi -/
def Asc : Int → Rg → Int → Prop
  | _, [], _ => True
  | lo, (a, b) :: r, hi => lo ≤ a ∧ a ≤ b ∧ b ≤ hi ∧ Asc (b + 1) r hi
theorem Asc.low {lo lo' hi : Int} : ∀ {r : Rg}, Asc lo r hi → lo' ≤ lo → Asc lo' r hi
  | [], _, _ => trivial
  | (a, b) :: r, ⟨h1, h2, h3, h4⟩, h => ⟨by omega, h2, h3, h4⟩
theorem Asc.high {hi hi' : Int} (h : hi ≤ hi') : ∀ {r : Rg} {lo : Int}, Asc lo r hi → Asc lo r hi'
  | [], _, _ => trivial
  | (a, b) :: r, _, ⟨h1, h2, h3, h4⟩ => ⟨h1, h2, by omega, Asc.high h h4⟩
theorem Asc.mov {d hi : Int} : ∀ {r : Rg} {lo : Int}, Asc lo r hi → Asc (lo + d) (movR r d) (hi + d)
  | [], _, _ => trivial
  | (a, b) :: r, _, ⟨h1, h2, h3, h4⟩ => by
    have h := Asc.mov (d := d) h4
    exact ⟨by omega, by omega, by omega, by rw [show b + d + 1 = b + 1 + d by omega]; exact h⟩
theorem Asc.app {hi mid lo2 : Int} {r2 : Rg} (h2 : Asc lo2 r2 hi) (hm : mid < lo2) (hh : mid ≤ hi) : ∀ {r : Rg} {lo : Int}, Asc lo r mid → lo ≤ lo2 → Asc lo (r ++ r2) hi
  | [], _, _, hl => h2.low hl
  | (a, b) :: r, _, ⟨h3, h4, h5, h6⟩, _ => ⟨h3, h4, by omega, Asc.app h2 hm hh h6 (by omega)⟩
theorem stayR_cons (a b : Int) (r : Rg) (z : Int) : stayR ((a, b) :: r) z = if a ≤ z then (a, if z < b then z else b) :: stayR r z else stayR r z := by
  unfold stayR
  by_cases h : a ≤ z
  · rw [List.filter_cons_of_pos (by simp [h]), if_pos h]; rfl
  · rw [List.filter_cons_of_neg (by simp [h]), if_neg h]
theorem leavR_cons (a b : Int) (r : Rg) (z : Int) : leavR ((a, b) :: r) z = if z < b then (if z + 1 > a then z + 1 else a, b) :: leavR r z else leavR r z := by
  unfold leavR
  by_cases h : z < b
  · rw [List.filter_cons_of_pos (by simp [h]), if_pos h]; rfl
  · rw [List.filter_cons_of_neg (by simp [h]), if_neg h]
theorem Asc.stay {z hi : Int} : ∀ {r : Rg} {lo : Int}, Asc lo r hi → Asc lo (stayR r z) z
  | [], _, _ => trivial
  | (a, b) :: r, lo, ⟨h1, h2, h3, h4⟩ => by
    have h := Asc.stay (z := z) h4
    rw [stayR_cons]
    by_cases hc : a ≤ z
    · rw [if_pos hc]
      by_cases hb : z < b
      · rw [if_pos hb]
        exact ⟨h1, hc, by omega, h.low (by omega)⟩
      · rw [if_neg hb]
        exact ⟨h1, h2, by omega, h⟩
    · rw [if_neg hc]
      exact h.low (by omega)
theorem Asc.leave {z hi : Int} : ∀ {r : Rg} {lo : Int}, Asc lo r hi → Asc (z + 1) (leavR r z) hi
  | [], _, _ => trivial
  | (a, b) :: r, lo, ⟨h1, h2, h3, h4⟩ => by
    have h := Asc.leave (z := z) h4
    rw [leavR_cons]
    by_cases hc : z < b
    · rw [if_pos hc]
      have tail : Asc (b + 1) (leavR r z) hi := by
        clear h
        revert h4
        generalize hlo : b + 1 = lo'
        have hz : z < lo' := by omega
        clear hlo
        intro h4
        clear h1 h2 h3 hc
        induction r generalizing lo' with
        | nil => trivial
        | cons p r ih =>
          obtain ⟨a, b⟩ := p
          obtain ⟨g1, g2, g3, g4⟩ := h4
          rw [leavR_cons, if_pos (show z < b by omega), if_neg (show ¬ z + 1 > a by omega)]
          exact ⟨g1, g2, g3, ih (b + 1) (by omega) g4⟩
      by_cases hb : z + 1 > a
      · rw [if_pos hb]
        exact ⟨by omega, by omega, h3, tail⟩
      · rw [if_neg hb]
        exact ⟨by omega, h2, h3, tail⟩
    · rw [if_neg hc]
      exact h
theorem Asc.none_leave {z hi : Int} : ∀ {r : Rg} {lo : Int}, Asc lo r hi → z < lo → stayR r z = []
  | [], _, _, _ => rfl
  | (a, b) :: r, lo, ⟨h1, h2, h3, h4⟩, h => by
    rw [stayR_cons, if_neg (by omega)]
    exact Asc.none_leave h4 (by omega)
theorem leavR_le (r : Rg) (z : Int) : (leavR r z).length ≤ r.length := by
  unfold leavR
  rw [List.length_map]
  exact List.length_filter_le _ _
theorem parts_len {z hi : Int} : ∀ {r : Rg} {lo : Int}, Asc lo r hi → (stayR r z).length + (leavR r z).length ≤ r.length + 1
  | [], _, _ => by simp [stayR, leavR]
  | (a, b) :: r, lo, ⟨h1, h2, h3, h4⟩ => by
    have ih := parts_len (z := z) h4
    rw [stayR_cons, leavR_cons]
    by_cases hc : a ≤ z
    · by_cases hb : z < b
      · rw [if_pos hc, if_pos hb, if_pos hb, Asc.none_leave h4 (by omega)]
        have := leavR_le r z
        simp only [List.length_cons, List.length_nil]
        omega
      · rw [if_pos hc, if_neg hb, if_neg hb]
        simp only [List.length_cons]
        omega
    · by_cases hb : z < b
      · rw [if_neg hc, if_pos hb]
        simp only [List.length_cons]
        omega
      · omega
theorem cntR_cons (p : Int × Int) (r : Rg) : cntR (p :: r) = p.2 - p.1 + 1 + cntR r := by
  unfold cntR
  rw [List.map_cons, List.sum_cons]
theorem cntR_app (r s : Rg) : cntR (r ++ s) = cntR r + cntR s := by
  unfold cntR
  rw [List.map_append, List.sum_append]
theorem cntR_mov (r : Rg) (d : Int) : cntR (movR r d) = cntR r := by
  induction r with
  | nil => rfl
  | cons p r ih =>
    show cntR ((p.1 + d, p.2 + d) :: movR r d) = _
    rw [cntR_cons, cntR_cons, ih]
    dsimp only
    omega
theorem parts_cnt {z hi : Int} : ∀ {r : Rg} {lo : Int}, Asc lo r hi → cntR (stayR r z) + cntR (leavR r z) = cntR r
  | [], _, _ => rfl
  | (a, b) :: r, lo, ⟨h1, h2, h3, h4⟩ => by
    have ih := parts_cnt (z := z) h4
    rw [stayR_cons, leavR_cons, cntR_cons]
    by_cases hc : a ≤ z
    · by_cases hb : z < b
      · rw [if_pos hc, if_pos hb, if_pos hb, if_pos (show z + 1 > a by omega), cntR_cons, cntR_cons]
        dsimp only
        omega
      · rw [if_pos hc, if_neg hb, if_neg hb, cntR_cons]
        dsimp only
        omega
    · rw [if_neg hc, if_pos (show z < b by omega), if_neg (show ¬ z + 1 > a by omega), cntR_cons]
      dsimp only
      omega
theorem numAt_some {hi : Int} : ∀ {r : Rg} {lo k : Int}, Asc lo r hi → 0 ≤ k → k < cntR r → ∃ v, numAt r k = some v ∧ lo ≤ v ∧ v ≤ hi
  | [], _, k, _, h0, h1 => by
    have : cntR [] = 0 := rfl
    omega
  | (a, b) :: r, lo, k, ⟨h1, h2, h3, h4⟩, h0, hk => by
    rw [cntR_cons] at hk
    dsimp only at hk
    unfold numAt
    by_cases hc : k ≤ b - a
    · rw [if_pos hc]
      exact ⟨_, rfl, by dsimp only; omega, by dsimp only; omega⟩
    · rw [if_neg hc]
      obtain ⟨v, e, e1, e2⟩ := numAt_some (k := k - (b - a + 1)) h4 (by omega) (by omega)
      exact ⟨v, e, by omega, e2⟩
/-- a level: its ranges ascend within as many numbers as its width has -/
def LvOk (k : Nat) (v : Lv) : Prop := v.rs.length ≤ k ∧ v.rs ≠ [] ∧ 1 ≤ v.w ∧ v.w ≤ big ∧ Asc (lowOf v.rs) v.rs (lowOf v.rs + 2 ^ v.w.toNat - 1)
structure Sok (k : Nat) (S : Spr) : Prop where
  len : S.lv.length ≤ k
  lvl : ∀ v ∈ S.lv, LvOk k v
  cnt : ∀ u, S.lv.head? = some u → ∀ v ∈ S.lv, cntR v.rs = 2 ^ u.w.toNat
  asc : S.lv.Pairwise fun u v => u.w < v.w
theorem Sok.new : Sok 0 Spr.new := ⟨Nat.le_refl _, fun _ h => (nomatch h), fun _ h => (nomatch h), List.Pairwise.nil⟩
theorem LvOk.up {k m : Nat} {v : Lv} (h : LvOk k v) (hk : k ≤ m) : LvOk m v := ⟨Nat.le_trans h.1 hk, h.2⟩
theorem Sok.up {k m : Nat} {S : Spr} (h : Sok k S) (hk : k ≤ m) : Sok m S := ⟨Nat.le_trans h.len hk, fun v hv => (h.lvl v hv).up hk, h.cnt, h.asc⟩
theorem popS_pre (n : Int) : ∀ lv : List Lv, ∃ r, lv = popS lv n ++ r := by
  intro lv
  induction hk : lv.length generalizing lv with
  | zero =>
    have : lv = [] := List.length_eq_zero_iff.mp hk
    exact ⟨[], by rw [this]; rfl⟩
  | succ k ih =>
    rcases List.eq_nil_or_concat lv with rfl | ⟨l0, v, rfl⟩
    · cases hk
    · rw [List.concat_eq_append] at *
      rw [popS_snoc]
      by_cases h : n ≤ v.w
      · rw [if_pos h]
        obtain ⟨r, hr⟩ := ih l0 (by simpa using hk)
        exact ⟨r ++ [v], by rw [← List.append_assoc, ← hr]⟩
      · rw [if_neg h]
        exact ⟨[], (List.append_nil _).symm⟩
theorem popS_last {n : Int} {v : Lv} : ∀ {lv : List Lv}, (popS lv n).getLast? = some v → v.w < n := by
  intro lv
  induction hk : lv.length generalizing lv with
  | zero =>
    have : lv = [] := List.length_eq_zero_iff.mp hk
    intro h
    rw [this] at h
    exact nomatch h
  | succ k ih =>
    rcases List.eq_nil_or_concat lv with rfl | ⟨l0, u, rfl⟩
    · cases hk
    · rw [List.concat_eq_append] at *
      rw [popS_snoc]
      by_cases h : n ≤ u.w
      · rw [if_pos h]
        exact ih (by simpa using hk)
      · rw [if_neg h, List.getLast?_concat]
        intro e
        cases e
        omega
theorem Sok.pop {k : Nat} {S : Spr} {n : Int} {o t : Int} (h : Sok k S) : Sok k ⟨popS S.lv n, o, t⟩ := by
  obtain ⟨r, hr⟩ := popS_pre n S.lv
  have sub : ∀ v ∈ popS S.lv n, v ∈ S.lv := fun v hv => popS_sub hv
  refine ⟨?_, fun v hv => h.lvl v (sub v hv), fun u hu v hv => h.cnt u ?_ v (sub v hv), ?_⟩
  · have := h.len
    rw [hr, List.length_append] at this
    show (popS S.lv n).length ≤ k
    omega
  · have hu' : (popS S.lv n).head? = some u := hu
    rw [hr]
    cases hp : popS S.lv n with
    | nil => rw [hp] at hu'; cases hu'
    | cons a b => rw [hp] at hu'; exact hu'
  · have := h.asc
    rw [hr] at this
    exact (List.pairwise_append.mp this).1
theorem low_range {x : Str} {n y : Int} (n0 : 1 ≤ n) : lowI x n ≤ castI y x n ∧ castI y x n ≤ lowI x n + 2 ^ n.toNat - 1 := by
  unfold castI
  have h0 := Int.emod_nonneg (y - lowI x n) (show (2 ^ n.toNat : Int) ≠ 0 from Int.ne_of_gt (two_pos _))
  have h1 := Int.emod_lt_of_pos (y - lowI x n) (two_pos n.toNat)
  omega
theorem two_mono {a b : Int} (h : a ≤ b) : (2 : Int) ^ a.toNat ≤ 2 ^ b.toNat := by
  have h : 2 ^ a.toNat ≤ 2 ^ b.toNat := Nat.pow_le_pow_right (by decide) (by omega)
  exact_mod_cast h
theorem asc_lowOf {lo hi : Int} {r : Rg} (h : Asc lo r hi) (hne : r ≠ []) : lo ≤ lowOf r ∧ Asc (lowOf r) r hi ∧ lowOf r ≤ hi := by
  cases r with
  | nil => exact absurd rfl hne
  | cons p r =>
    obtain ⟨a, b⟩ := p
    obtain ⟨h1, h2, h3, h4⟩ := h
    exact ⟨h1, ⟨Int.le_refl _, h2, h3, h4⟩, by show a ≤ hi; omega⟩
/-- the ranges of a wider cast that moves some of them -/
theorem widerR_ok {r : Rg} {lo hi z N : Int} (h : Asc lo r hi) (hz : lo ≤ z) (hN : hi - lo < N) (hne : leavR r z ≠ []) : Asc (z + 1 - N) (movR (leavR r z) (-N) ++ stayR r z) z := by
  have h1 := (h.leave (z := z)).mov (d := -N)
  have h2 := h.stay (z := z)
  by_cases hc : hi ≤ z
  · have : leavR r z = [] := by
      have := h.leave (z := z)
      cases hl : leavR r z with
      | nil => rfl
      | cons p q =>
        rw [hl] at this
        obtain ⟨a, b⟩ := p
        obtain ⟨g1, g2, g3, _⟩ := this
        omega
    exact absurd this hne
  · rw [show z + 1 + -N = z + 1 - N by omega] at h1
    exact Asc.app h2 (by omega) (by omega) h1 (by omega)
theorem wider_ok {k : Nat} {S : Spr} {v : Lv} {x : Str} {n : Int} (h : Sok k S) (hv : S.lv.getLast? = some v) (n0 : 1 ≤ n) (n1 : n ≤ big) (hw : v.w < n) : Sok (k + 1) (wider S v x n) := by
  have hmem : v ∈ S.lv := List.mem_of_getLast? hv
  obtain ⟨l1, l2, l3, l4, l5⟩ := h.lvl v hmem
  unfold wider
  dsimp only
  generalize hz : lowI x n + 2 ^ n.toNat - 1 - (castI (lowOf v.rs + S.off) x n - lowOf v.rs) = z
  have lz : lowOf v.rs ≤ z := by
    have := (low_range (x := x) (n := n) (y := lowOf v.rs + S.off) n0).2
    omega
  have hN : lowOf v.rs + 2 ^ v.w.toNat - 1 - lowOf v.rs < 2 ^ n.toNat := by
    have := two_mono (show v.w ≤ n by omega)
    omega
  by_cases hc : leavR v.rs z = []
  · rw [if_pos hc]
    exact ⟨Nat.le_succ_of_le h.len, fun u hu => (h.lvl u hu).up (Nat.le_succ k), h.cnt, h.asc⟩
  · rw [if_neg hc]
    have hasc := widerR_ok l5 lz hN hc
    have hne : movR (leavR v.rs z) (-(2 ^ n.toNat)) ++ stayR v.rs z ≠ [] := by
      unfold movR
      intro e
      rw [List.append_eq_nil_iff, List.map_eq_nil_iff] at e
      exact hc e.1
    have hcnt : cntR (movR (leavR v.rs z) (-(2 ^ n.toNat)) ++ stayR v.rs z) = cntR v.rs := by
      have := parts_cnt (z := z) l5
      rw [cntR_app, cntR_mov]
      omega
    refine ⟨?_, fun u hu => ?_, fun u hu t ht => ?_, ?_⟩
    · show (S.lv ++ _).length ≤ k + 1
      rw [List.length_append]
      have := h.len
      simp only [List.length_cons, List.length_nil]
      omega
    · rcases List.mem_append.mp hu with hu | hu
      · exact (h.lvl u hu).up (Nat.le_succ k)
      · rw [List.mem_singleton] at hu
        subst hu
        refine ⟨?_, hne, n0, n1, ?_⟩
        · have := parts_len (z := z) l5
          show (movR (leavR v.rs z) (-(2 ^ n.toNat)) ++ stayR v.rs z).length ≤ k + 1
          unfold movR
          rw [List.length_append, List.length_map]
          omega
        · obtain ⟨g1, g2, g3⟩ := asc_lowOf hasc hne
          exact g2.high (by show z ≤ lowOf (movR (leavR v.rs z) (-(2 ^ n.toNat)) ++ stayR v.rs z) + 2 ^ n.toNat - 1; omega)
    · have hne' : S.lv ≠ [] := fun e => by rw [e] at hv; cases hv
      have hu' : S.lv.head? = some u := by
        have hu2 : (S.lv ++ [(⟨n, cntR (stayR v.rs z), movR (leavR v.rs z) (-(2 ^ n.toNat)) ++ stayR v.rs z⟩ : Lv)]).head? = some u := hu
        cases hl : S.lv with
        | nil => exact absurd hl hne'
        | cons a b => rw [hl] at hu2; exact hu2
      rcases List.mem_append.mp ht with ht | ht
      · exact h.cnt u hu' t ht
      · rw [List.mem_singleton] at ht
        subst ht
        show cntR (movR (leavR v.rs z) (-(2 ^ n.toNat)) ++ stayR v.rs z) = _
        rw [hcnt]
        exact h.cnt u hu' v hmem
    · refine List.pairwise_append.mpr ⟨h.asc, by simp, fun a ha b hb => ?_⟩
      rw [List.mem_singleton] at hb
      subst hb
      show a.w < n
      have : a.w ≤ v.w := by
        obtain ⟨ys, hy⟩ := List.getLast?_eq_some_iff.mp hv
        have hA := h.asc
        rw [hy] at hA ha
        rcases List.mem_append.mp ha with ha | ha
        · exact Int.le_of_lt ((List.pairwise_append.mp hA).2.2 a ha v (by simp))
        · rw [List.mem_singleton] at ha
          rw [ha]
          exact Int.le_refl _
      omega
theorem takeS_ok {k : Nat} {S : Spr} {x : Str} {n : Int} (h : Sok k S) (ok : okS (x, n) = true) (hb : n ≤ (if x = "add" then n else big)) : Sok (k + 1) (takeS S x n) := by
  unfold takeS
  by_cases hx : x = "add"
  · rw [if_pos hx]
    exact ⟨Nat.le_succ_of_le h.len, fun u hu => (h.lvl u hu).up (Nat.le_succ k), h.cnt, h.asc⟩
  · rw [if_neg hx] at hb ⊢
    have n0 := isC_of ok hx
    cases hl : (popS S.lv n).getLast? with
    | none =>
      dsimp only
      have hp := two_pos n.toNat
      refine ⟨by simp, fun v hv => ?_, fun u hu v hv => ?_, by simp⟩
      · rw [List.mem_singleton] at hv
        subst hv
        refine ⟨by simp, by simp, n0, hb, ?_⟩
        show Asc 0 [(0, 2 ^ n.toNat - 1)] (0 + 2 ^ n.toNat - 1)
        exact ⟨by omega, by omega, by omega, trivial⟩
      · rw [List.mem_singleton] at hv
        subst hv
        cases hu
        show cntR [(0, 2 ^ n.toNat - 1)] = 2 ^ n.toNat
        rw [cntR_cons]
        have : cntR [] = 0 := rfl
        dsimp only
        omega
    | some v =>
      exact wider_ok h.pop hl n0 hb (popS_last hl)
end Cc

set_option Elab.async false
set_option linter.all false
set_option maxRecDepth 100000
set_option maxHeartbeats 4000000
/-! zip of two tuples; *xs in a display. -/
namespace Cc
open PySem PySem.Spec PyProof.Rows L2 RZ
section
variable {K : PySem.W.Frag} {σ : L2.St} {H : Hp} {Q : VK} {g : TG} {tt : TT} {te : TE} {ta t : TA} {vs : List Nat} {D : Addr} {a b : Addr} {xs ys : List V} {tb : TS} {N : Ends}
theorem x_lcZ : tLc (iZipA K ta) g tt te vs σ H Q ↔ ta σ H fun ws H1 => ∃ a b xs ys, ws = [.ref a, .ref b] ∧ ((SqL K H1 a xs ∧ SqL K H1 b ys ∧ ∀ D, H1 D = none → Lcp (Itz K a b) g tt te vs σ D H1 Q) ∨
  (SqT K H1 a xs ∧ SqT K H1 b ys ∧ ∀ D, H1 D = none → Lcp (ItzT K a b) g tt te vs σ D H1 Q)) := Iff.rfl
theorem x_forZ : tFor (iZipA K ta) g tb N σ H ↔ ta σ H fun ws H1 => ∃ a b xs ys, ws = [.ref a, .ref b] ∧ ((SqL K H1 a xs ∧ SqL K H1 b ys ∧ Lp (Itz K a b) g tb N σ H1) ∨ (SqT K H1 a xs ∧ SqT K H1 b ys ∧ Lp (ItzT K a b) g tb N σ H1)) := Iff.rfl
theorem x_star {Q : List V → Hp → Prop} : StX.tStar K te t σ H Q ↔ te σ H fun x H1 => ∃ p xs, x = V.ref p ∧ (SqT K H1 p xs ∨ SqL K H1 p xs) ∧ t σ H1 fun ys H2 => Q (xs ++ ys) H2 := Iff.rfl
theorem x_lcE : tLc (iEnum K ta) g tt te vs σ H Q ↔ ta σ H fun ws H1 => ∃ a xs, ws = [.ref a] ∧ SqL K H1 a xs ∧ ∀ D, H1 D = none → Lcp (Ite K a) g tt te vs σ D H1 Q := Iff.rfl
theorem lcE (Pv : Nat → Hp → Prop) (h0 : Pv 0 (upd H D (.lst []))) (hl : ∀ i H, Pv i H → SqL K H a xs)
    (hs : ∀ i x T H, xs[i]? = some x → Pv i H → H T = none → g (.ref T) (wipe σ vs) (upd H T (.tup [.int (i : Nat), x])) fun σ2 H2 => wipe σ2 vs = wipe σ vs ∧ tt σ2 H2 fun b H3 =>
      if b = true then te σ2 H3 fun y H4 => ∃ acc, H4 D = some (.lst acc) ∧ acc.length < sizeLine ∧ Pv (i + 1) (upd H4 D (.lst (acc ++ [y]))) else Pv (i + 1) H3) (hd : ∀ H, Pv xs.length H → Q (.ref D) H) : Lcp (Ite K a) g tt te vs σ D H Q := by
  refine ⟨fun i m H => m = xs.length - i ∧ i ≤ xs.length ∧ Pv i H, ⟨_, rfl, Nat.zero_le _, h0⟩, ?_⟩
  rintro i m H ⟨rfl, hi, p⟩
  have q := hl i H p
  by_cases lt : i < xs.length
  · refine .inr ⟨⟨xs, xs[i], q, List.getElem?_eq_getElem lt⟩, Pv (i + 1), fun H' p' => ⟨xs.length - (i + 1), by omega, rfl, lt, p'⟩, fun x H' y => ?_⟩
    obtain ⟨T, z, rfl, nT, rfl, f⟩ := y
    exact hs i z T H (f xs q) p nT
  · have e : i = xs.length := by omega
    subst e
    exact .inl ⟨⟨xs, q, Nat.le_refl _⟩, hd H p⟩
theorem x_lcT {tl : TE} : tLc (iTup K tl) g tt te vs σ H Q ↔ tl σ H fun x H1 => ∃ a, x = .ref a ∧ (∃ xs, SqT K H1 a xs) ∧ ∀ D, H1 D = none → Lcp (Itt K a) g tt te vs σ D H1 Q := Iff.rfl
theorem lcT (Pv : Nat → Hp → Prop) (h0 : Pv 0 (upd H D (.lst []))) (hl : ∀ i H, Pv i H → SqT K H a xs)
    (hs : ∀ i x H, xs[i]? = some x → Pv i H → g x (wipe σ vs) H fun σ2 H2 => wipe σ2 vs = wipe σ vs ∧ tt σ2 H2 fun b H3 =>
      if b = true then te σ2 H3 fun y H4 => ∃ acc, H4 D = some (.lst acc) ∧ acc.length < sizeLine ∧ Pv (i + 1) (upd H4 D (.lst (acc ++ [y]))) else Pv (i + 1) H3) (hd : ∀ H, Pv xs.length H → Q (.ref D) H) : Lcp (Itt K a) g tt te vs σ D H Q := by
  refine ⟨fun i m H => m = xs.length - i ∧ i ≤ xs.length ∧ Pv i H, ⟨_, rfl, Nat.zero_le _, h0⟩, ?_⟩
  rintro i m H ⟨rfl, hi, p⟩
  have q := hl i H p
  by_cases lt : i < xs.length
  · refine .inr ⟨⟨xs, xs[i], q, List.getElem?_eq_getElem lt⟩, Pv (i + 1), fun H' p' => ⟨xs.length - (i + 1), by omega, rfl, lt, p'⟩, fun x H' y => ?_⟩
    obtain ⟨e, y⟩ := y
    subst e
    exact hs i x _ (y xs q) p
  · have e : i = xs.length := by omega
    subst e
    exact .inl ⟨⟨xs, q, Nat.le_refl _⟩, hd H p⟩
theorem lcZ (Pv : Nat → Hp → Prop) (h0 : Pv 0 (upd H D (.lst []))) (hq : ∀ i H, Pv i H → SqT K H a xs ∧ SqT K H b ys)
    (hs : ∀ i x y T H, xs[i]? = some x → ys[i]? = some y → Pv i H → H T = none → g (.ref T) (wipe σ vs) (upd H T (.tup [x, y])) fun σ2 H2 => wipe σ2 vs = wipe σ vs ∧ tt σ2 H2 fun b H3 =>
      if b = true then te σ2 H3 fun y H4 => ∃ acc, H4 D = some (.lst acc) ∧ acc.length < sizeLine ∧ Pv (i + 1) (upd H4 D (.lst (acc ++ [y]))) else Pv (i + 1) H3)
    (hd : ∀ H, Pv (min xs.length ys.length) H → Q (.ref D) H) : Lcp (ItzT K a b) g tt te vs σ D H Q := by
  refine ⟨fun i m H => m = min xs.length ys.length - i ∧ i ≤ min xs.length ys.length ∧ Pv i H, ⟨_, rfl, Nat.zero_le _, h0⟩, ?_⟩
  rintro i m H ⟨rfl, hi, p⟩
  obtain ⟨qx, qy⟩ := hq i H p
  by_cases lt : i < min xs.length ys.length
  · have hx : xs[i]? = some (xs[i]'(by omega)) := List.getElem?_eq_getElem _
    have hy : ys[i]? = some (ys[i]'(by omega)) := List.getElem?_eq_getElem _
    refine .inr ⟨⟨xs, ys, _, _, qx, qy, hx, hy⟩, Pv (i + 1), fun H' p' => ⟨min xs.length ys.length - (i + 1), by omega, rfl, lt, p'⟩, fun v H' y => ?_⟩
    obtain ⟨T, x', y', rfl, nT, rfl, f1, f2⟩ := y
    exact hs i x' y' T H (f1 xs qx) (f2 ys qy) p nT
  · have e : i = min xs.length ys.length := by omega
    subst e
    exact .inl ⟨⟨xs, ys, qx, qy, by omega⟩, hd H p⟩
theorem lpZ (Pv : Nat → L2.St → Hp → Prop) (h0 : Pv 0 σ H) (hq : ∀ i σ H, Pv i σ H → SqT K H a xs ∧ SqT K H b ys)
    (hs : ∀ i x y T σ H, xs[i]? = some x → ys[i]? = some y → Pv i σ H → H T = none → g (.ref T) σ (upd H T (.tup [x, y])) fun σ2 H2 => tb { N with nx := Pv (i + 1), ct := Pv (i + 1), bk := N.nx } σ2 H2)
    (hd : ∀ σ H, Pv (min xs.length ys.length) σ H → N.nx σ H) : Lp (ItzT K a b) g tb N σ H := by
  refine ⟨fun i m σ H => m = min xs.length ys.length - i ∧ i ≤ min xs.length ys.length ∧ Pv i σ H, ⟨_, rfl, Nat.zero_le _, h0⟩, ?_⟩
  rintro i m σ H ⟨rfl, hi, p⟩
  obtain ⟨qx, qy⟩ := hq i σ H p
  by_cases lt : i < min xs.length ys.length
  · have hx : xs[i]? = some (xs[i]'(by omega)) := List.getElem?_eq_getElem _
    have hy : ys[i]? = some (ys[i]'(by omega)) := List.getElem?_eq_getElem _
    refine .inr ⟨⟨xs, ys, _, _, qx, qy, hx, hy⟩, Pv (i + 1), fun σ' H' p' => ⟨min xs.length ys.length - (i + 1), by omega, rfl, lt, p'⟩, fun v H' y => ?_⟩
    obtain ⟨T, x', y', rfl, nT, rfl, f1, f2⟩ := y
    exact hs i x' y' T σ H (f1 xs qx) (f2 ys qy) p nT
  · have e : i = min xs.length ys.length := by omega
    subst e
    exact .inl ⟨⟨xs, ys, qx, qy, by omega⟩, hd σ H p⟩
end
section
variable {K : PySem.W.Frag} {H : Hp} {Q : VK}
theorem x_allB {a : Addr} {bs : List Bool} (h : SqL K H a (bs.map V.bl)) (q : Q (.bl (bs.all id)) H) : rAll K [.ref a] H Q := ⟨a, bs, rfl, h, q⟩
end
end Cc

set_option Elab.async false
set_option linter.all false
set_option maxRecDepth 100000
set_option maxHeartbeats 4000000
/-! list.count of flat values. -/
namespace Cc
open PySem PySem.Spec PyProof.Rows L2
theorem cnt_eq {y : V} : ∀ {ys : List V} {us : List Value}, Vals ys us → ys.all flatV = true → us.countP (eqU y) = ys.countP fun z => eqV z y
  | _, _, .nil, _ => rfl
  | _, _, .cons r t, f => by
    rw [List.all_cons, Bool.and_eq_true] at f
    rw [List.countP_cons, List.countP_cons, cnt_eq t f.2, eqU_of r f.1]
def rCntF (K : PySem.W.Frag) : V → List V → Hp → VK → Prop := fun x xs H Q => ∃ (p : Addr) (ys : List V) (y : V), x = .ref p ∧ xs = [y] ∧ SqL K H p ys ∧ flatV y = true ∧ ys.all flatV = true ∧ Q (.int (ys.countP (fun z => eqV z y) : Nat)) H
section
variable {X : Cx}
theorem mt_cntF : MtR X "list.count" (rCntF X.K) := by
  intro pins s σ H x xs v us Q I rx rxs h
  obtain ⟨p, ys, y, rfl, rfl, hs, fy, fys, q⟩ := h
  cases rx
  obtain ⟨u, rfl, ru⟩ := rxs.one
  obtain ⟨its, rv, ⟨⟨c1, d1, b1, l1⟩, n, ho, h1, h2, h3⟩, hz⟩ := I.list hs
  simp only at h1 h3
  subst h1 h3
  refine call_meets PySem.F.slot_list_count ⟨_, ho, rfl⟩ PySem.F.entry_list_count (PySem.F.args_list_count_2 _ _) (SeqAt.list_countAt p its.toArray n d1 l1 u (eqU y)) ⟨ho, fun w hw => mem_eqAt ru fy rv fys w (by simpa using hw), ?_⟩
  refine ⟨.int (ys.countP (fun z => eqV z y) : Nat), H, I.tok _, ⟨s.toks, ?_⟩, q⟩
  show Value.int ((its.toArray.toList.countP (eqU y) : Nat) : Int) s.toks = _
  rw [show its.toArray.toList = its from rfl, cnt_eq rv fys]
end
end Cc

set_option Elab.async false
set_option linter.all false
set_option maxRecDepth 100000
set_option maxHeartbeats 4000000
/-! The pure layer: slots hold data, not addresses. -/
namespace Cc
open PySem PySem.Spec PyProof.Rows L2

/-! ### data, tracked -/
mutual
inductive Dq (K : PySem.W.Frag) (F : Hp) : V → PyData → Prop
  | non : Dq K F .non .none
  | bl (b : Bool) : Dq K F (.bl b) (.bool b)
  | int (i : Int) : Dq K F (.int i) (.int i)
  | str (x : Str) : Dq K F (.str x) (.str x)
  | lst {a : Addr} {xs : List V} {ds : List PyData} : F a = some (.lst xs) → DqAll K F xs ds → Dq K F (.ref a) (.list ds)
  | tup {a : Addr} {xs : List V} {ds : List PyData} : SqT K F a xs → DqAll K F xs ds → Dq K F (.ref a) (.tuple ds)
inductive DqAll (K : PySem.W.Frag) (F : Hp) : List V → List PyData → Prop
  | nil : DqAll K F [] []
  | cons {v : V} {vs : List V} {d : PyData} {ds : List PyData} : Dq K F v d → DqAll K F vs ds → DqAll K F (v :: vs) (d :: ds)
end
section
variable {K : PySem.W.Frag} {F F' : Hp}
mutual
theorem Dq.same (e : Same F F') : ∀ (d : PyData) {v : V}, Dq K F v d → Dq K F' v d
  | .none, _, h => by cases h; exact .non
  | .bool b, _, h => by cases h; exact .bl b
  | .int i, _, h => by cases h; exact .int i
  | .str x, _, h => by cases h; exact .str x
  | .list ds, _, h => by
    cases h with
    | lst hs ha => exact .lst (e _ _ hs) (DqAll.same e ds ha)
  | .tuple ds, _, h => by
    cases h with
    | tup hs ha => exact .tup (Same.tup e hs) (DqAll.same e ds ha)
  | .dict _, _, h => by cases h
theorem DqAll.same (e : Same F F') : ∀ (ds : List PyData) {vs : List V}, DqAll K F vs ds → DqAll K F' vs ds
  | [], _, h => by cases h; exact .nil
  | d :: ds, _, h => by
    cases h with
    | cons h1 h2 => exact .cons (Dq.same e d h1) (DqAll.same e ds h2)
end
mutual
theorem Dq.dp : ∀ (d : PyData) {v : V}, Dq K F v d → Dp K F v d
  | .none, _, h => by cases h; exact .non
  | .bool b, _, h => by cases h; exact .bl b
  | .int i, _, h => by cases h; exact .int i
  | .str x, _, h => by cases h; exact .str x
  | .list ds, _, h => by
    cases h with
    | lst hs ha => exact .lst (.of hs) (DqAll.dp ds ha)
  | .tuple ds, _, h => by
    cases h with
    | tup hs ha => exact .tup hs (DqAll.dp ds ha)
  | .dict _, _, h => by cases h
theorem DqAll.dp : ∀ (ds : List PyData) {vs : List V}, DqAll K F vs ds → DpAll K F vs ds
  | [], _, h => by cases h; exact .nil
  | d :: ds, _, h => by
    cases h with
    | cons h1 h2 => exact .cons (Dq.dp d h1) (DqAll.dp ds h2)
end
theorem DqAll.len {vs : List V} {ds : List PyData} (h : DqAll K F vs ds) : vs.length = ds.length := by
  induction ds generalizing vs with
  | nil => cases h; rfl
  | cons d ds ih => cases h with | cons _ h2 => exact congrArg (· + 1) (ih h2)
theorem DqAll.get {vs : List V} {ds : List PyData} (h : DqAll K F vs ds) : ∀ {i : Nat} {d : PyData}, ds[i]? = some d → ∃ v, vs[i]? = some v ∧ Dq K F v d := by
  induction ds generalizing vs with
  | nil => intro i d e; simp at e
  | cons d ds ih =>
    cases h with
    | cons h1 h2 =>
      intro i d' e
      cases i with
      | zero => simp at e; subst e; exact ⟨_, rfl, h1⟩
      | succ i => exact ih h2 (by simpa using e)
theorem DqAll.getV {vs : List V} {ds : List PyData} (h : DqAll K F vs ds) : ∀ {i : Nat} {v : V}, vs[i]? = some v → ∃ d, ds[i]? = some d ∧ Dq K F v d := by
  induction ds generalizing vs with
  | nil => cases h; intro i d e; simp at e
  | cons d ds ih =>
    cases h with
    | cons h1 h2 =>
      intro i d' e
      cases i with
      | zero => simp at e; subst e; exact ⟨_, rfl, h1⟩
      | succ i => exact ih h2 (by simpa using e)
theorem DqAll.app {vs ws : List V} {ds es : List PyData} (h : DqAll K F vs ds) (h' : DqAll K F ws es) : DqAll K F (vs ++ ws) (ds ++ es) := by
  induction ds generalizing vs with
  | nil => cases h; exact h'
  | cons d ds ih => cases h with | cons h1 h2 => exact .cons h1 (ih h2)
theorem DqAll.one {v : V} {d : PyData} (h : Dq K F v d) : DqAll K F [v] [d] := .cons h .nil
theorem DqAll.set {vs : List V} {ds : List PyData} {v : V} {d : PyData} (h : DqAll K F vs ds) (hv : Dq K F v d) : ∀ i, DqAll K F (vs.set i v) (ds.set i d) := by
  induction ds generalizing vs with
  | nil => cases h; intro i; exact .nil
  | cons d' ds ih =>
    cases h with
    | cons h1 h2 =>
      intro i
      cases i with
      | zero => exact .cons hv h2
      | succ i => exact .cons h1 (ih h2 i)
theorem DqAll.take {vs : List V} {ds : List PyData} (h : DqAll K F vs ds) : ∀ i, DqAll K F (vs.take i) (ds.take i) := by
  induction ds generalizing vs with
  | nil => cases h; intro i; simp; exact .nil
  | cons d' ds ih =>
    cases h with
    | cons h1 h2 =>
      intro i
      cases i with
      | zero => exact .nil
      | succ i => exact .cons h1 (ih h2 i)
theorem DqAll.drop {vs : List V} {ds : List PyData} (h : DqAll K F vs ds) : ∀ i, DqAll K F (vs.drop i) (ds.drop i) := by
  induction ds generalizing vs with
  | nil => cases h; intro i; simp; exact .nil
  | cons d' ds ih =>
    cases h with
    | cons h1 h2 =>
      intro i
      cases i with
      | zero => exact .cons h1 h2
      | succ i => exact ih h2 i
theorem DqAll.rev {vs : List V} {ds : List PyData} (h : DqAll K F vs ds) : DqAll K F vs.reverse ds.reverse := by
  induction ds generalizing vs with
  | nil => cases h; exact .nil
  | cons d ds ih => cases h with | cons h1 h2 => rw [List.reverse_cons, List.reverse_cons]; exact (ih h2).app (.one h1)
def cutA {α : Type} (xs : List α) (lo hi : Option Int) : List α := (xs.drop (HT.sIx xs.length 0 lo)).take (HT.sIx xs.length xs.length hi - HT.sIx xs.length 0 lo)
theorem DqAll.cut {vs : List V} {ds : List PyData} (h : DqAll K F vs ds) (lo hi : Option Int) : DqAll K F (cutV vs lo hi) (cutA ds lo hi) := by
  unfold cutV cutA
  rw [h.len]
  exact (h.drop _).take _
theorem DqAll.dropLast {vs : List V} {ds : List PyData} (h : DqAll K F vs ds) : DqAll K F vs.dropLast ds.dropLast := by
  rw [List.dropLast_eq_take, List.dropLast_eq_take, h.len]
  exact h.take _
theorem DqAll.ints {vs : List V} : ∀ {ns : List Int}, DqAll K F vs (ns.map PyData.int) → vs = ns.map V.int := by
  intro ns
  induction ns generalizing vs with
  | nil => intro h; cases h; rfl
  | cons n ns ih =>
    intro h
    cases h with
    | cons h1 h2 => cases h1; rw [ih h2]; rfl
theorem DqAll.bools {vs : List V} : ∀ {ns : List Bool}, DqAll K F vs (ns.map PyData.bool) → vs = ns.map V.bl := by
  intro ns
  induction ns generalizing vs with
  | nil => intro h; cases h; rfl
  | cons n ns ih =>
    intro h
    cases h with
    | cons h1 h2 => cases h1; rw [ih h2]; rfl
theorem dqInts : ∀ ns : List Int, DqAll K F (ns.map V.int) (ns.map PyData.int)
  | [] => .nil
  | n :: ns => .cons (.int n) (dqInts ns)
theorem dqBools : ∀ ns : List Bool, DqAll K F (ns.map V.bl) (ns.map PyData.bool)
  | [] => .nil
  | n :: ns => .cons (.bl n) (dqBools ns)
end

/-! ### what a slot holds -/
inductive A where
  | d (x : PyData)
  | exc (c : Nat) (x : PyData)
  | spr (S : Spr)
  | scr (ns : List Int)
inductive Sl where
  | un
  | own (ds : List PyData)
  | rng (n : Nat)
  | a (x : A)
/-- the draws' object: footprint, address, heap, how many draws at most -/
structure RngI where
  at_ : (Addr → Prop) → Addr → Hp → Nat → Prop
  stay : ∀ {R : Addr → Prop} {r : Addr} {H H' : Hp} {n : Nat}, at_ R r H n → (∀ b o, R b → H b = some o → H' b = some o) → at_ R r H' n
structure Gx where
  K : PySem.W.Frag
  C : Nat → Addr
  S : Addr
  I : RngI
structure Fr where
  M : Addr → Prop
  R : Addr → Prop
  r : Addr
  ri : Nat
  F0 : Hp
  H0 : Hp
def Rp (Γ : Gx) (F : Hp) (v : V) : A → Prop
  | .d x => Dq Γ.K F v x
  | .exc c x => ∃ a d u, v = .ref a ∧ F a = some (exT a (.ref (Γ.C c)) (some d)) ∧ F d = some (.xd [("value", u)]) ∧ Dq Γ.K F u x
  | .spr S => ∃ p l, v = .ref p ∧ SpAt Γ.K Γ.S F p l S
  | .scr ns => ∃ a, v = .ref a ∧ SqL Γ.K F a (ns.map V.int)
def RpAll (Γ : Gx) (F : Hp) : List V → List A → Prop
  | [], [] => True
  | v :: vs, x :: xs => Rp Γ F v x ∧ RpAll Γ F vs xs
  | _, _ => False
theorem Rp.same {Γ : Gx} {F F' : Hp} (e : Same F F') {v : V} : ∀ {x : A}, Rp Γ F v x → Rp Γ F' v x
  | .d x, h => Dq.same e x h
  | .exc c x, ⟨a, d, u, h0, h1, h2, h3⟩ => ⟨a, d, u, h0, e _ _ h1, e _ _ h2, Dq.same e x h3⟩
  | .spr S, ⟨p, l, h0, h1⟩ => ⟨p, l, h0, h1.same e⟩
  | .scr ns, ⟨a, h0, h1⟩ => ⟨a, h0, e.seq h1⟩
theorem RpAll.same {Γ : Gx} {F F' : Hp} (e : Same F F') : ∀ {vs : List V} {xs : List A}, RpAll Γ F vs xs → RpAll Γ F' vs xs
  | [], [], h => h
  | _ :: _, _ :: _, ⟨h1, h2⟩ => ⟨h1.same e, RpAll.same e h2⟩
  | [], _ :: _, h => h
  | _ :: _, [], h => h
theorem RpAll.len {Γ : Gx} {F : Hp} : ∀ {vs : List V} {xs : List A}, RpAll Γ F vs xs → vs.length = xs.length
  | [], [], h => rfl
  | _ :: _, _ :: _, ⟨_, h2⟩ => congrArg (· + 1) (RpAll.len h2)
  | [], _ :: _, h => h.elim
  | _ :: _, [], h => h.elim
def OwnA (σ : L2.St) (ρ : List Sl) (b : Addr) : Prop := ∃ (i : Nat) (ds : List PyData), ρ[i]? = some (.own ds) ∧ σ[i]? = some (some (.ref b))
def SlR (Γ : Gx) (f : Fr) (F H : Hp) (i : Nat) (v : Option (Option V)) : Sl → Prop
  | .un => True
  | .a x => ∃ u, v = some (some u) ∧ Rp Γ F u x
  | .own ds => ∃ a xs, v = some (some (.ref a)) ∧ H a = some (.lst xs) ∧ DqAll Γ.K F xs ds ∧ F a = none ∧ (f.H0 a = none ∨ f.M a)
  | .rng n => (i = f.ri ∧ v = some (some (.ref f.r))) ∧ Γ.I.at_ f.R f.r H n
/-- what a known object leans on is known -/
def okO (F : Hp) (a : Addr) : HO → Prop
  | .ins _ dx _ => F dx = some (.own a)
  | .own x => F x ≠ none
  | .dT _ => False
  | .frz _ u => (∃ xs, u = .lst xs) ∨ ∃ xs, u = .tup xs
  | _ => True
def smpl : HO → Prop
  | .ins _ _ _ => False
  | .own _ => False
  | .dT _ => False
  | .frz _ u => (∃ xs, u = .lst xs) ∨ ∃ xs, u = .tup xs
  | _ => True
theorem okO.of {F : Hp} {a : Addr} {o : HO} (h : smpl o) : okO F a o := by
  cases o <;> first | exact trivial | exact h | exact h.elim
theorem okO.same {F F' : Hp} {a : Addr} {o : HO} (s : Same F F') (h : okO F a o) : okO F' a o := by
  cases o <;> first | exact trivial | exact (h : False).elim | skip
  · exact s _ _ h
  · rename_i x
    have h : F x ≠ none := h
    show F' x ≠ none
    intro z
    cases e : F x with
    | none => exact h e
    | some o => rw [s _ _ e] at z; cases z
  · exact h
structure Ent (Γ : Gx) (f : Fr) (F H : Hp) (σ : L2.St) (ρ : List Sl) : Prop where
  s0 : Same f.F0 F
  s1 : Same F H
  new : ∀ b o, F b = some o → f.F0 b = some o ∨ f.H0 b = none ∨ f.M b
  chg : ∀ b o, f.H0 b = some o → ¬ f.M b → H b = some o
  liv : ∀ b, H b = none → f.H0 b = none
  len : σ.length = ρ.length
  sl : ∀ (i : Nat) (s : Sl), ρ[i]? = some s → SlR Γ f F H i σ[i]? s
  dis : ∀ (i j : Nat) (a : Addr) (ds es : List PyData), ρ[i]? = some (.own ds) → ρ[j]? = some (.own es) → σ[i]? = some (some (.ref a)) → σ[j]? = some (some (.ref a)) → i = j
  rm : ∀ b, f.R b → f.M b
  rF : ∀ b, f.R b → F b = none
  rl : ∀ b, f.R b → H b ≠ none
  ro : ∀ b, f.R b → ¬ OwnA σ ρ b
  ml : ∀ b, f.M b → f.H0 b ≠ none
  cl : ∀ a o, F a = some o → okO F a o
section
variable {Γ : Gx} {f : Fr} {F H F' H' : Hp} {σ σ' : L2.St} {ρ ρ' : List Sl} {p a : Addr} {o : HO} {i : Nat} {x : A} {v : V} {ds es : List PyData} {xs : List V}
theorem same_updF (h : F p = none) : Same F (upd F p o) := fun b u e => by rw [upd_ne (ne_of_none e h)]; exact e
theorem Ent.fnone (E : Ent Γ f F H σ ρ) (h : H p = none) : F p = none := by
  cases e : F p with
  | none => rfl
  | some u => rw [E.s1 _ _ e] at h; cases h
theorem Ent.notOwn (E : Ent Γ f F H σ ρ) (h : H p = none) : ¬ OwnA σ ρ p := fun ⟨i, ds, h1, h2⟩ => by
  obtain ⟨a, xs, e1, e2, _⟩ := E.sl i _ h1
  rw [h2] at e1
  cases e1
  rw [h] at e2
  cases e2
/-- the slots as they stand, in heaps that have more -/
theorem SlR.more {v : Option (Option V)} : ∀ {s : Sl}, SlR Γ f F H i v s → Same F F' → (∀ a, v = some (some (.ref a)) → (∃ ds, s = .own ds) → F' a = none ∧ ∀ o, H a = some o → H' a = some o) → (∀ b o, f.R b → H b = some o → H' b = some o) → SlR Γ f F' H' i v s
  | .un, _, _, _, _ => trivial
  | .a x, ⟨u, h1, h2⟩, e, _, _ => ⟨u, h1, h2.same e⟩
  | .own ds, ⟨a, xs, h1, h2, h3, h4, h5⟩, e, k, _ => by
    obtain ⟨k1, k2⟩ := k a h1 ⟨ds, rfl⟩
    exact ⟨a, xs, h1, k2 _ h2, DqAll.same e ds h3, k1, h5⟩
  | .rng n, ⟨h1, h2⟩, _, _, k => ⟨h1, Γ.I.stay h2 k⟩
/-- a new object is laid and known -/
theorem Ent.alloc (E : Ent Γ f F H σ ρ) (h : H p = none) (hs : smpl o := by exact trivial) : Ent Γ f (upd F p o) (upd H p o) σ ρ := by
  have hF := E.fnone h
  have sF := same_updF (o := o) hF
  have sH := same_updF (o := o) h
  refine ⟨E.s0.trans sF, fun b u e => ?_, fun b u e => ?_, fun b u e m => sH _ _ (E.chg b u e m), fun b e => ?_, E.len, fun i s hi => (E.sl i s hi).more sF (fun a ha ⟨ds, hs⟩ => ?_) (fun b o _ e => sH _ _ e), E.dis, E.rm, fun b hb => ?_, fun b hb => ?_, E.ro, E.ml, fun b u e => ?_⟩
  · by_cases hb : b = p
    · rw [hb, upd_same] at e ⊢; exact e
    · rw [upd_ne hb] at e ⊢; exact E.s1 _ _ e
  · by_cases hb : b = p
    · rw [hb]; exact .inr (.inl (E.liv p h))
    · rw [upd_ne hb] at e; exact E.new b u e
  · by_cases hb : b = p
    · rw [hb, upd_same] at e; cases e
    · rw [upd_ne hb] at e; exact E.liv b e
  · subst hs
    obtain ⟨a', xs, e1, e2, _, e4, _⟩ := E.sl i _ hi
    rw [ha] at e1
    cases e1
    have hne := ne_of_none e2 h
    rw [upd_ne hne]
    exact ⟨e4, fun o q => sH _ _ q⟩
  · have hne : b ≠ p := fun z => E.rl b hb (by rw [z]; exact h)
    rw [upd_ne hne]
    exact E.rF b hb
  · have hne : b ≠ p := fun z => E.rl b hb (by rw [z]; exact h)
    rw [upd_ne hne]
    exact E.rl b hb
  · by_cases hb : b = p
    · rw [hb, upd_same] at e; cases e; exact .of hs
    · rw [upd_ne hb] at e; exact (E.cl b u e).same sF
/-- a new object is laid, not yet known -/
theorem Ent.raw (E : Ent Γ f F H σ ρ) (h : H p = none) : Ent Γ f F (upd H p o) σ ρ := by
  have sH := same_updF (o := o) h
  refine ⟨E.s0, E.s1.trans sH, E.new, fun b u e m => sH _ _ (E.chg b u e m), fun b e => ?_, E.len, fun i s hi => (E.sl i s hi).more (Same.refl _) (fun a ha ⟨ds, hs⟩ => ?_) (fun b o _ e => sH _ _ e), E.dis, E.rm, E.rF, fun b hb => ?_, E.ro, E.ml, E.cl⟩
  · by_cases hb : b = p
    · rw [hb, upd_same] at e; cases e
    · rw [upd_ne hb] at e; exact E.liv b e
  · subst hs
    obtain ⟨a', xs, e1, e2, _, e4, _⟩ := E.sl i _ hi
    rw [ha] at e1
    cases e1
    exact ⟨e4, fun o q => sH _ _ q⟩
  · have hne : b ≠ p := fun z => E.rl b hb (by rw [z]; exact h)
    rw [upd_ne hne]
    exact E.rl b hb
/-- an object that no slot owns and that is not known is changed -/
theorem Ent.poke (E : Ent Γ f F H σ ρ) (hF : F p = none) (h0 : f.H0 p = none ∨ f.M p) (hO : ¬ OwnA σ ρ p) (hR : ¬ f.R p) : Ent Γ f F (upd H p o) σ ρ := by
  refine ⟨E.s0, fun b u e => ?_, E.new, fun b u e m => ?_, fun b e => ?_, E.len, fun i s hi => (E.sl i s hi).more (Same.refl _) (fun a ha ⟨ds, hs⟩ => ?_) (fun b o hb e => ?_), E.dis, E.rm, E.rF, fun b hb => ?_, E.ro, E.ml, E.cl⟩
  · rw [upd_ne (ne_of_none e hF)]; exact E.s1 _ _ e
  · have hne : b ≠ p := fun z => by
      rw [z] at e m
      rcases h0 with h0 | h0
      · rw [h0] at e; cases e
      · exact m h0
    rw [upd_ne hne]
    exact E.chg b u e m
  · by_cases hb : b = p
    · rw [hb, upd_same] at e; cases e
    · rw [upd_ne hb] at e; exact E.liv b e
  · subst hs
    obtain ⟨a', xs, e1, e2, _, e4, _⟩ := E.sl i _ hi
    have hne : a ≠ p := fun z => hO ⟨i, ds, hi, by rw [ha, z]⟩
    rw [ha] at e1
    cases e1
    rw [upd_ne hne]
    exact ⟨e4, fun o q => q⟩
  · rw [upd_ne (fun z => by rw [z] at hb; exact hR hb)]; exact e
  · rw [upd_ne (fun z => by rw [z] at hb; exact hR hb)]; exact E.rl b hb
/-- such an object becomes known -/
theorem Ent.fz (E : Ent Γ f F H σ ρ) (hF : F p = none) (hH : H p = some o) (h0 : f.H0 p = none ∨ f.M p) (hO : ¬ OwnA σ ρ p) (hR : ¬ f.R p) (hs : smpl o := by exact trivial) : Ent Γ f (upd F p o) H σ ρ := by
  have sF := same_updF (o := o) hF
  refine ⟨E.s0.trans sF, fun b u e => ?_, fun b u e => ?_, E.chg, E.liv, E.len, fun i s hi => (E.sl i s hi).more sF (fun a ha ⟨ds, hs⟩ => ?_) (fun b o _ e => e), E.dis, E.rm, fun b hb => ?_, E.rl, E.ro, E.ml, fun b u e => ?_⟩
  · by_cases hb : b = p
    · rw [hb, upd_same] at e; cases e; rw [hb]; exact hH
    · rw [upd_ne hb] at e; exact E.s1 _ _ e
  · by_cases hb : b = p
    · rw [hb]; rcases h0 with h0 | h0
      · exact .inr (.inl h0)
      · exact .inr (.inr h0)
    · rw [upd_ne hb] at e; exact E.new b u e
  · subst hs
    obtain ⟨a', xs, e1, e2, _, e4, _⟩ := E.sl i _ hi
    have hne : a ≠ p := fun z => hO ⟨i, ds, hi, by rw [ha, z]⟩
    rw [ha] at e1
    cases e1
    rw [upd_ne hne]
    exact ⟨e4, fun o q => q⟩
  · rw [upd_ne (fun z => by rw [z] at hb; exact hR hb)]; exact E.rF b hb
  · by_cases hb : b = p
    · rw [hb, upd_same] at e; cases e; exact .of hs
    · rw [upd_ne hb] at e; exact (E.cl b u e).same sF
theorem own_set {w : Option V} {s : Sl} {b : Addr} (h : OwnA (σ.set i w) (ρ.set i s) b) : OwnA σ ρ b ∨ ((∃ ds, s = .own ds) ∧ w = some (.ref b)) := by
  obtain ⟨j, ds, h1, h2⟩ := h
  rw [List.getElem?_set] at h1 h2
  by_cases hj : i = j
  · rw [if_pos hj] at h1 h2
    split at h1
    · split at h2
      · cases h1; cases h2; exact .inr ⟨⟨ds, rfl⟩, rfl⟩
      · cases h2
    · cases h1
  · rw [if_neg hj] at h1 h2
    exact .inl ⟨j, ds, h1, h2⟩
/-- slot i is set to something that it does not own -/
theorem Ent.put (E : Ent Γ f F H σ ρ) {w : Option V} {s : Sl} (hs : ∀ ds, s ≠ .own ds) (h : i < σ.length → SlR Γ f F H i (some w) s) : Ent Γ f F H (σ.set i w) (ρ.set i s) := by
  refine ⟨E.s0, E.s1, E.new, E.chg, E.liv, by rw [List.length_set, List.length_set]; exact E.len, fun j s' hj => ?_, fun j k a ds es h1 h2 h3 h4 => ?_, E.rm, E.rF, E.rl, fun b hb ho => ?_, E.ml, E.cl⟩
  · rw [List.getElem?_set] at hj ⊢
    by_cases hij : i = j
    · rw [if_pos hij] at hj ⊢
      split at hj
      · rename_i hl
        cases hj
        have hl' : j < σ.length := by rw [E.len]; exact hij ▸ hl
        rw [if_pos (hij ▸ hl')]
        subst hij
        exact h hl'
      · cases hj
    · rw [if_neg hij] at hj ⊢
      exact E.sl j s' hj
  · rw [List.getElem?_set] at h1 h2 h3 h4
    by_cases hij : i = j
    · rw [if_pos hij] at h1
      split at h1
      · cases h1; exact absurd rfl (hs _)
      · cases h1
    · by_cases hik : i = k
      · rw [if_pos hik] at h2
        split at h2
        · cases h2; exact absurd rfl (hs _)
        · cases h2
      · rw [if_neg hij] at h1 h3
        rw [if_neg hik] at h2 h4
        exact E.dis j k a ds es h1 h2 h3 h4
  · rcases own_set ho with ho | ⟨⟨ds, e⟩, _⟩
    · exact E.ro b hb ho
    · exact hs ds e
theorem set_self {α : Type} {l : List α} {i : Nat} {w : α} (h : l[i]? = some w) : l.set i w = l := by
  apply List.ext_getElem?
  intro j
  rw [List.getElem?_set]
  by_cases hij : i = j
  · subst hij
    rw [if_pos rfl]
    split
    · exact h.symm
    · rename_i hl
      rw [List.getElem?_eq_none (by omega)] at h; cases h
  · rw [if_neg hij]
theorem Ent.setA (E : Ent Γ f F H σ ρ) (h : Rp Γ F v x) : Ent Γ f F H (σ.set i (some v)) (ρ.set i (.a x)) := E.put (fun _ => nofun) fun _ => ⟨v, rfl, h⟩
/-- slot i is no longer known -/
theorem Ent.setU (E : Ent Γ f F H σ ρ) {w : Option V} : Ent Γ f F H (σ.set i w) (ρ.set i .un) := E.put (fun _ => nofun) fun _ => trivial
theorem Ent.forget (E : Ent Γ f F H σ ρ) : Ent Γ f F H σ (ρ.set i .un) := by
  by_cases hi : i < σ.length
  · have := E.setU (i := i) (w := σ[i])
    rwa [set_self (List.getElem?_eq_getElem hi)] at this
  · rw [List.set_eq_of_length_le (by rw [← E.len]; omega)]
    exact E
/-- slot i is known as x where it stands -/
theorem Ent.same_as (E : Ent Γ f F H σ ρ) (hi : σ[i]? = some (some v)) (h : Rp Γ F v x) : Ent Γ f F H σ (ρ.set i (.a x)) := by
  have := E.setA (i := i) h
  rwa [set_self hi] at this
/-- slot i owns a list -/
theorem Ent.setO (E : Ent Γ f F H σ ρ) (hH : H a = some (.lst xs)) (hD : DqAll Γ.K F xs ds) (hF : F a = none) (h0 : f.H0 a = none ∨ f.M a) (hO : ¬ OwnA σ ρ a) (hR : ¬ f.R a) : Ent Γ f F H (σ.set i (some (.ref a))) (ρ.set i (.own ds)) := by
  refine ⟨E.s0, E.s1, E.new, E.chg, E.liv, by rw [List.length_set, List.length_set]; exact E.len, fun j s' hj => ?_, fun j k b es es' h1 h2 h3 h4 => ?_, E.rm, E.rF, E.rl, fun b hb ho => ?_, E.ml, E.cl⟩
  · rw [List.getElem?_set] at hj ⊢
    by_cases hij : i = j
    · rw [if_pos hij] at hj ⊢
      split at hj
      · rename_i hl
        cases hj
        have hl' : j < σ.length := by rw [E.len]; exact hij ▸ hl
        rw [if_pos (hij ▸ hl')]
        exact ⟨a, xs, rfl, hH, hD, hF, h0⟩
      · cases hj
    · rw [if_neg hij] at hj ⊢
      exact E.sl j s' hj
  · rw [List.getElem?_set] at h1 h2 h3 h4
    by_cases hij : i = j
    · by_cases hik : i = k
      · exact hij.symm.trans hik
      · rw [if_pos hij] at h3
        rw [if_neg hik] at h2 h4
        split at h3
        · cases h3; exact absurd ⟨k, es', h2, h4⟩ hO
        · cases h3
    · by_cases hik : i = k
      · rw [if_pos hik] at h4
        rw [if_neg hij] at h1 h3
        split at h4
        · cases h4; exact absurd ⟨j, es, h1, h3⟩ hO
        · cases h4
      · rw [if_neg hij] at h1 h3
        rw [if_neg hik] at h2 h4
        exact E.dis j k b es es' h1 h2 h3 h4
  · rcases own_set ho with ho | ⟨_, e⟩
    · exact E.ro b hb ho
    · cases e; exact hR hb
/-- what slot i owns, it owns alone -/
theorem Ent.alone (E : Ent Γ f F H σ ρ) (hi : ρ[i]? = some (.own ds)) (ha : σ[i]? = some (some (.ref a))) : ¬ OwnA σ (ρ.set i .un) a := fun ⟨j, es, h1, h2⟩ => by
  rw [List.getElem?_set] at h1
  by_cases hij : i = j
  · rw [if_pos hij] at h1
    split at h1 <;> cases h1
  · rw [if_neg hij] at h1
    exact hij (E.dis i j a ds es hi h1 ha h2)
/-- the list that slot i owns becomes known -/
theorem Ent.freeO (E : Ent Γ f F H σ ρ) (hi : ρ[i]? = some (.own ds)) : ∃ a xs, σ[i]? = some (some (.ref a)) ∧ H a = some (.lst xs) ∧ F a = none ∧ Dq Γ.K (upd F a (.lst xs)) (.ref a) (.list ds) ∧ Ent Γ f (upd F a (.lst xs)) H σ (ρ.set i (.a (.d (.list ds)))) := by
  obtain ⟨a, xs, e1, e2, e3, e4, e5⟩ := E.sl i _ hi
  have E1 := E.forget (i := i)
  have hR : ¬ f.R a := fun z => E.ro a z ⟨i, ds, hi, e1⟩
  have E2 := E1.fz e4 e2 e5 (E.alone hi e1) hR
  have hd : Dq Γ.K (upd F a (.lst xs)) (.ref a) (.list ds) := .lst upd_same (DqAll.same (same_updF e4) ds e3)
  have E3 := E2.same_as (x := .d (.list ds)) e1 hd
  rw [List.set_set] at E3
  exact ⟨a, xs, e1, e2, e4, hd, E3⟩
/-- the list that slot i owns is changed -/
theorem Ent.mutO (E : Ent Γ f F H σ ρ) (hi : ρ[i]? = some (.own ds)) (ha : σ[i]? = some (some (.ref a))) (hD : DqAll Γ.K F xs es) : Ent Γ f F (upd H a (.lst xs)) σ (ρ.set i (.own es)) := by
  obtain ⟨a', ys, e1, e2, e3, e4, e5⟩ := E.sl i _ hi
  rw [ha] at e1
  cases e1
  have hR : ¬ f.R a := fun z => E.ro a z ⟨i, ds, hi, ha⟩
  have E2 := (E.forget (i := i)).poke (o := .lst xs) e4 e5 (E.alone hi ha) hR
  have E3 := E2.setO (i := i) (a := a) (xs := xs) upd_same hD e4 e5 (E.alone hi ha) hR
  rw [List.set_set, set_self ha] at E3
  exact E3
/-- what a step between two places of a run keeps, said of the run's start -/
def Fr.from (f : Fr) (σ : L2.St) (ρ : List Sl) (F H : Hp) : Fr := ⟨fun b => f.M b ∨ OwnA σ ρ b, f.R, f.r, f.ri, F, H⟩
theorem Ent.self (E : Ent Γ f F H σ ρ) : Ent Γ (f.from σ ρ F H) F H σ ρ := by
  refine ⟨Same.refl _, E.s1, fun b o e => .inl e, fun b o e _ => e, fun b e => e, E.len, fun i s hi => ?_, E.dis, fun b hb => .inl (E.rm b hb), E.rF, E.rl, E.ro, fun b hb z => hb.elim (fun m => E.ml b m (E.liv b z)) (fun o => E.notOwn z o), E.cl⟩
  have := E.sl i s hi
  cases s with
  | un => trivial
  | a x => exact this
  | rng n => exact this
  | own ds =>
    obtain ⟨a, xs, e1, e2, e3, e4, e5⟩ := this
    exact ⟨a, xs, e1, e2, e3, e4, .inr (.inr ⟨i, ds, hi, e1⟩)⟩
theorem Ent.ownM (E : Ent Γ f F H σ ρ) {b : Addr} (h : OwnA σ ρ b) : f.H0 b = none ∨ f.M b := by
  obtain ⟨i, ds, h1, h2⟩ := h
  obtain ⟨a, xs, e1, _, _, _, e5⟩ := E.sl i _ h1
  rw [h2] at e1
  cases e1
  exact e5
theorem Ent.trans (E : Ent Γ f F H σ ρ) (E' : Ent Γ (f.from σ ρ F H) F' H' σ' ρ') : Ent Γ f F' H' σ' ρ' := by
  refine ⟨E.s0.trans E'.s0, E'.s1, fun b o e => ?_, fun b o e m => ?_, fun b e => E.liv b (E'.liv b e), E'.len, fun i s hi => ?_, E'.dis, E.rm, E'.rF, E'.rl, E'.ro, E.ml, E'.cl⟩
  · rcases E'.new b o e with h | h | h
    · exact E.new b o h
    · exact .inr (.inl (E.liv b h))
    · rcases h with h | h
      · exact .inr (.inr h)
      · exact .inr (E.ownM h)
  · refine E'.chg b o (E.chg b o e m) fun z => ?_
    rcases z with z | z
    · exact m z
    · rcases E.ownM z with y | y
      · rw [y] at e; cases e
      · exact m y
  · have := E'.sl i s hi
    cases s with
    | un => trivial
    | a x => exact this
    | rng n => exact this
    | own ds =>
      obtain ⟨a, xs, e1, e2, e3, e4, e5⟩ := this
      refine ⟨a, xs, e1, e2, e3, e4, ?_⟩
      rcases e5 with h | h | h
      · exact .inl (E.liv a h)
      · exact .inr h
      · exact E.ownM h
/-- what no slot owns and no draw touches stands -/
theorem Ent.kept (E' : Ent Γ (f.from σ ρ F H) F' H' σ' ρ') {b : Addr} {o : HO} (h : H b = some o) (hM : ¬ f.M b) (hO : ¬ OwnA σ ρ b) : H' b = some o :=
  E'.chg b o h fun z => z.elim hM hO
end
end Cc

set_option Elab.async false
set_option linter.all false
set_option maxRecDepth 100000
set_option maxHeartbeats 4000000
/-! The pure layer: expressions. -/
namespace Cc
open PySem PySem.Spec PyProof.Rows L2
abbrev XX := Nat → PyData → List Sl → Prop
abbrev EE := List Sl → (A → List Sl → Prop) → XX → Prop
abbrev AA := List Sl → (List A → List Sl → Prop) → XX → Prop
abbrev BB := List Sl → (Bool → List Sl → Prop) → XX → Prop
abbrev LL := List Sl → (List PyData → List Sl → Prop) → XX → Prop
abbrev P2 := PyData → PyData → (PyData → Prop) → Prop
abbrev PL := List A → (PyData → Prop) → Prop
def OutX (Γ : Gx) (f : Fr) (W : WX) (σ : L2.St) (Xx : XX) : Prop := ∀ c d ρ' F' H' dx v, Xx c d ρ' → Ent Γ f F' H' σ ρ' → F' dx = some (.xd [("value", v)]) → Dq Γ.K F' v d → W (.ref (Γ.C c)) (some dx) σ H'
def OutE (Γ : Gx) (f : Fr) (F : Hp) (σ : L2.St) (R : A → List Sl → Prop) (Q : VK) : Prop := ∀ x ρ' F' H' v, R x ρ' → Ent Γ f F' H' σ ρ' → Same F F' → Rp Γ F' v x → Q v H'
def OutA (Γ : Gx) (f : Fr) (F : Hp) (σ : L2.St) (R : List A → List Sl → Prop) (Q : List V → Hp → Prop) : Prop := ∀ xs ρ' F' H' vs, R xs ρ' → Ent Γ f F' H' σ ρ' → Same F F' → RpAll Γ F' vs xs → Q vs H'
def OutB (Γ : Gx) (f : Fr) (F : Hp) (σ : L2.St) (R : Bool → List Sl → Prop) (Q : Bool → Hp → Prop) : Prop := ∀ b ρ' F' H', R b ρ' → Ent Γ f F' H' σ ρ' → Same F F' → Q b H'
/-- a list that no one else has -/
structure Own1 (Γ : Gx) (f : Fr) (F H : Hp) (σ : L2.St) (ρ : List Sl) (a : Addr) (xs : List V) (ds : List PyData) : Prop where
  hH : H a = some (.lst xs)
  hF : F a = none
  hD : DqAll Γ.K F xs ds
  h0 : f.H0 a = none
  hO : ¬ OwnA σ ρ a
  hR : ¬ f.R a
def OutL (Γ : Gx) (f : Fr) (F : Hp) (σ : L2.St) (R : List PyData → List Sl → Prop) (Q : VK) : Prop := ∀ ds ρ' F' H' a xs, R ds ρ' → Ent Γ f F' H' σ ρ' → Same F F' → Own1 Γ f F' H' σ ρ' a xs ds → Q (.ref a) H'
def DenE (Γ : Gx) (W : WX) (t : TE) (ε : EE) : Prop := ∀ f F H σ ρ Q R Xx, Ent Γ f F H σ ρ → ε ρ R Xx → OutE Γ f F σ R Q → OutX Γ f W σ Xx → t σ H Q
def DenA (Γ : Gx) (W : WX) (t : TA) (ε : AA) : Prop := ∀ f F H σ ρ Q R Xx, Ent Γ f F H σ ρ → ε ρ R Xx → OutA Γ f F σ R Q → OutX Γ f W σ Xx → t σ H Q
def DenB (Γ : Gx) (W : WX) (t : TT) (ε : BB) : Prop := ∀ f F H σ ρ Q R Xx, Ent Γ f F H σ ρ → ε ρ R Xx → OutB Γ f F σ R Q → OutX Γ f W σ Xx → t σ H Q
def DenL (Γ : Gx) (W : WX) (t : TE) (ε : LL) : Prop := ∀ f F H σ ρ Q R Xx, Ent Γ f F H σ ρ → ε ρ R Xx → OutL Γ f F σ R Q → OutX Γ f W σ Xx → t σ H Q
def DE (Γ : Gx) (X : Cx) (W : WX) (e : Expr) (t : TE) (ε : EE) : Prop := PE X e t ∧ DenE Γ W t ε
def DL (Γ : Gx) (X : Cx) (W : WX) (e : Expr) (t : TE) (ε : LL) : Prop := PE X e t ∧ DenL Γ W t ε
def DA (Γ : Gx) (X : Cx) (W : WX) (es : List Expr) (t : TA) (ε : AA) : Prop := PA X es t ∧ DenA Γ W t ε
def DT (Γ : Gx) (X : Cx) (W : WX) (e : Expr) (t : TT) (ε : BB) : Prop := PT X e t ∧ DenB Γ W t ε

/-! ### meanings -/
def dD : A → (PyData → Prop) → Prop
  | .d x, P => P x
  | _, _ => False
def dB : A → (Bool → Prop) → Prop
  | .d (.bool b), P => P b
  | _, _ => False
def dI : A → (Int → Prop) → Prop
  | .d (.int b), P => P b
  | _, _ => False
def dL : A → (List PyData → Prop) → Prop
  | .d (.list b), P => P b
  | _, _ => False
def dS : A → (List PyData → Prop) → Prop
  | .d (.list b), P => P b
  | .d (.tuple b), P => P b
  | _, _ => False
def dAll : List A → (List PyData → Prop) → Prop
  | [], P => P []
  | x :: xs, P => dD x fun d => dAll xs fun ds => P (d :: ds)
def szL (n : Nat) : Prop := n ≤ sizeLine
def eVar (i : Nat) : EE := fun ρ R _ => match ρ[i]? with
  | some (.a x) => R x ρ
  | some (.own ds) => R (.d (.list ds)) (ρ.set i (.a (.d (.list ds))))
  | _ => False
def eC (d : PyData) : EE := fun ρ R _ => R (.d d) ρ
def eOp (p : P2) (a b : EE) : EE := fun ρ R Xx => a ρ (fun x ρ1 => b ρ1 (fun y ρ2 => dD x fun u => dD y fun w => p u w fun d => R (.d d) ρ2) Xx) Xx
def eUn (p : PyData → (PyData → Prop) → Prop) (a : EE) : EE := fun ρ R Xx => a ρ (fun x ρ1 => dD x fun u => p u fun d => R (.d d) ρ1) Xx
def eAnd (a b : EE) : EE := fun ρ R Xx => a ρ (fun x ρ1 => dB x fun c => if c = true then b ρ1 R Xx else R (.d (.bool false)) ρ1) Xx
def eOr (a b : EE) : EE := fun ρ R Xx => a ρ (fun x ρ1 => dB x fun c => if c = true then R (.d (.bool true)) ρ1 else b ρ1 R Xx) Xx
def eNot (a : EE) : EE := fun ρ R Xx => a ρ (fun x ρ1 => dB x fun c => R (.d (.bool !c)) ρ1) Xx
def eIf (t : BB) (a b : EE) : EE := fun ρ R Xx => t ρ (fun c ρ1 => if c = true then a ρ1 R Xx else b ρ1 R Xx) Xx
def isNon : A → Bool
  | .d .none => true
  | _ => false
def eIsN (a : EE) : EE := fun ρ R Xx => a ρ (fun x ρ1 => R (.d (.bool (isNon x))) ρ1) Xx
def eNotN (a : EE) : EE := fun ρ R Xx => a ρ (fun x ρ1 => R (.d (.bool !(isNon x))) ρ1) Xx
def bOf (a : EE) : BB := fun ρ R Xx => a ρ (fun x ρ1 => dB x fun c => R c ρ1) Xx
def truP : A → (Bool → Prop) → Prop
  | .d (.list ds), R => R (!ds.isEmpty)
  | .d (.tuple ds), R => R (!ds.isEmpty)
  | .d (.int i), R => R (i != 0)
  | .d (.bool b), R => R b
  | .d .none, R => R false
  | _, _ => False
def bTru (a : EE) : BB := fun ρ R Xx => a ρ (fun x ρ1 => truP x fun b => R b ρ1) Xx
def bNot (a : BB) : BB := fun ρ R Xx => a ρ (fun b ρ1 => R (!b) ρ1) Xx
def aNil : AA := fun ρ R _ => R [] ρ
def aCons (a : EE) (b : AA) : AA := fun ρ R Xx => a ρ (fun x ρ1 => b ρ1 (fun xs ρ2 => R (x :: xs) ρ2) Xx) Xx
def aStar (a : EE) (b : AA) : AA := fun ρ R Xx => a ρ (fun x ρ1 => dS x fun us => b ρ1 (fun xs ρ2 => R (us.map A.d ++ xs) ρ2) Xx) Xx
def eTup (a : AA) : EE := fun ρ R Xx => a ρ (fun xs ρ1 => dAll xs fun ds => szL ds.length ∧ R (.d (.tuple ds)) ρ1) Xx
def lDisp (a : AA) : LL := fun ρ R Xx => a ρ (fun xs ρ1 => dAll xs fun ds => szL ds.length ∧ R ds ρ1) Xx
def eFz (a : LL) : EE := fun ρ R Xx => a ρ (fun ds ρ1 => R (.d (.list ds)) ρ1) Xx
def eCB (p : PL) (a : AA) : EE := fun ρ R Xx => a ρ (fun xs ρ1 => p xs fun d => R (.d d) ρ1) Xx
def lCat (a b : EE) : LL := fun ρ R Xx => a ρ (fun x ρ1 => b ρ1 (fun y ρ2 => dL x fun u => dL y fun w => szL (u.length + w.length) ∧ R (u ++ w) ρ2) Xx) Xx
def lRep (a b : EE) : LL := fun ρ R Xx => a ρ (fun x ρ1 => b ρ1 (fun y ρ2 => dL x fun u => dI y fun k => -(2 ^ 63) ≤ k ∧ k < 2 ^ 63 ∧ szL (u.length * k.toNat) ∧ R (List.replicate k.toNat u).flatten ρ2) Xx) Xx
def lOf (a : EE) : LL := fun ρ R Xx => a ρ (fun x ρ1 => dS x fun u => R u ρ1) Xx
def dO : Option EE → List Sl → (Option Int → List Sl → Prop) → XX → Prop
  | none, ρ, R, _ => R none ρ
  | some e, ρ, R, Xx => e ρ (fun x ρ1 => dI x fun i => R (some i) ρ1) Xx
def lSl (a : EE) (lo hi : Option EE) : LL := fun ρ R Xx => a ρ (fun x ρ1 => dL x fun u => dO lo ρ1 (fun l ρ2 => dO hi ρ2 (fun h ρ3 => R (cutA u l h) ρ3) Xx) Xx) Xx
def pIx : P2
  | .list ds, .int i, R => ∃ d, atI ds i = some d ∧ R d
  | .tuple ds, .int i, R => ∃ d, atI ds i = some d ∧ R d
  | .str z, .int i, R => z.length ≤ sizeLine ∧ ∃ c, atI z.cps.toList i = some c ∧ R (.str ⟨#[c]⟩)
  | _, _, _ => False
def eIxN (i : Nat) (e : EE) : EE := fun ρ R Xx => match ρ[i]? with
  | some (.own _) => e ρ (fun y ρ1 => dI y fun k => match ρ1[i]? with | some (.own ds) => ∃ d, atI ds k = some d ∧ R (.d d) ρ1 | _ => False) Xx
  | some (.a x) => e ρ (fun y ρ1 => dD x fun u => dD y fun w => pIx u w fun d => R (.d d) ρ1) Xx
  | _ => False
def pLen : A → (Int → Prop) → Prop
  | .d (.list ds), R => R ds.length
  | .d (.tuple ds), R => R ds.length
  | .scr ns, R => R ns.length
  | _, _ => False
def eLenN (i : Nat) : EE := fun ρ R _ => match ρ[i]? with
  | some (.own ds) => R (.d (.int ds.length)) ρ
  | some (.a x) => pLen x fun n => R (.d (.int n)) ρ
  | _ => False
def pI0 (g : Int → Int → PyData) : P2
  | .int a, .int b, R => R (g a b)
  | _, _, _ => False
def pI (C : Int → Int → Prop) (g : Int → Int → PyData) : P2
  | .int a, .int b, R => C a b ∧ R (g a b)
  | _, _, _ => False
def pEq : P2
  | .int a, .int b, R => R (.bool (decide (a = b)))
  | .str a, .str b, R => R (.bool (decide (a = b)))
  | .bool a, .bool b, R => R (.bool (decide (a = b)))
  | _, _, _ => False
def pNe : P2
  | .int a, .int b, R => R (.bool (!decide (a = b)))
  | .str a, .str b, R => R (.bool (!decide (a = b)))
  | .bool a, .bool b, R => R (.bool (!decide (a = b)))
  | _, _, _ => False
def pEqD : P2 := fun a b R => SeqAt.shaped a = true ∧ SeqAt.shaped b = true ∧ R (.bool (PyData.eqv a b))
def pNeD : P2 := fun a b R => SeqAt.shaped a = true ∧ SeqAt.shaped b = true ∧ R (.bool (!PyData.eqv a b))
def flatD : PyData → Bool
  | .none | .bool _ | .int _ | .str _ => true
  | _ => false
def vOf : PyData → V
  | .bool b => .bl b
  | .int i => .int i
  | .str z => .str z
  | _ => .non
def pIn (neg : Bool) : P2
  | x, .list ds, R => flatD x = true ∧ ds.all flatD = true ∧ R (.bool (if neg then !inV (vOf x) (ds.map vOf) else inV (vOf x) (ds.map vOf)))
  | x, .tuple ds, R => flatD x = true ∧ ds.all flatD = true ∧ R (.bool (if neg then !inV (vOf x) (ds.map vOf) else inV (vOf x) (ds.map vOf)))
  | _, _, _ => False
def pNeg : PyData → (PyData → Prop) → Prop
  | .int a, R => R (.int (-a))
  | _, _ => False
def eChain (p p' : P2) (a b c : EE) : EE := fun ρ R Xx => a ρ (fun x ρ1 => b ρ1 (fun y ρ2 => dD x fun u => dD y fun w => p u w fun d => dB (.d d) fun k => if k = true then c ρ2 (fun z ρ3 => dD z fun v => p' w v fun d => R (.d d) ρ3) Xx else R (.d (.bool false)) ρ2) Xx) Xx

section
variable {Γ : Gx} {X : Cx} {W : WX} {f : Fr} {F H F' H' : Hp} {σ : L2.St} {ρ ρ' : List Sl} {x : A} {v : V} {d : PyData} {e e1 e2 e3 : Expr} {a b c : EE} {i : Nat} {es : List Expr} {pos : Pos}
theorem OutE.sub {R : A → List Sl → Prop} {Q : VK} (o : OutE Γ f F σ R Q) (s : Same F F') : OutE Γ f F' σ R Q := fun x ρ' F' H' v r E s' h => o x ρ' F' H' v r E (s.trans s') h
theorem OutL.sub {R : List PyData → List Sl → Prop} {Q : VK} (o : OutL Γ f F σ R Q) (s : Same F F') : OutL Γ f F' σ R Q := fun x ρ' F' H' a xs r E s' h => o x ρ' F' H' a xs r E (s.trans s') h
theorem OutA.sub {R : List A → List Sl → Prop} {Q : List V → Hp → Prop} (o : OutA Γ f F σ R Q) (s : Same F F') : OutA Γ f F' σ R Q := fun x ρ' F' H' v r E s' h => o x ρ' F' H' v r E (s.trans s') h
theorem OutB.sub {R : Bool → List Sl → Prop} {Q : Bool → Hp → Prop} (o : OutB Γ f F σ R Q) (s : Same F F') : OutB Γ f F' σ R Q := fun x ρ' F' H' r E s' => o x ρ' F' H' r E (s.trans s')
theorem dD_of {P : PyData → Prop} (h : dD x P) : ∃ d, x = .d d ∧ P d := by
  cases x with
  | d y => exact ⟨y, rfl, h⟩
  | exc => exact h.elim
  | spr => exact h.elim
  | scr => exact h.elim
theorem dB_of {P : Bool → Prop} (h : dB x P) : ∃ b, x = .d (.bool b) ∧ P b := by
  cases x with
  | d y => cases y <;> first | exact ⟨_, rfl, h⟩ | exact h.elim
  | exc => exact h.elim
  | spr => exact h.elim
  | scr => exact h.elim
theorem dI_of {P : Int → Prop} (h : dI x P) : ∃ b, x = .d (.int b) ∧ P b := by
  cases x with
  | d y => cases y <;> first | exact ⟨_, rfl, h⟩ | exact h.elim
  | exc => exact h.elim
  | spr => exact h.elim
  | scr => exact h.elim
theorem dL_of {P : List PyData → Prop} (h : dL x P) : ∃ b, x = .d (.list b) ∧ P b := by
  cases x with
  | d y => cases y <;> first | exact ⟨_, rfl, h⟩ | exact h.elim
  | exc => exact h.elim
  | spr => exact h.elim
  | scr => exact h.elim
theorem dS_of {P : List PyData → Prop} (h : dS x P) : ∃ b, (x = .d (.list b) ∨ x = .d (.tuple b)) ∧ P b := by
  cases x with
  | d y => cases y <;> first | exact ⟨_, .inl rfl, h⟩ | exact ⟨_, .inr rfl, h⟩ | exact h.elim
  | exc => exact h.elim
  | spr => exact h.elim
  | scr => exact h.elim
theorem dAll_of : ∀ {xs : List A} {P : List PyData → Prop}, dAll xs P → ∃ ds, xs = ds.map A.d ∧ P ds
  | [], _, h => ⟨[], rfl, h⟩
  | x :: xs, P, h => by
    obtain ⟨d, e, h1⟩ := dD_of h
    obtain ⟨ds, e2, h2⟩ := dAll_of (xs := xs) h1
    exact ⟨d :: ds, by rw [e, e2]; rfl, h2⟩
theorem RpAll.dq {F : Hp} : ∀ {vs : List V} {ds : List PyData}, RpAll Γ F vs (ds.map A.d) → DqAll Γ.K F vs ds
  | [], [], _ => .nil
  | _ :: _, _ :: _, ⟨h1, h2⟩ => .cons h1 (RpAll.dq h2)
  | [], _ :: _, h => h.elim
  | _ :: _, [], h => h.elim
theorem DqAll.rp {F : Hp} : ∀ {vs : List V} {ds : List PyData}, DqAll Γ.K F vs ds → RpAll Γ F vs (ds.map A.d)
  | [], [], _ => trivial
  | _ :: _, _ :: _, .cons h1 h2 => ⟨h1, DqAll.rp h2⟩
theorem RpAll.app {F : Hp} : ∀ {vs ws : List V} {xs ys : List A}, RpAll Γ F vs xs → RpAll Γ F ws ys → RpAll Γ F (vs ++ ws) (xs ++ ys)
  | [], _, [], _, _, h => h
  | _ :: _, _, _ :: _, _, ⟨h1, h2⟩, h => ⟨h1, RpAll.app h2 h⟩
  | [], _, _ :: _, _, h, _ => h.elim
  | _ :: _, _, [], _, h, _ => h.elim

theorem de_var (h : PE X e (tVar i)) : DE Γ X W e (tVar i) (eVar i) := by
  refine ⟨h, fun f F H σ ρ Q R Xx E r o _ => ?_⟩
  unfold eVar at r
  split at r
  · rename_i x hx
    obtain ⟨u, hu, hr⟩ := E.sl i _ hx
    exact ⟨u, hu, o x ρ F H u r E (Same.refl _) hr⟩
  · rename_i ds hx
    obtain ⟨a, xs, e1, e2, e4, hd, E2⟩ := E.freeO hx
    exact ⟨_, e1, o _ _ _ _ _ r E2 (same_updF e4) hd⟩
  · exact r.elim
theorem de_c (h : PE X e (tC v)) (hv : ∀ F, Dq Γ.K F v d) : DE Γ X W e (tC v) (eC d) := ⟨h, fun f F H σ ρ Q R Xx E r o _ => o _ ρ F H v r E (Same.refl _) (hv F)⟩
/-- an operator by values -/
def OpD (Γ : Gx) (r : R2) (p : P2) : Prop := ∀ f F H σ ρ x y u w Q R, Ent Γ f F H σ ρ → Dq Γ.K F x u → Dq Γ.K F y w → p u w R → (∀ d v F' H', R d → Ent Γ f F' H' σ ρ → Same F F' → Dq Γ.K F' v d → Q v H') → r x y H Q
theorem den_op {r : R2} {p : P2} {ta tb : TE} (hp : OpD Γ r p) (h1 : DenE Γ W ta a) (h2 : DenE Γ W tb b) : DenE Γ W (tOp r ta tb) (eOp p a b) := fun f F H σ ρ Q R Xx E q o ox => by
  refine h1 f F H σ ρ _ _ Xx E q (fun x ρ1 F1 H1 v1 q1 E1 s1 r1 => ?_) ox
  refine h2 f F1 H1 σ ρ1 _ _ Xx E1 q1 (fun y ρ2 F2 H2 v2 q2 E2 s2 r2 => ?_) ox
  obtain ⟨u, rfl, q2'⟩ := dD_of q2
  clear q2; have q2 := q2'
  obtain ⟨w, rfl, q2'⟩ := dD_of q2
  clear q2; have q2 := q2'
  exact hp f F2 H2 σ ρ2 v1 v2 u w Q _ E2 (Dq.same s2 u r1) r2 q2 fun d v F' H' rd E' s' hd => o _ _ _ _ _ rd E' ((s1.trans s2).trans s') hd
theorem de_op {r : R2} {p : P2} (hp : OpD Γ r p) (hpe : ∀ {ta tb : TE}, PE X e1 ta → PE X e2 tb → PE X e (tOp r ta tb)) {ta : TE} (h1 : DE Γ X W e1 ta a) {tb : TE} (h2 : DE Γ X W e2 tb b) : DE Γ X W e (tOp r ta tb) (eOp p a b) := by
  obtain ⟨p1, d1⟩ := h1
  obtain ⟨p2, d2⟩ := h2
  exact ⟨hpe p1 p2, den_op hp d1 d2⟩
theorem opd_int0 {g : Int → Int → Int} : OpD Γ (rI0 fun i j => .int (g i j)) (pI0 fun i j => .int (g i j)) := fun f F H σ ρ x y u w Q R E h1 h2 q o => by
  unfold pI0 at q
  split at q
  · cases h1; cases h2
    exact ⟨_, _, rfl, rfl, o _ _ F H q E (Same.refl _) (.int _)⟩
  · exact q.elim
theorem opd_bl0 {g : Int → Int → Bool} : OpD Γ (rI0 fun i j => .bl (g i j)) (pI0 fun i j => .bool (g i j)) := fun f F H σ ρ x y u w Q R E h1 h2 q o => by
  unfold pI0 at q
  split at q
  · cases h1; cases h2
    exact ⟨_, _, rfl, rfl, o _ _ F H q E (Same.refl _) (.bl _)⟩
  · exact q.elim
theorem opd_int {C : Int → Int → Prop} {g : Int → Int → Int} : OpD Γ (rI C fun i j => .int (g i j)) (pI C fun i j => .int (g i j)) := fun f F H σ ρ x y u w Q R E h1 h2 q o => by
  unfold pI at q
  split at q
  · cases h1; cases h2
    exact ⟨_, _, rfl, rfl, q.1, o _ _ F H q.2 E (Same.refl _) (.int _)⟩
  · exact q.elim
theorem opd_eq : OpD Γ rEq pEq := fun f F H σ ρ x y u w Q R E h1 h2 q o => by
  unfold pEq at q
  split at q
  · cases h1; cases h2
    refine ⟨rfl, o _ _ F H q E (Same.refl _) ?_⟩
    rw [x_dec]; exact .bl _
  · cases h1; cases h2
    refine ⟨rfl, o _ _ F H q E (Same.refl _) ?_⟩
    rw [x_decS]; exact .bl _
  · rename_i a1 b1
    cases h1; cases h2
    refine ⟨rfl, o _ _ F H q E (Same.refl _) ?_⟩
    rw [show decide (V.bl a1 = V.bl b1) = decide (a1 = b1) by cases a1 <;> cases b1 <;> rfl]; exact .bl _
  · exact q.elim
theorem opd_ne : OpD Γ rNe pNe := fun f F H σ ρ x y u w Q R E h1 h2 q o => by
  unfold pNe at q
  split at q
  · cases h1; cases h2
    refine ⟨rfl, o _ _ F H q E (Same.refl _) ?_⟩
    rw [x_dec]; exact .bl _
  · cases h1; cases h2
    refine ⟨rfl, o _ _ F H q E (Same.refl _) ?_⟩
    rw [x_decS]; exact .bl _
  · rename_i a1 b1
    cases h1; cases h2
    refine ⟨rfl, o _ _ F H q E (Same.refl _) ?_⟩
    rw [show decide (V.bl a1 = V.bl b1) = decide (a1 = b1) by cases a1 <;> cases b1 <;> rfl]; exact .bl _
  · exact q.elim
theorem opd_eqD : OpD Γ (rEqD Γ.K) pEqD := fun f F H σ ρ x y u w Q R E h1 h2 q o =>
  ⟨u, w, Dp.same E.s1 u (Dq.dp u h1), Dp.same E.s1 w (Dq.dp w h2), q.1, q.2.1, o _ _ F H q.2.2 E (Same.refl _) (.bl _)⟩
theorem opd_neD : OpD Γ (rNeD Γ.K) pNeD := fun f F H σ ρ x y u w Q R E h1 h2 q o =>
  ⟨u, w, Dp.same E.s1 u (Dq.dp u h1), Dp.same E.s1 w (Dq.dp w h2), q.1, q.2.1, o _ _ F H q.2.2 E (Same.refl _) (.bl _)⟩
theorem flat_v {F : Hp} : ∀ {u : PyData} {x : V}, Dq Γ.K F x u → flatD u = true → x = vOf u ∧ flatV x = true
  | .none, _, h, _ => by cases h; exact ⟨rfl, rfl⟩
  | .bool _, _, h, _ => by cases h; exact ⟨rfl, rfl⟩
  | .int _, _, h, _ => by cases h; exact ⟨rfl, rfl⟩
  | .str _, _, h, _ => by cases h; exact ⟨rfl, rfl⟩
  | .list _, _, _, h => nomatch h
  | .tuple _, _, _, h => nomatch h
  | .dict _, _, _, h => nomatch h
theorem flat_vs {F : Hp} : ∀ {us : List PyData} {xs : List V}, DqAll Γ.K F xs us → us.all flatD = true → xs = us.map vOf ∧ xs.all flatV = true
  | [], _, h, _ => by cases h; exact ⟨rfl, rfl⟩
  | u :: us, _, h, hf => by
    cases h with
    | cons h1 h2 =>
      rw [List.all_cons, Bool.and_eq_true] at hf
      obtain ⟨e1, f1⟩ := flat_v h1 hf.1
      obtain ⟨e2, f2⟩ := flat_vs h2 hf.2
      exact ⟨by rw [e1, e2]; rfl, by rw [List.all_cons, f1, f2]; rfl⟩
theorem opd_in {neg : Bool} : OpD Γ (rIn Γ.K neg) (pIn neg) := fun f F H σ ρ x y u w Q R E h1 h2 q o => by
  unfold pIn at q
  split at q
  · cases h2 with
    | lst hs ha =>
      obtain ⟨e1, f1⟩ := flat_v h1 q.1
      obtain ⟨e2, f2⟩ := flat_vs ha q.2.1
      subst e1 e2
      exact ⟨_, _, rfl, .inl (.of (E.s1 _ _ hs)), f1, f2, o _ _ F H q.2.2 E (Same.refl _) (.bl _)⟩
  · cases h2 with
    | tup hs ha =>
      obtain ⟨e1, f1⟩ := flat_v h1 q.1
      obtain ⟨e2, f2⟩ := flat_vs ha q.2.1
      subst e1 e2
      exact ⟨_, _, rfl, .inr (Same.tup E.s1 hs), f1, f2, o _ _ F H q.2.2 E (Same.refl _) (.bl _)⟩
  · exact q.elim
theorem atI_dq {F : Hp} {xs : List V} {ds : List PyData} (h : DqAll Γ.K F xs ds) {k : Int} {d : PyData} (e : atI ds k = some d) : ∃ v, atI xs k = some v ∧ Dq Γ.K F v d := by
  unfold atI at e ⊢
  rw [h.len]
  cases hk : ixN ds.length k with
  | none => rw [hk] at e; cases e
  | some j =>
    rw [hk] at e
    exact h.get e
theorem opd_ix : OpD Γ (rIx Γ.K) pIx := fun f F H σ ρ x y u w Q R E h1 h2 q o => by
  unfold pIx at q
  split at q
  · obtain ⟨d, hd, q⟩ := q
    cases h2
    cases h1 with
    | lst hs ha =>
      obtain ⟨v, hv, dv⟩ := atI_dq ha hd
      exact .inl ⟨_, _, _, v, rfl, rfl, .of (E.s1 _ _ hs), hv, o _ _ F H q E (Same.refl _) dv⟩
  · obtain ⟨d, hd, q⟩ := q
    cases h2
    cases h1 with
    | tup hs ha =>
      obtain ⟨v, hv, dv⟩ := atI_dq ha hd
      exact .inr (.inl ⟨_, _, _, v, rfl, rfl, Same.tup E.s1 hs, hv, o _ _ F H q E (Same.refl _) dv⟩)
  · obtain ⟨hz, c, hc, q⟩ := q
    cases h2
    cases h1
    exact .inr (.inr ⟨_, _, c, rfl, rfl, hz, hc, o _ _ F H q E (Same.refl _) (.str _)⟩)
  · exact q.elim
theorem de_ixN (hpe : ∀ {tb : TE}, PE X e2 tb → PE X e (tOp (rIx Γ.K) (tVar i) tb)) {tb : TE} (h : DE Γ X W e2 tb b) : DE Γ X W e (tOp (rIx Γ.K) (tVar i) tb) (eIxN i b) := by
  obtain ⟨p2, d2⟩ := h
  refine ⟨hpe p2, fun f F H σ ρ Q R Xx E q o ox => ?_⟩
  unfold eIxN at q
  split at q
  · rename_i ds hx
    obtain ⟨a, xs, e1, e2, e3, e4, e5⟩ := E.sl i _ hx
    refine ⟨.ref a, e1, ?_⟩
    refine d2 f F H σ ρ _ _ Xx E q (fun y ρ1 F1 H1 v1 q1 E1 s1 r1 => ?_) ox
    obtain ⟨k, rfl, q1'⟩ := dI_of q1
    clear q1; have q1 := q1'
    split at q1
    · rename_i ds' hx'
      obtain ⟨d, hd, q1⟩ := q1
      obtain ⟨a', xs', f1, f2, f3, f4, f5⟩ := E1.sl i _ hx'
      rw [e1] at f1
      cases f1
      cases r1
      obtain ⟨v, hv, dv⟩ := atI_dq f3 hd
      exact .inl ⟨_, _, _, v, rfl, rfl, .of f2, hv, o _ _ _ _ _ q1 E1 s1 dv⟩
    · exact q1.elim
  · rename_i x hx
    obtain ⟨u, hu, hr⟩ := E.sl i _ hx
    refine ⟨u, hu, ?_⟩
    refine d2 f F H σ ρ _ _ Xx E q (fun y ρ1 F1 H1 v1 q1 E1 s1 r1 => ?_) ox
    obtain ⟨u', rfl, q1'⟩ := dD_of q1
    clear q1; have q1 := q1'
    obtain ⟨w', rfl, q1'⟩ := dD_of q1
    clear q1; have q1 := q1'
    exact opd_ix f F1 H1 σ ρ1 u v1 u' w' Q _ E1 (Dq.same s1 u' hr) r1 q1 fun d v F' H' rd E' s' hd => o _ _ _ _ _ rd E' (s1.trans s') hd
  · exact q.elim
theorem de_un (hpe : ∀ {ta : TE}, PE X e1 ta → PE X e (tUn (rU fun i => .int (-i)) ta)) {ta : TE} (h1 : DE Γ X W e1 ta a) : DE Γ X W e (tUn (rU fun i => .int (-i)) ta) (eUn pNeg a) := by
  obtain ⟨p1, d1⟩ := h1
  refine ⟨hpe p1, fun f F H σ ρ Q R Xx E q o ox => ?_⟩
  refine d1 f F H σ ρ _ _ Xx E q (fun x ρ1 F1 H1 v1 q1 E1 s1 r1 => ?_) ox
  obtain ⟨u, rfl, q1'⟩ := dD_of q1
  clear q1; have q1 := q1'
  revert q1
  cases u <;> intro q1 <;> try exact False.elim q1
  cases r1
  exact ⟨_, rfl, o _ _ _ _ _ q1 E1 s1 (.int _)⟩
theorem de_and (hpe : ∀ {ta tb : TE}, PE X e1 ta → PE X e2 tb → PE X e (tAndV ta tb)) {ta : TE} (h1 : DE Γ X W e1 ta a) {tb : TE} (h2 : DE Γ X W e2 tb b) : DE Γ X W e (tAndV ta tb) (eAnd a b) := by
  obtain ⟨p1, d1⟩ := h1
  obtain ⟨p2, d2⟩ := h2
  refine ⟨hpe p1 p2, fun f F H σ ρ Q R Xx E q o ox => ?_⟩
  refine d1 f F H σ ρ _ _ Xx E q (fun x ρ1 F1 H1 v1 q1 E1 s1 r1 => ?_) ox
  obtain ⟨c, rfl, q1'⟩ := dB_of q1
  clear q1; have q1 := q1'
  cases r1
  refine ⟨c, rfl, ?_⟩
  cases c with
  | true => exact d2 f F1 H1 σ ρ1 _ _ Xx E1 q1 (o.sub s1) ox
  | false => exact o _ _ _ _ _ q1 E1 s1 (.bl _)
theorem de_or (hpe : ∀ {ta tb : TE}, PE X e1 ta → PE X e2 tb → PE X e (tOrV ta tb)) {ta : TE} (h1 : DE Γ X W e1 ta a) {tb : TE} (h2 : DE Γ X W e2 tb b) : DE Γ X W e (tOrV ta tb) (eOr a b) := by
  obtain ⟨p1, d1⟩ := h1
  obtain ⟨p2, d2⟩ := h2
  refine ⟨hpe p1 p2, fun f F H σ ρ Q R Xx E q o ox => ?_⟩
  refine d1 f F H σ ρ _ _ Xx E q (fun x ρ1 F1 H1 v1 q1 E1 s1 r1 => ?_) ox
  obtain ⟨c, rfl, q1'⟩ := dB_of q1
  clear q1; have q1 := q1'
  cases r1
  refine ⟨c, rfl, ?_⟩
  cases c with
  | true => exact o _ _ _ _ _ q1 E1 s1 (.bl _)
  | false => exact d2 f F1 H1 σ ρ1 _ _ Xx E1 q1 (o.sub s1) ox
theorem de_one (hpe : ∀ {ta : TE}, PE X e1 ta → PE X e ta) {ta : TE} (h1 : DE Γ X W e1 ta a) : DE Γ X W e ta a := by
  obtain ⟨p1, d1⟩ := h1
  exact ⟨hpe p1, d1⟩
theorem de_not (hpe : ∀ {ta : TE}, PE X e1 ta → PE X e (tNotV ta)) {ta : TE} (h1 : DE Γ X W e1 ta a) : DE Γ X W e (tNotV ta) (eNot a) := by
  obtain ⟨p1, d1⟩ := h1
  refine ⟨hpe p1, fun f F H σ ρ Q R Xx E q o ox => ?_⟩
  refine d1 f F H σ ρ _ _ Xx E q (fun x ρ1 F1 H1 v1 q1 E1 s1 r1 => ?_) ox
  obtain ⟨c, rfl, q1'⟩ := dB_of q1
  clear q1; have q1 := q1'
  cases r1
  exact ⟨c, rfl, o _ _ _ _ _ q1 E1 s1 (.bl _)⟩
theorem isNon_v {F : Hp} (h : Rp Γ F v x) : decide (v = V.non) = Cc.isNon x := by
  cases x with
  | d y => cases y <;> cases h <;> rfl
  | exc c y => obtain ⟨_, _, _, rfl, _⟩ := h; rfl
  | spr S => obtain ⟨_, _, rfl, _⟩ := h; rfl
  | scr ns => obtain ⟨_, rfl, _⟩ := h; rfl
theorem de_isN (hpe : ∀ {ta : TE}, PE X e1 ta → PE X e (tOp (fun x y H Q => y = V.non ∧ Q (V.bl (decide (x = V.non))) H) ta (tC .non))) {ta : TE} (h1 : DE Γ X W e1 ta a) : DE Γ X W e (tOp (fun x y H Q => y = V.non ∧ Q (V.bl (decide (x = V.non))) H) ta (tC .non)) (eIsN a) := by
  obtain ⟨p1, d1⟩ := h1
  refine ⟨hpe p1, fun f F H σ ρ Q R Xx E q o ox => ?_⟩
  refine d1 f F H σ ρ _ _ Xx E q (fun x ρ1 F1 H1 v1 q1 E1 s1 r1 => ?_) ox
  show V.non = V.non ∧ Q (V.bl (decide (v1 = V.non))) H1
  refine ⟨rfl, ?_⟩
  rw [isNon_v r1]
  exact o _ _ _ _ _ q1 E1 s1 (.bl _)
theorem de_notN (hpe : ∀ {ta : TE}, PE X e1 ta → PE X e (tOp (fun x y H Q => y = V.non ∧ Q (V.bl (!decide (x = V.non))) H) ta (tC .non))) {ta : TE} (h1 : DE Γ X W e1 ta a) : DE Γ X W e (tOp (fun x y H Q => y = V.non ∧ Q (V.bl (!decide (x = V.non))) H) ta (tC .non)) (eNotN a) := by
  obtain ⟨p1, d1⟩ := h1
  refine ⟨hpe p1, fun f F H σ ρ Q R Xx E q o ox => ?_⟩
  refine d1 f F H σ ρ _ _ Xx E q (fun x ρ1 F1 H1 v1 q1 E1 s1 r1 => ?_) ox
  show V.non = V.non ∧ Q (V.bl (!decide (v1 = V.non))) H1
  refine ⟨rfl, ?_⟩
  rw [isNon_v r1]
  exact o _ _ _ _ _ q1 E1 s1 (.bl _)
theorem dt_val (hpe : ∀ {ta : TE}, PE X e ta → PT X e (tB ta)) {ta : TE} (h1 : DE Γ X W e ta a) : DT Γ X W e (tB ta) (bOf a) := by
  obtain ⟨p1, d1⟩ := h1
  refine ⟨hpe p1, fun f F H σ ρ Q R Xx E q o ox => ?_⟩
  refine d1 f F H σ ρ _ _ Xx E q (fun x ρ1 F1 H1 v1 q1 E1 s1 r1 => ?_) ox
  obtain ⟨c, rfl, q1'⟩ := dB_of q1
  clear q1; have q1 := q1'
  cases r1
  exact ⟨c, rfl, o _ _ _ _ q1 E1 s1⟩
theorem tru_v {F H : Hp} (s : Same F H) {R : Bool → Prop} (h : Rp Γ F v x) (q : truP x R) : ∃ k, TruV Γ.K v H k ∧ R k := by
  have em : ∀ {us : List PyData} {xs : List V}, DqAll Γ.K F xs us → us.isEmpty = xs.isEmpty := fun {us xs} h => by
    cases h <;> rfl
  cases x with
  | d y =>
    cases y with
    | none => cases h; exact ⟨_, rfl, q⟩
    | bool b => cases h; exact ⟨_, rfl, q⟩
    | int i => cases h; exact ⟨_, rfl, q⟩
    | str z => exact q.elim
    | list ds =>
      cases h with
      | lst hs ha => exact ⟨_, truL (.of (s _ _ hs)), by rw [← em ha]; exact q⟩
    | tuple ds =>
      cases h with
      | tup hs ha => exact ⟨_, truT (Same.tup s hs), by rw [← em ha]; exact q⟩
    | dict _ => exact q.elim
  | exc c y => exact q.elim
  | spr S => exact q.elim
  | scr ns => exact q.elim
theorem dt_tru (hpe : ∀ {ta : TE}, PE X e ta → PT X e (fun σ H Q => ta σ H fun x H' => ∃ k, TruV Γ.K x H' k ∧ Q k H')) {ta : TE} (h1 : DE Γ X W e ta a) : DT Γ X W e (fun σ H Q => ta σ H fun x H' => ∃ k, TruV Γ.K x H' k ∧ Q k H') (bTru a) := by
  obtain ⟨p1, d1⟩ := h1
  refine ⟨hpe p1, fun f F H σ ρ Q R Xx E q o ox => ?_⟩
  refine d1 f F H σ ρ _ _ Xx E q (fun x ρ1 F1 H1 v1 q1 E1 s1 r1 => ?_) ox
  obtain ⟨k, hk, r⟩ := tru_v E1.s1 r1 (R := fun b => R b ρ1) q1
  exact ⟨k, hk, o _ _ _ _ r E1 s1⟩
theorem dt_not {t1 : BB} (hpe : ∀ {ta : TT}, PT X e1 ta → PT X e (tNot ta)) {ta : TT} (h1 : DT Γ X W e1 ta t1) : DT Γ X W e (tNot ta) (bNot t1) := by
  obtain ⟨p1, d1⟩ := h1
  exact ⟨hpe p1, fun f F H σ ρ Q R Xx E q o ox => d1 f F H σ ρ _ _ Xx E q (fun b ρ1 F1 H1 q1 E1 s1 => o _ _ _ _ q1 E1 s1) ox⟩
theorem de_ifExp {t1 : BB} (hpe : ∀ {tt : TT} {ta tb : TE}, PT X e1 tt → PE X e2 ta → PE X e3 tb → PE X e (tIf tt ta tb)) {tt : TT} (h1 : DT Γ X W e1 tt t1) {ta : TE} (h2 : DE Γ X W e2 ta a) {tb : TE} (h3 : DE Γ X W e3 tb b) : DE Γ X W e (tIf tt ta tb) (eIf t1 a b) := by
  obtain ⟨p1, d1⟩ := h1
  obtain ⟨p2, d2⟩ := h2
  obtain ⟨p3, d3⟩ := h3
  refine ⟨hpe p1 p2 p3, fun f F H σ ρ Q R Xx E q o ox => ?_⟩
  refine d1 f F H σ ρ _ _ Xx E q (fun c ρ1 F1 H1 q1 E1 s1 => ?_) ox
  cases c with
  | true => exact d2 f F1 H1 σ ρ1 _ _ Xx E1 q1 (o.sub s1) ox
  | false => exact d3 f F1 H1 σ ρ1 _ _ Xx E1 q1 (o.sub s1) ox
theorem da_nil (h : PA X [] tNil) : DA Γ X W [] tNil aNil := ⟨h, fun f F H σ ρ Q R Xx E q o ox => o [] ρ F H [] q E (Same.refl _) trivial⟩
theorem da_cons {as : AA} (hpe : ∀ {ta : TE} {tr : TA}, PE X e ta → PA X es tr → PA X (e :: es) (tCons ta tr)) {ta : TE} (h1 : DE Γ X W e ta a) {tr : TA} (h2 : DA Γ X W es tr as) : DA Γ X W (e :: es) (tCons ta tr) (aCons a as) := by
  obtain ⟨p1, d1⟩ := h1
  obtain ⟨p2, d2⟩ := h2
  refine ⟨hpe p1 p2, fun f F H σ ρ Q R Xx E q o ox => ?_⟩
  refine d1 f F H σ ρ _ _ Xx E q (fun x ρ1 F1 H1 v1 q1 E1 s1 r1 => ?_) ox
  exact d2 f F1 H1 σ ρ1 _ _ Xx E1 q1 (fun xs ρ2 F2 H2 vs q2 E2 s2 r2 => o _ _ _ _ _ q2 E2 (s1.trans s2) ⟨r1.same s2, r2⟩) ox
theorem da_star {as : AA} {es' : List Expr} (hpe : ∀ {ta : TE} {tr : TA}, PE X e ta → PA X es tr → PA X es' (StX.tStar Γ.K ta tr)) {ta : TE} (h1 : DE Γ X W e ta a) {tr : TA} (h2 : DA Γ X W es tr as) : DA Γ X W es' (StX.tStar Γ.K ta tr) (aStar a as) := by
  obtain ⟨p1, d1⟩ := h1
  obtain ⟨p2, d2⟩ := h2
  refine ⟨hpe p1 p2, fun f F H σ ρ Q R Xx E q o ox => ?_⟩
  refine d1 f F H σ ρ _ _ Xx E q (fun x ρ1 F1 H1 v1 q1 E1 s1 r1 => ?_) ox
  obtain ⟨us, hx, q1'⟩ := dS_of q1
  clear q1; have q1 := q1'
  obtain ⟨p, xs, rfl, hs, hd⟩ : ∃ p xs, v1 = .ref p ∧ (SqT Γ.K H1 p xs ∨ SqL Γ.K H1 p xs) ∧ DqAll Γ.K F1 xs us := by
    rcases hx with rfl | rfl
    · cases r1 with | lst hs ha => exact ⟨_, _, rfl, .inr (.of (E1.s1 _ _ hs)), ha⟩
    · cases r1 with | tup hs ha => exact ⟨_, _, rfl, .inl (Same.tup E1.s1 hs), ha⟩
  refine ⟨p, xs, rfl, hs, ?_⟩
  exact d2 f F1 H1 σ ρ1 _ _ Xx E1 q1 (fun ys ρ2 F2 H2 vs q2 E2 s2 r2 => o _ _ _ _ _ q2 E2 (s1.trans s2) (RpAll.app (DqAll.rp (DqAll.same s2 us hd)) r2)) ox
theorem de_tup {as : AA} (hpe : ∀ {ta : TA}, PA X es ta → PE X e (tTup ta)) {ta : TA} (h1 : DA Γ X W es ta as) : DE Γ X W e (tTup ta) (eTup as) := by
  obtain ⟨p1, d1⟩ := h1
  refine ⟨hpe p1, fun f F H σ ρ Q R Xx E q o ox => ?_⟩
  refine d1 f F H σ ρ _ _ Xx E q (fun xs ρ1 F1 H1 vs q1 E1 s1 r1 => ?_) ox
  obtain ⟨ds, rfl, hz, q1'⟩ := dAll_of q1
  clear q1; have q1 := q1'
  have hd := r1.dq
  refine ⟨by rw [hd.len]; exact hz, fun p np => ?_⟩
  have nF := E1.fnone np
  exact o _ _ _ _ _ q1 (E1.alloc np) (s1.trans (same_updF nF)) (.tup (.of upd_same) (DqAll.same (same_updF nF) ds hd))
/-- a new list -/
theorem own_new {ds : List PyData} {xs : List V} {p : Addr} (E : Ent Γ f F H σ ρ) (hd : DqAll Γ.K F xs ds) (np : H p = none) : Own1 Γ f F (upd H p (.lst xs)) σ ρ p xs ds :=
  ⟨upd_same, E.fnone np, hd, E.liv p np, E.notOwn np, fun z => E.rl p z np⟩
theorem dl_disp {as : AA} (hpe : ∀ {ta : TA}, PA X es ta → PE X e (tLst ta)) {ta : TA} (h1 : DA Γ X W es ta as) : DL Γ X W e (tLst ta) (lDisp as) := by
  obtain ⟨p1, d1⟩ := h1
  refine ⟨hpe p1, fun f F H σ ρ Q R Xx E q o ox => ?_⟩
  refine d1 f F H σ ρ _ _ Xx E q (fun xs ρ1 F1 H1 vs q1 E1 s1 r1 => ?_) ox
  obtain ⟨ds, rfl, hz, q1'⟩ := dAll_of q1
  clear q1; have q1 := q1'
  have hd := r1.dq
  exact ⟨by rw [hd.len]; exact hz, fun p np => o _ _ _ _ _ _ q1 (E1.raw np) s1 (own_new E1 hd np)⟩
theorem de_fz {l : LL} {t : TE} (h : DL Γ X W e t l) : DE Γ X W e t (eFz l) := by
  obtain ⟨p1, d1⟩ := h
  refine ⟨p1, fun f F H σ ρ Q R Xx E q o ox => ?_⟩
  refine d1 f F H σ ρ _ _ Xx E q (fun ds ρ1 F1 H1 a xs q1 E1 s1 w => ?_) ox
  exact o _ _ _ _ _ q1 (E1.fz w.hF w.hH (.inl w.h0) w.hO w.hR) (s1.trans (same_updF w.hF)) (.lst upd_same (DqAll.same (same_updF w.hF) ds w.hD))
theorem dl_cat (hpe : ∀ {ta tb : TE}, PE X e1 ta → PE X e2 tb → PE X e (tOp rCat ta tb)) {ta : TE} (h1 : DE Γ X W e1 ta a) {tb : TE} (h2 : DE Γ X W e2 tb b) : DL Γ X W e (tOp rCat ta tb) (lCat a b) := by
  obtain ⟨p1, d1⟩ := h1
  obtain ⟨p2, d2⟩ := h2
  refine ⟨hpe p1 p2, fun f F H σ ρ Q R Xx E q o ox => ?_⟩
  refine d1 f F H σ ρ _ _ Xx E q (fun x ρ1 F1 H1 v1 q1 E1 s1 r1 => ?_) ox
  refine d2 f F1 H1 σ ρ1 _ _ Xx E1 q1 (fun y ρ2 F2 H2 v2 q2 E2 s2 r2 => ?_) ox
  obtain ⟨u, rfl, q2'⟩ := dL_of q2
  clear q2; have q2 := q2'
  obtain ⟨w, rfl, hz, q2'⟩ := dL_of q2
  clear q2; have q2 := q2'
  cases r1 with
  | lst hs ha =>
    cases r2 with
    | lst hs' ha' =>
      refine ⟨_, _, _, _, rfl, rfl, E2.s1 _ _ (s2 _ _ hs), E2.s1 _ _ hs', by rw [ha.len, ha'.len]; exact hz, fun p np => ?_⟩
      exact o _ _ _ _ _ _ q2 (E2.raw np) (s1.trans s2) (own_new E2 ((DqAll.same s2 u ha).app ha') np)
def rListOf (K : PySem.W.Frag) : List V → Hp → VK → Prop := fun xs H Q => ∃ p ys, xs = [V.ref p] ∧ (SqL K H p ys ∨ SqT K H p ys) ∧ ∀ l, H l = none → Q (.ref l) (upd H l (.lst ys))
theorem dl_of (hpe : ∀ {ta : TE}, PE X e1 ta → PE X e (tCB (rListOf Γ.K) (tCons ta tNil))) {ta : TE} (h1 : DE Γ X W e1 ta a) : DL Γ X W e (tCB (rListOf Γ.K) (tCons ta tNil)) (lOf a) := by
  obtain ⟨p1, d1⟩ := h1
  refine ⟨hpe p1, fun f F H σ ρ Q R Xx E q o ox => ?_⟩
  refine d1 f F H σ ρ _ _ Xx E q (fun x ρ1 F1 H1 v1 q1 E1 s1 r1 => ?_) ox
  obtain ⟨us, hx, q1'⟩ := dS_of q1
  clear q1; have q1 := q1'
  obtain ⟨p, xs, rfl, hs, hd⟩ : ∃ p xs, v1 = .ref p ∧ (SqL Γ.K H1 p xs ∨ SqT Γ.K H1 p xs) ∧ DqAll Γ.K F1 xs us := by
    rcases hx with rfl | rfl
    · cases r1 with | lst hs ha => exact ⟨_, _, rfl, .inl (.of (E1.s1 _ _ hs)), ha⟩
    · cases r1 with | tup hs ha => exact ⟨_, _, rfl, .inr (Same.tup E1.s1 hs), ha⟩
  exact ⟨p, xs, rfl, hs, fun l nl => o _ _ _ _ _ _ q1 (E1.raw nl) s1 (own_new E1 hd nl)⟩
/-- an optional part of a slice -/
def DO (Γ : Gx) (X : Cx) (W : WX) (e : Option Expr) (t : TO) (ε : Option EE) : Prop := PO X e t ∧ ∀ f F H σ ρ (Q : Option Int → Hp → Prop) (R : Option Int → List Sl → Prop) Xx, Ent Γ f F H σ ρ → dO ε ρ R Xx → (∀ o ρ' F' H', R o ρ' → Ent Γ f F' H' σ ρ' → Same F F' → Q o H') → OutX Γ f W σ Xx → t σ H Q
theorem do_none (h : PO X none tNoPart) : DO Γ X W none tNoPart none := ⟨h, fun f F H σ ρ Q R Xx E q o ox => o _ _ _ _ q E (Same.refl _)⟩
theorem do_some (hpe : ∀ {ta : TE}, PE X e ta → PO X (some e) (tPart ta)) {ta : TE} (h1 : DE Γ X W e ta a) : DO Γ X W (some e) (tPart ta) (some a) := by
  obtain ⟨p1, d1⟩ := h1
  refine ⟨hpe p1, fun f F H σ ρ Q R Xx E q o ox => ?_⟩
  refine d1 f F H σ ρ _ _ Xx E q (fun x ρ1 F1 H1 v1 q1 E1 s1 r1 => ?_) ox
  obtain ⟨k, rfl, q1'⟩ := dI_of q1
  clear q1; have q1 := q1'
  cases r1
  exact ⟨k, rfl, o _ _ _ _ q1 E1 s1⟩
theorem dl_sl {l h : Option Expr} {lo hi : Option EE} (hpe : ∀ {ta : TE} {tl th : TO}, PE X e1 ta → PO X l tl → PO X h th → PE X e (tSl (rSlL Γ.K) ta tl th)) {ta : TE} (h1 : DE Γ X W e1 ta a) {tl : TO} (h2 : DO Γ X W l tl lo) {th : TO} (h3 : DO Γ X W h th hi) : DL Γ X W e (tSl (rSlL Γ.K) ta tl th) (lSl a lo hi) := by
  obtain ⟨p1, d1⟩ := h1
  obtain ⟨p2, d2⟩ := h2
  obtain ⟨p3, d3⟩ := h3
  refine ⟨hpe p1 p2 p3, fun f F H σ ρ Q R Xx E q o ox => ?_⟩
  refine d1 f F H σ ρ _ _ Xx E q (fun x ρ1 F1 H1 v1 q1 E1 s1 r1 => ?_) ox
  obtain ⟨us, rfl, q1'⟩ := dL_of q1
  clear q1; have q1 := q1'
  refine d2 f F1 H1 σ ρ1 _ _ Xx E1 q1 (fun lo' ρ2 F2 H2 q2 E2 s2 => ?_) ox
  refine d3 f F2 H2 σ ρ2 _ _ Xx E2 q2 (fun hi' ρ3 F3 H3 q3 E3 s3 => ?_) ox
  cases r1 with
  | lst hs ha =>
    have s23 := s2.trans s3
    refine ⟨_, _, rfl, .of (E3.s1 _ _ (s23 _ _ hs)), fun p np => ?_⟩
    exact o _ _ _ _ _ _ q3 (E3.raw np) (s1.trans s23) (own_new E3 ((DqAll.same s23 us ha).cut _ _) np)
/-- a built-in by values -/
def CallD (Γ : Gx) (r : List V → Hp → VK → Prop) (p : PL) : Prop := ∀ f F H σ ρ vs xs Q R, Ent Γ f F H σ ρ → RpAll Γ F vs xs → p xs R → (∀ d v F' H', R d → Ent Γ f F' H' σ ρ → Same F F' → Dq Γ.K F' v d → Q v H') → r vs H Q
theorem de_cb {r : List V → Hp → VK → Prop} {p : PL} {as : AA} (hp : CallD Γ r p) (hpe : ∀ {ta : TA}, PA X es ta → PE X e (tCB r ta)) {ta : TA} (h1 : DA Γ X W es ta as) : DE Γ X W e (tCB r ta) (eCB p as) := by
  obtain ⟨p1, d1⟩ := h1
  refine ⟨hpe p1, fun f F H σ ρ Q R Xx E q o ox => ?_⟩
  refine d1 f F H σ ρ _ _ Xx E q (fun xs ρ1 F1 H1 vs q1 E1 s1 r1 => ?_) ox
  exact hp f F1 H1 σ ρ1 vs xs Q _ E1 r1 q1 fun d v F' H' rd E' s' hd => o _ _ _ _ _ rd E' (s1.trans s') hd
theorem de_lenN (hpe : PE X e (tCB (fun xs H Q => ∃ p ys, xs = [V.ref p] ∧ (SqL Γ.K H p ys ∨ SqT Γ.K H p ys) ∧ Q (.int ys.length) H) (tCons (tVar i) tNil))) : DE Γ X W e (tCB (fun xs H Q => ∃ p ys, xs = [V.ref p] ∧ (SqL Γ.K H p ys ∨ SqT Γ.K H p ys) ∧ Q (.int ys.length) H) (tCons (tVar i) tNil)) (eLenN i) := by
  refine ⟨hpe, fun f F H σ ρ Q R Xx E q o ox => ?_⟩
  unfold eLenN at q
  split at q
  · rename_i ds hx
    obtain ⟨a, xs, e1, e2, e3, e4, e5⟩ := E.sl i _ hx
    refine ⟨.ref a, e1, a, xs, rfl, .inl (.of e2), ?_⟩
    rw [e3.len]
    exact o _ _ _ _ _ q E (Same.refl _) (.int _)
  · rename_i x hx
    obtain ⟨u, hu, hr⟩ := E.sl i _ hx
    refine ⟨u, hu, ?_⟩
    unfold pLen at q
    split at q
    · cases hr with
      | lst hs ha => exact ⟨_, _, rfl, .inl (.of (E.s1 _ _ hs)), by rw [ha.len]; exact o _ _ _ _ _ q E (Same.refl _) (.int _)⟩
    · cases hr with
      | tup hs ha => exact ⟨_, _, rfl, .inr (Same.tup E.s1 hs), by rw [ha.len]; exact o _ _ _ _ _ q E (Same.refl _) (.int _)⟩
    · obtain ⟨p, rfl, hs⟩ := hr
      exact ⟨_, _, rfl, .inl (E.s1.seq hs), by rw [List.length_map]; exact o _ _ _ _ _ q E (Same.refl _) (.int _)⟩
    · exact q.elim
  · exact q.elim
theorem de_chain {r r' : R2} {p p' : P2} (hp : OpD Γ r p) (hp' : OpD Γ r' p') (hpe : ∀ {ta tb tc : TE}, PE X e1 ta → PE X e2 tb → PE X e3 tc → PE X e (tChain r r' ta tb tc)) {ta : TE} (h1 : DE Γ X W e1 ta a) {tb : TE} (h2 : DE Γ X W e2 tb b) {tc : TE} (h3 : DE Γ X W e3 tc c) : DE Γ X W e (tChain r r' ta tb tc) (eChain p p' a b c) := by
  obtain ⟨p1, d1⟩ := h1
  obtain ⟨p2, d2⟩ := h2
  obtain ⟨p3, d3⟩ := h3
  refine ⟨hpe p1 p2 p3, fun f F H σ ρ Q R Xx E q o ox => ?_⟩
  refine d1 f F H σ ρ _ _ Xx E q (fun x ρ1 F1 H1 v1 q1 E1 s1 r1 => ?_) ox
  refine d2 f F1 H1 σ ρ1 _ _ Xx E1 q1 (fun y ρ2 F2 H2 v2 q2 E2 s2 r2 => ?_) ox
  obtain ⟨u, rfl, q2'⟩ := dD_of q2
  clear q2; have q2 := q2'
  obtain ⟨w, rfl, q2'⟩ := dD_of q2
  clear q2; have q2 := q2'
  refine hp f F2 H2 σ ρ2 v1 v2 u w _ _ E2 (Dq.same s2 u r1) r2 q2 fun d v F' H' rd E' s' hd => ?_
  obtain ⟨k, ek, rd'⟩ := dB_of rd
  clear rd; have rd := rd'
  cases ek
  cases hd
  refine ⟨k, rfl, ?_⟩
  cases k with
  | false => exact o _ _ _ _ _ rd E' ((s1.trans s2).trans s') (.bl _)
  | true =>
    refine d3 f F' H' σ ρ2 _ _ Xx E' rd (fun z ρ3 F3 H3 v3 q3 E3 s3 r3 => ?_) ox
    obtain ⟨v', rfl, q3'⟩ := dD_of q3
    clear q3; have q3 := q3'
    exact hp' f F3 H3 σ ρ3 v2 v3 w v' _ _ E3 (Dq.same (s'.trans s3) w r2) r3 q3 fun d v F' H' rd E' s'' hd => o _ _ _ _ _ rd E' ((((s1.trans s2).trans s').trans s3).trans s'') hd
theorem ixSK {K : PySem.W.Frag} (h : X.K = K) : IxR X (rIx K) := h ▸ ix_seq
theorem slLK {K : PySem.W.Frag} (h : X.K = K) : L2.SlR X (rSlL K) := h ▸ sl_list
end
end Cc

set_option Elab.async false
set_option linter.all false
set_option maxRecDepth 100000
set_option maxHeartbeats 4000000
/-! The pure layer: statements. -/
namespace Cc
open PySem PySem.Spec PyProof.Rows L2
structure EndsP where
  nx : List Sl → Prop
  rt : A → List Sl → Prop
  bk : List Sl → Prop
  ct : List Sl → Prop
  ex : XX
abbrev SS := List Sl → EndsP → Prop
abbrev GG := A → List Sl → (List Sl → Prop) → Prop
abbrev GGs := List PyData → List Sl → (List Sl → Prop) → Prop
abbrev II := List Sl → (List A → List Sl → Prop) → XX → Prop
structure OutS (Γ : Gx) (f : Fr) (W : WX) (F : Hp) (P : EndsP) (D : Ends) : Prop where
  nx : ∀ σ ρ F' H', P.nx ρ → Ent Γ f F' H' σ ρ → Same F F' → D.nx σ H'
  rt : ∀ x σ ρ F' H' v, P.rt x ρ → Ent Γ f F' H' σ ρ → Same F F' → Rp Γ F' v x → D.rt v H'
  bk : ∀ σ ρ F' H', P.bk ρ → Ent Γ f F' H' σ ρ → Same F F' → D.bk σ H'
  ct : ∀ σ ρ F' H', P.ct ρ → Ent Γ f F' H' σ ρ → Same F F' → D.ct σ H'
  ex : ∀ σ, OutX Γ f W σ P.ex
def DenS (Γ : Gx) (W : WX) (t : TS) (κ : SS) : Prop := ∀ f F H σ ρ P D, Ent Γ f F H σ ρ → κ ρ P → OutS Γ f W F P D → t D σ H
def DS (Γ : Gx) (X : Cx) (W : WX) (st : Stmt) (t : TS) (κ : SS) : Prop := PS X st t ∧ DenS Γ W t κ
def DSs (Γ : Gx) (X : Cx) (W : WX) (st : List Stmt) (t : TS) (κ : SS) : Prop := PSs X st t ∧ DenS Γ W t κ
def DenG (Γ : Gx) (g : TG) (γ : GG) (gs : List Nat) : Prop := ∀ f F H σ ρ v x (Q : L2.St → Hp → Prop) R, Ent Γ f F H σ ρ → Rp Γ F v x → γ x ρ R → (∀ σ' ρ' F' H', R ρ' → Ent Γ f F' H' σ' ρ' → Same F F' → σ'.length = σ.length → (∀ j, j ∉ gs → σ'[j]? = σ[j]?) → Q σ' H') → g v σ H Q
def DenGs (Γ : Gx) (g : TGs) (γ : GGs) (gs : List Nat) : Prop := ∀ f F H σ ρ vs xs (Q : L2.St → Hp → Prop) R, Ent Γ f F H σ ρ → DqAll Γ.K F vs xs → γ xs ρ R → (∀ σ' ρ' F' H', R ρ' → Ent Γ f F' H' σ' ρ' → Same F F' → σ'.length = σ.length → (∀ j, j ∉ gs → σ'[j]? = σ[j]?) → Q σ' H') → g vs σ H Q
def DG (Γ : Gx) (X : Cx) (e : Expr) (t : TG) (γ : GG) (gs : List Nat) : Prop := PG X e t ∧ DenG Γ t γ gs
def DGs (Γ : Gx) (X : Cx) (e : List Expr) (t : TGs) (γ : GGs) (gs : List Nat) : Prop := PGs X e t ∧ DenGs Γ t γ gs
/-- an iterator gives xs -/
structure JOk (Γ : Gx) (F : Hp) (J : It) (xs : List A) : Prop where
  go : ∀ i H, Same F H → i < xs.length → J.go i H
  stop : ∀ i H, Same F H → xs.length ≤ i → J.stop i H
  yld : ∀ i H v H', Same F H → i < xs.length → J.yld i H v H' → ∃ x, xs[i]? = some x ∧ ((H' = H ∧ Rp Γ F v x) ∨ ∃ T o, H T = none ∧ H' = upd H T o ∧ smpl o ∧ ∀ F', Same F F' → F' T = none → Rp Γ (upd F' T o) v x)
def DenI (Γ : Gx) (W : WX) (wi : TI) (ι : II) : Prop := ∀ f F H σ ρ (G : It → Hp → Prop) R Xx, Ent Γ f F H σ ρ → ι ρ R Xx → (∀ xs ρ' F' H' J, R xs ρ' → Ent Γ f F' H' σ ρ' → Same F F' → JOk Γ F' J xs → G J H') → OutX Γ f W σ Xx → wi σ H G
def DI (Γ : Gx) (X : Cx) (W : WX) (tg e : Expr) (t : TI) (ι : II) : Prop := PI X tg e t ∧ DenI Γ W t ι

/-! ### meanings -/
def sSeq (a b : SS) : SS := fun ρ P => a ρ { P with nx := fun ρ1 => b ρ1 P }
def sNext : SS := fun ρ P => P.nx ρ
def sBrk : SS := fun ρ P => P.bk ρ
def sCnt : SS := fun ρ P => P.ct ρ
def sAsg (e : EE) (g : GG) : SS := fun ρ P => e ρ (fun x ρ1 => g x ρ1 P.nx) P.ex
def sSetO (i : Nat) (l : LL) : SS := fun ρ P => l ρ (fun ds ρ1 => P.nx (ρ1.set i (.own ds))) P.ex
def gNm (i : Nat) : GG := fun x ρ R => R (ρ.set i (.a x))
def gTp (n : Nat) (g : GGs) : GG := fun x ρ R => dD x fun d => match d with | .tuple ds => ds.length = n ∧ g ds ρ R | _ => False
def gsNil : GGs := fun ds ρ R => match ds with | [] => R ρ | _ => False
def gsCons (g : GG) (h : GGs) : GGs := fun ds ρ R => match ds with | d :: ds => g (.d d) ρ fun ρ1 => h ds ρ1 R | [] => False
def gSubO (i : Nat) (e : EE) : GG := fun x ρ R => dD x fun d => (∃ ds, ρ[i]? = some (.own ds)) ∧ e ρ (fun y ρ1 => dI y fun k => match ρ1[i]? with | some (.own ds) => ∃ j, ixN ds.length k = some j ∧ R (ρ1.set i (.own (ds.set j d))) | _ => False) (fun _ _ _ => False)
def sPar (i j : Nat) (as : AA) : SS := fun ρ P => as ρ (fun xs ρ1 => match xs with | [x, y] => P.nx ((ρ1.set i (.a x)).set j (.a y)) | _ => False) P.ex
def sAug (i : Nat) (g : Int → Int → Int) (e : EE) : SS := fun ρ P => match ρ[i]? with
  | some (.a x) => dI x fun a => e ρ (fun y ρ1 => dI y fun b => P.nx (ρ1.set i (.a (.d (.int (g a b)))))) P.ex
  | _ => False
def sExpr (e : EE) : SS := fun ρ P => e ρ (fun _ ρ1 => P.nx ρ1) P.ex
def sApp (i : Nat) (e : EE) : SS := fun ρ P => (∃ ds, ρ[i]? = some (.own ds)) ∧ e ρ (fun y ρ1 => dD y fun d => match ρ1[i]? with | some (.own ds) => szL (ds.length + 1) ∧ P.nx (ρ1.set i (.own (ds ++ [d]))) | _ => False) P.ex
def sExt (i : Nat) (e : EE) : SS := fun ρ P => (∃ ds, ρ[i]? = some (.own ds)) ∧ e ρ (fun y ρ1 => dL y fun es => match ρ1[i]? with | some (.own ds) => szL (ds.length + es.length) ∧ P.nx (ρ1.set i (.own (ds ++ es))) | _ => False) P.ex
def sIf (t : BB) (a b : SS) : SS := fun ρ P => t ρ (fun c ρ1 => if c = true then a ρ1 P else b ρ1 P) P.ex
def sRet (e : EE) : SS := fun ρ P => e ρ P.rt P.ex
def sRetN : SS := fun ρ P => P.rt (.d .none) ρ
/-- what is left of a loop over xs -/
def LoopP (xs : List A) (g : GG) (b : SS) (P : EndsP) (ρ : List Sl) : Prop := ∃ Inv : Nat → List Sl → Prop, Inv 0 ρ ∧ (∀ i x ρ1, xs[i]? = some x → Inv i ρ1 → g x ρ1 fun ρ2 => b ρ2 { P with nx := Inv (i + 1), ct := Inv (i + 1), bk := P.nx }) ∧ ∀ ρ1, Inv xs.length ρ1 → P.nx ρ1
def sFor (ι : II) (g : GG) (b : SS) : SS := fun ρ P => ι ρ (fun xs ρ1 => LoopP xs g b P ρ1) P.ex
def WhileP (t : BB) (b : SS) (P : EndsP) (ρ : List Sl) : Prop := ∃ Inv : Nat → List Sl → Prop, (∃ m, Inv m ρ) ∧ ∀ m ρ1, Inv m ρ1 → t ρ1 (fun c ρ2 => if c = true then b ρ2 { P with nx := fun ρ3 => ∃ m', m' < m ∧ Inv m' ρ3, ct := fun ρ3 => ∃ m', m' < m ∧ Inv m' ρ3, bk := P.nx } else P.nx ρ2) P.ex
def sWhile (t : BB) (b : SS) : SS := fun ρ P => WhileP t b P ρ
def iSeq (e : EE) : II := fun ρ R Xx => e ρ (fun x ρ1 => match x with
  | .d (.list ds) => R (ds.map A.d) ρ1
  | .scr ns => R (ns.map fun n => A.d (.int n)) ρ1
  | _ => False) Xx
def iTp (e : EE) : II := fun ρ R Xx => e ρ (fun x ρ1 => match x with
  | .d (.tuple ds) => R (ds.map A.d) ρ1
  | _ => False) Xx
def rngA (lo : Int) (n : Nat) : List A := (List.range n).map fun i => A.d (.int (lo + (i : Nat)))
def iR1 (e : EE) : II := fun ρ R Xx => e ρ (fun x ρ1 => dI x fun k => -(2 ^ 62) ≤ k ∧ k < 2 ^ 62 ∧ R (rngA 0 k.toNat) ρ1) Xx
def iR2 (e e' : EE) : II := fun ρ R Xx => e ρ (fun x ρ1 => e' ρ1 (fun y ρ2 => dI x fun i => dI y fun j => (-(2 ^ 62) ≤ i ∧ i < 2 ^ 62 ∧ -(2 ^ 62) ≤ j ∧ j < 2 ^ 62) ∧ R (rngA i (j - i).toNat) ρ2) Xx) Xx
def enA (ds : List PyData) : List A := ds.mapIdx fun i d => A.d (.tuple [.int (i : Nat), d])
def iEn (e : EE) : II := fun ρ R Xx => e ρ (fun x ρ1 => dL x fun ds => R (enA ds) ρ1) Xx
def zipA (ds es : List PyData) : List A := (List.zip ds es).map fun p => A.d (.tuple [p.1, p.2])
def iZp (e e' : EE) : II := fun ρ R Xx => e ρ (fun x ρ1 => e' ρ1 (fun y ρ2 => match x, y with
  | .d (.list ds), .d (.list es) => R (zipA ds es) ρ2
  | .d (.tuple ds), .d (.tuple es) => R (zipA ds es) ρ2
  | _, _ => False) Xx) Xx
def wipeP (ρ : List Sl) : List Nat → List Sl
  | [] => ρ
  | v :: vs => (wipeP ρ vs).set v .un
def plainS : Option Sl → Prop
  | some .un => True
  | some (.a _) => True
  | none => True
  | _ => False
def restP (ρ0 : List Sl) : List Nat → List Sl → List Sl
  | [], ρ => ρ
  | v :: vs, ρ => restP ρ0 vs (ρ.set v (ρ0[v]?.getD .un))
def noX : XX := fun _ _ _ => False
def LcP (xs : List A) (g : GG) (t : BB) (e : EE) (vs : List Nat) (R : List PyData → List Sl → Prop) (ρ : List Sl) : Prop := (∀ v ∈ vs, plainS ρ[v]?) ∧ ∃ Inv : Nat → List PyData → List Sl → Prop, Inv 0 [] (wipeP ρ vs) ∧
  (∀ i x acc ρ1, xs[i]? = some x → Inv i acc ρ1 → g x ρ1 fun ρ2 => t ρ2 (fun b ρ3 => if b = true then e ρ3 (fun y ρ4 => dD y fun d => szL (acc.length + 1) ∧ Inv (i + 1) (acc ++ [d]) (wipeP ρ4 vs)) noX else Inv (i + 1) acc (wipeP ρ3 vs)) noX) ∧
  ∀ acc ρ1, Inv xs.length acc ρ1 → R acc (restP ρ vs ρ1)
def lLc (ι : II) (g : GG) (t : BB) (e : EE) (vs : List Nat) : LL := fun ρ R Xx => ι ρ (fun xs ρ1 => LcP xs g t e vs R ρ1) Xx
def bYes : BB := fun ρ R _ => R true ρ

section
variable {Γ : Gx} {X : Cx} {W : WX} {f : Fr} {F H F' H' : Hp} {σ σ' : L2.St} {ρ ρ' : List Sl} {x : A} {v : V} {d : PyData} {e e1 e2 e3 tg : Expr} {a b c : EE} {i j : Nat} {es : List Expr} {pos : Pos} {st : Stmt} {sts sts' : List Stmt} {k k' : SS} {t : BB} {g : GG} {gs : List Nat} {l : LL} {P : EndsP} {D : Ends}
theorem OutS.sub (o : OutS Γ f W F P D) (s : Same F F') : OutS Γ f W F' P D :=
  ⟨fun σ ρ F1 H1 p E q => o.nx σ ρ F1 H1 p E (s.trans q), fun x σ ρ F1 H1 v p E q r => o.rt x σ ρ F1 H1 v p E (s.trans q) r, fun σ ρ F1 H1 p E q => o.bk σ ρ F1 H1 p E (s.trans q), fun σ ρ F1 H1 p E q => o.ct σ ρ F1 H1 p E (s.trans q), o.ex⟩
theorem dss_one (hpe : ∀ {t : TS}, PS X st t → PSs X [st] t) {t : TS} (h : DS Γ X W st t k) : DSs Γ X W [st] t k := by
  obtain ⟨p, d⟩ := h
  exact ⟨hpe p, d⟩
theorem dss_nil (hpe : PSs X [] tNext) : DSs Γ X W [] tNext sNext := ⟨hpe, fun f F H σ ρ P D E q o => o.nx _ _ _ _ q E (Same.refl _)⟩
theorem dss_cons (hpe : ∀ {t u : TS}, PS X st t → PSs X sts u → PSs X (st :: sts) (tSeq t u)) {t : TS} (h : DS Γ X W st t k) {u : TS} (h' : DSs Γ X W sts u k') : DSs Γ X W (st :: sts) (tSeq t u) (sSeq k k') := by
  obtain ⟨p, d⟩ := h
  obtain ⟨p', d'⟩ := h'
  refine ⟨hpe p p', fun f F H σ ρ P D E q o => ?_⟩
  exact d f F H σ ρ { P with nx := fun ρ1 => k' ρ1 P } { D with nx := u D } E q ⟨fun σ1 ρ1 F1 H1 q1 E1 s1 => d' f F1 H1 σ1 ρ1 P D E1 q1 (o.sub s1), o.rt, o.bk, o.ct, o.ex⟩
theorem ds_pass (hpe : PS X st tNext) : DS Γ X W st tNext sNext := ⟨hpe, fun f F H σ ρ P D E q o => o.nx _ _ _ _ q E (Same.refl _)⟩
theorem ds_brk (hpe : PS X st tBreak) : DS Γ X W st tBreak sBrk := ⟨hpe, fun f F H σ ρ P D E q o => o.bk _ _ _ _ q E (Same.refl _)⟩
theorem ds_cnt (hpe : PS X st tCont) : DS Γ X W st tCont sCnt := ⟨hpe, fun f F H σ ρ P D E q o => o.ct _ _ _ _ q E (Same.refl _)⟩
theorem den_gName : DenG Γ (gName i) (gNm i) [i] := fun f F H σ ρ v x Q R E r q o => by
  refine o _ _ F H q (E.setA r) (Same.refl _) (List.length_set ..) fun j hj => ?_
  rw [List.getElem?_set_ne]
  simpa [eq_comm] using hj
theorem dg_name (hpe : PG X e (gName i)) : DG Γ X e (gName i) (gNm i) [i] := ⟨hpe, den_gName⟩
theorem dgs_nil (hpe : PGs X [] gNil) : DGs Γ X [] gNil gsNil [] := ⟨hpe, fun f F H σ ρ vs xs Q R E r q o => by
  cases xs with
  | nil => cases r; exact ⟨rfl, o _ _ F H q E (Same.refl _) rfl fun _ _ => rfl⟩
  | cons d ds => exact q.elim⟩
theorem dgs_cons {γ : GG} {γs : GGs} {gs' : List Nat} (hpe : ∀ {g : TG} {g' : TGs}, PG X e g → PGs X es g' → PGs X (e :: es) (gCons g g')) {g : TG} {g' : TGs} (h : DG Γ X e g γ gs) (h' : DGs Γ X es g' γs gs') : DGs Γ X (e :: es) (gCons g g') (gsCons γ γs) (gs ++ gs') := by
  obtain ⟨p, d⟩ := h
  obtain ⟨p', d'⟩ := h'
  refine ⟨hpe p p', fun f F H σ ρ vs xs Q R E r q o => ?_⟩
  cases xs with
  | nil => exact q.elim
  | cons y ys =>
    cases r with
    | cons r1 r2 =>
      refine ⟨_, _, rfl, ?_⟩
      refine d f F H σ ρ _ (.d y) _ _ E r1 q fun σ1 ρ1 F1 H1 q1 E1 s1 l1 k1 => ?_
      refine d' f F1 H1 σ1 ρ1 _ ys _ _ E1 (DqAll.same s1 ys r2) q1 fun σ2 ρ2 F2 H2 q2 E2 s2 l2 k2 => ?_
      refine o _ _ _ _ q2 E2 (s1.trans s2) (l2.trans l1) fun j hj => ?_
      rw [List.mem_append, not_or] at hj
      exact (k2 j hj.2).trans (k1 j hj.1)
theorem dg_tup {γs : GGs} {n : Nat} (hpe : ∀ {g : TGs}, PGs X es g → PG X e (gTup Γ.K n g)) {g : TGs} (h : DGs Γ X es g γs gs) : DG Γ X e (gTup Γ.K n g) (gTp n γs) gs := by
  obtain ⟨p, d⟩ := h
  refine ⟨hpe p, fun f F H σ ρ v x Q R E r q o => ?_⟩
  obtain ⟨u, rfl, q'⟩ := dD_of q
  clear q
  cases u <;> try exact False.elim q'
  cases r with
  | tup hs ha => exact ⟨_, _, rfl, Same.tup E.s1 hs, by rw [ha.len]; exact q'.1, d f F H σ ρ _ _ Q R E ha q'.2 o⟩
theorem ds_asg {γ : GG} {te : Expr} (hpe : ∀ {t : TE} {g : TG}, PE X e t → PG X te g → PS X st (tAsg t g)) {t : TE} {g : TG} (h : DE Γ X W e t a) (h' : DG Γ X te g γ gs) : DS Γ X W st (tAsg t g) (sAsg a γ) := by
  obtain ⟨p, d⟩ := h
  obtain ⟨p', d'⟩ := h'
  refine ⟨hpe p p', fun f F H σ ρ P D E q o => ?_⟩
  refine d f F H σ ρ _ _ P.ex E q (fun x ρ1 F1 H1 v1 q1 E1 s1 r1 => ?_) (o.ex σ)
  exact d' f F1 H1 σ ρ1 v1 x _ _ E1 r1 q1 fun σ2 ρ2 F2 H2 q2 E2 s2 _ _ => o.nx _ _ _ _ q2 E2 (s1.trans s2)
theorem ds_set (hpe : ∀ {t : TE}, PE X e t → PS X st (tAsg t (gName i))) {t : TE} (h : DE Γ X W e t a) : DS Γ X W st (tAsg t (gName i)) (sAsg a (gNm i)) := by
  obtain ⟨p, d⟩ := h
  refine ⟨hpe p, fun f F H σ ρ P D E q o => ?_⟩
  refine d f F H σ ρ _ _ P.ex E q (fun x ρ1 F1 H1 v1 q1 E1 s1 r1 => ?_) (o.ex σ)
  exact den_gName f F1 H1 σ ρ1 v1 x _ _ E1 r1 q1 fun σ2 ρ2 F2 H2 q2 E2 s2 _ _ => o.nx _ _ _ _ q2 E2 (s1.trans s2)
theorem ds_setO (hpe : ∀ {t : TE}, PE X e t → PS X st (tAsg t (gName i))) {t : TE} (h : DL Γ X W e t l) : DS Γ X W st (tAsg t (gName i)) (sSetO i l) := by
  obtain ⟨p, d⟩ := h
  refine ⟨hpe p, fun f F H σ ρ P D E q o => ?_⟩
  refine d f F H σ ρ _ _ P.ex E q (fun ds ρ1 F1 H1 a xs q1 E1 s1 w => ?_) (o.ex σ)
  exact o.nx _ _ _ _ q1 (E1.setO w.hH w.hD w.hF (.inl w.h0) w.hO w.hR) s1
theorem ds_par {as : AA} (hpe : ∀ {ta : TA}, PA X es ta → PS X st (tPar i j ta)) {t : TA} (h : DA Γ X W es t as) : DS Γ X W st (tPar i j t) (sPar i j as) := by
  obtain ⟨p, d⟩ := h
  refine ⟨hpe p, fun f F H σ ρ P D E q o => ?_⟩
  refine d f F H σ ρ _ _ P.ex E q (fun xs ρ1 F1 H1 vs q1 E1 s1 r1 => ?_) (o.ex σ)
  match xs, vs, q1, r1 with
  | [x, y], [u, w], q1, r1 => exact ⟨u, w, rfl, o.nx _ _ _ _ q1 ((E1.setA r1.1).setA r1.2.1) s1⟩
  | [_, _], [], _, r1 => exact r1.elim
  | [_, _], [_], _, r1 => exact r1.2.elim
  | [_, _], _ :: _ :: _ :: _, _, r1 => exact r1.2.2.elim
  | [], _, q1, _ => exact q1.elim
  | [_], _, q1, _ => exact q1.elim
  | _ :: _ :: _ :: _, _, q1, _ => exact q1.elim
theorem dg_subO {te : Expr} (hpe : ∀ {t : TE}, PE X e t → PG X te (gSub (tVar i) t rSetL)) {t : TE} (h : DE Γ X (fun _ _ _ _ => False) e t a) : DG Γ X te (gSub (tVar i) t rSetL) (gSubO i a) [] := by
  obtain ⟨p, d⟩ := h
  refine ⟨hpe p, fun f F H σ ρ v x Q R E r q o => ?_⟩
  obtain ⟨u, rfl, q'⟩ := dD_of q
  clear q
  obtain ⟨⟨ds, hi⟩, q⟩ := q'
  obtain ⟨p0, xs, e1, e2, e3, e4, e5⟩ := E.sl i _ hi
  refine ⟨.ref p0, e1, ?_⟩
  refine d f F H σ ρ _ _ noX E q (fun y ρ1 F1 H1 v1 q1 E1 s1 r1 => ?_) (fun _ _ _ _ _ _ _ z => z.elim)
  obtain ⟨k, rfl, q1'⟩ := dI_of q1
  clear q1
  split at q1'
  · rename_i ds' hx'
    obtain ⟨j, hj, q2⟩ := q1'
    obtain ⟨a', xs', f1, f2, f3, f4, f5⟩ := E1.sl i _ hx'
    rw [e1] at f1
    cases f1
    cases r1
    refine ⟨_, _, _, j, rfl, rfl, f2, by rw [f3.len]; exact hj, ?_⟩
    exact o _ _ _ _ q2 (E1.mutO hx' e1 (f3.set (Dq.same s1 u r) j)) s1 rfl fun _ _ => rfl
  · exact q1'.elim
theorem ds_aug {gi : Int → Int → Int} (hpe : ∀ {t : TE}, PE X e t → PS X st (tAug i t (ipI gi))) {t : TE} (h : DE Γ X W e t a) : DS Γ X W st (tAug i t (ipI gi)) (sAug i gi a) := by
  obtain ⟨p, d⟩ := h
  refine ⟨hpe p, fun f F H σ ρ P D E q o => ?_⟩
  unfold sAug at q
  split at q
  · rename_i x hx
    obtain ⟨u, hu, hr⟩ := E.sl i _ hx
    obtain ⟨k, rfl, q'⟩ := dI_of q
    clear q
    cases hr
    refine ⟨_, hu, ?_⟩
    refine d f F H σ ρ _ _ P.ex E q' (fun y ρ1 F1 H1 v1 q1 E1 s1 r1 => ?_) (o.ex σ)
    obtain ⟨k', rfl, q1'⟩ := dI_of q1
    cases r1
    exact ⟨_, _, rfl, rfl, o.nx _ _ _ _ q1' (E1.setA (.int _)) s1⟩
  · exact q.elim
theorem ds_expr (hpe : ∀ {t : TE}, PE X e t → PS X st (tDrop t)) {t : TE} (h : DE Γ X W e t a) : DS Γ X W st (tDrop t) (sExpr a) := by
  obtain ⟨p, d⟩ := h
  refine ⟨hpe p, fun f F H σ ρ P D E q o => ?_⟩
  exact d f F H σ ρ _ _ P.ex E q (fun x ρ1 F1 H1 v1 q1 E1 s1 r1 => o.nx _ _ _ _ q1 E1 s1) (o.ex σ)
theorem ds_app (hpe : ∀ {t : TE}, PE X e t → PS X st (tDrop (tBM Γ.K "list" rAppend (tVar i) (tCons t tNil)))) {t : TE} (h : DE Γ X W e t a) : DS Γ X W st (tDrop (tBM Γ.K "list" rAppend (tVar i) (tCons t tNil))) (sApp i a) := by
  obtain ⟨p, d⟩ := h
  refine ⟨hpe p, fun f F H σ ρ P D E q o => ?_⟩
  obtain ⟨⟨ds, hi⟩, q⟩ := q
  obtain ⟨p0, xs, e1, e2, e3, e4, e5⟩ := E.sl i _ hi
  refine ⟨.ref p0, e1, x_tyL (.of e2), ?_⟩
  refine d f F H σ ρ _ _ P.ex E q (fun y ρ1 F1 H1 v1 q1 E1 s1 r1 => ?_) (o.ex σ)
  obtain ⟨u, rfl, q1'⟩ := dD_of q1
  clear q1
  split at q1'
  · rename_i ds' hx'
    obtain ⟨hz, q2⟩ := q1'
    obtain ⟨a', xs', f1, f2, f3, f4, f5⟩ := E1.sl i _ hx'
    rw [e1] at f1
    cases f1
    refine ⟨_, _, _, rfl, rfl, f2, by rw [f3.len]; exact hz, ?_⟩
    exact o.nx _ _ _ _ q2 (E1.mutO hx' e1 (f3.app (.one r1))) s1
  · exact q1'.elim
theorem ds_ext (hpe : ∀ {t : TE}, PE X e t → PS X st (tDrop (tBM Γ.K "list" rExtend (tVar i) (tCons t tNil)))) {t : TE} (h : DE Γ X W e t a) : DS Γ X W st (tDrop (tBM Γ.K "list" rExtend (tVar i) (tCons t tNil))) (sExt i a) := by
  obtain ⟨p, d⟩ := h
  refine ⟨hpe p, fun f F H σ ρ P D E q o => ?_⟩
  obtain ⟨⟨ds, hi⟩, q⟩ := q
  obtain ⟨p0, xs, e1, e2, e3, e4, e5⟩ := E.sl i _ hi
  refine ⟨.ref p0, e1, x_tyL (.of e2), ?_⟩
  refine d f F H σ ρ _ _ P.ex E q (fun y ρ1 F1 H1 v1 q1 E1 s1 r1 => ?_) (o.ex σ)
  obtain ⟨u, rfl, q1'⟩ := dL_of q1
  clear q1
  split at q1'
  · rename_i ds' hx'
    obtain ⟨hz, q2⟩ := q1'
    obtain ⟨a', xs', f1, f2, f3, f4, f5⟩ := E1.sl i _ hx'
    rw [e1] at f1
    cases f1
    cases r1 with
    | lst hs ha =>
      refine ⟨_, _, _, _, rfl, rfl, f2, E1.s1 _ _ hs, by rw [f3.len, ha.len]; exact hz, ?_⟩
      exact o.nx _ _ _ _ q2 (E1.mutO hx' e1 (f3.app ha)) s1
  · exact q1'.elim
theorem ds_if (hpe : ∀ {t : TT} {ta tb : TS}, PT X e t → PSs X sts ta → PSs X sts' tb → PS X st (tIfS t ta tb)) {tt : TT} (h : DT Γ X W e tt t) {ta : TS} (h1 : DSs Γ X W sts ta k) {tb : TS} (h2 : DSs Γ X W sts' tb k') : DS Γ X W st (tIfS tt ta tb) (sIf t k k') := by
  obtain ⟨p, d⟩ := h
  obtain ⟨p1, d1⟩ := h1
  obtain ⟨p2, d2⟩ := h2
  refine ⟨hpe p p1 p2, fun f F H σ ρ P D E q o => ?_⟩
  refine d f F H σ ρ _ _ P.ex E q (fun c ρ1 F1 H1 q1 E1 s1 => ?_) (o.ex σ)
  cases c with
  | true => exact d1 f F1 H1 σ ρ1 P D E1 q1 (o.sub s1)
  | false => exact d2 f F1 H1 σ ρ1 P D E1 q1 (o.sub s1)
theorem ds_ret (hpe : ∀ {t : TE}, PE X e t → PS X st (tRet t)) {t : TE} (h : DE Γ X W e t a) : DS Γ X W st (tRet t) (sRet a) := by
  obtain ⟨p, d⟩ := h
  refine ⟨hpe p, fun f F H σ ρ P D E q o => ?_⟩
  exact d f F H σ ρ _ _ P.ex E q (fun x ρ1 F1 H1 v1 q1 E1 s1 r1 => o.rt _ _ _ _ _ _ q1 E1 s1 r1) (o.ex σ)
theorem ds_retN (hpe : PS X st tRetN) : DS Γ X W st tRetN sRetN := ⟨hpe, fun f F H σ ρ P D E q o => o.rt _ _ _ _ _ _ q E (Same.refl _) .non⟩
/-! ### what is walked -/
theorem seqL_eq {K : PySem.W.Frag} {F H : Hp} {a : Addr} {xs ys : List V} (h : F a = some (.lst xs)) (s : Same F H) (i : Nat) (x : V) (hx : ∀ ys, SqL K H a ys → ys[i]? = some x) : xs[i]? = some x := hx xs (.of (s _ _ h))
theorem jok_list {a : Addr} {xs : List V} {ds : List PyData} (h : F a = some (.lst xs)) (hd : DqAll Γ.K F xs ds) : JOk Γ F (Itl Γ.K a) (ds.map A.d) where
  go i H s hi := by
    rw [List.length_map, ← hd.len] at hi
    exact ⟨xs, xs[i], .of (s _ _ h), List.getElem?_eq_getElem hi⟩
  stop i H s hi := by
    rw [List.length_map, ← hd.len] at hi
    exact ⟨xs, .of (s _ _ h), hi⟩
  yld i H v H' s hil y := by
    obtain ⟨rfl, y⟩ := y
    obtain ⟨d, hx, hv⟩ := hd.getV (y xs (.of (s _ _ h)))
    exact ⟨.d d, by rw [List.getElem?_map, hx]; rfl, .inl ⟨rfl, hv⟩⟩
theorem jok_tup {a : Addr} {xs : List V} {ds : List PyData} (h : SqT Γ.K F a xs) (hd : DqAll Γ.K F xs ds) : JOk Γ F (Itt Γ.K a) (ds.map A.d) where
  go i H s hi := by
    rw [List.length_map, ← hd.len] at hi
    exact ⟨xs, xs[i], Same.tup s h, List.getElem?_eq_getElem hi⟩
  stop i H s hi := by
    rw [List.length_map, ← hd.len] at hi
    exact ⟨xs, Same.tup s h, hi⟩
  yld i H v H' s hil y := by
    obtain ⟨rfl, y⟩ := y
    obtain ⟨d, hx, hv⟩ := hd.getV (y xs (Same.tup s h))
    exact ⟨.d d, by rw [List.getElem?_map, hx]; rfl, .inl ⟨rfl, hv⟩⟩
theorem jok_scr {a : Addr} {ns : List Int} (h : SqL Γ.K F a (ns.map V.int)) : JOk Γ F (Itl Γ.K a) (ns.map fun n => A.d (.int n)) where
  go i H s hi := by
    rw [List.length_map] at hi
    exact ⟨_, .int ns[i], s.seq h, by rw [List.getElem?_map, List.getElem?_eq_getElem hi]; rfl⟩
  stop i H s hi := by
    rw [List.length_map] at hi
    exact ⟨_, s.seq h, by rw [List.length_map]; exact hi⟩
  yld i H v H' s hil y := by
    obtain ⟨rfl, y⟩ := y
    have e := y _ (s.seq h)
    rw [List.getElem?_map] at e
    obtain ⟨n, hn, rfl⟩ := Option.map_eq_some_iff.mp e
    exact ⟨.d (.int n), by rw [List.getElem?_map, hn]; rfl, .inl ⟨rfl, .int n⟩⟩
theorem rngA_len {lo : Int} {n : Nat} : (rngA lo n).length = n := by unfold rngA; rw [List.length_map, List.length_range]
theorem rngA_get {lo : Int} {n i : Nat} (h : i < n) : (rngA lo n)[i]? = some (.d (.int (lo + (i : Nat)))) := by
  unfold rngA
  rw [List.getElem?_map, List.getElem?_range h]
  rfl
theorem jok_rng {lo : Int} {n : Nat} : JOk Γ F (Itr lo n) (rngA lo n) where
  go i H s hi := by
    rw [rngA_len] at hi
    exact hi
  stop i H s hi := by
    rw [rngA_len] at hi
    exact hi
  yld i H v H' s hil y := by
    obtain ⟨rfl, rfl⟩ := y
    rw [rngA_len] at hil
    exact ⟨_, rngA_get hil, .inl ⟨rfl, .int _⟩⟩
theorem enA_len {ds : List PyData} : (enA ds).length = ds.length := by unfold enA; rw [List.length_mapIdx]
theorem enA_get {ds : List PyData} {i : Nat} {d : PyData} (h : ds[i]? = some d) : (enA ds)[i]? = some (.d (.tuple [.int (i : Nat), d])) := by
  unfold enA
  rw [List.getElem?_mapIdx, h]
  rfl
theorem jok_en {a : Addr} {xs : List V} {ds : List PyData} (h : F a = some (.lst xs)) (hd : DqAll Γ.K F xs ds) : JOk Γ F (Ite Γ.K a) (enA ds) where
  go i H s hi := by
    rw [enA_len, ← hd.len] at hi
    exact ⟨xs, xs[i], .of (s _ _ h), List.getElem?_eq_getElem hi⟩
  stop i H s hi := by
    rw [enA_len, ← hd.len] at hi
    exact ⟨xs, .of (s _ _ h), hi⟩
  yld i H v H' s hil y := by
    obtain ⟨T, x, rfl, nT, rfl, y⟩ := y
    obtain ⟨d, hx, hv⟩ := hd.getV (y xs (.of (s _ _ h)))
    refine ⟨_, enA_get hx, .inr ⟨T, _, nT, rfl, trivial, fun F' sF nF => ?_⟩⟩
    exact .tup (.of upd_same) (.cons (.int _) (.cons (Dq.same (sF.trans (same_updF nF)) d hv) .nil))
theorem zipA_len {ds es : List PyData} : (zipA ds es).length = min ds.length es.length := by unfold zipA; rw [List.length_map, List.length_zip]
theorem zipA_get {ds es : List PyData} {i : Nat} {d u : PyData} (h : ds[i]? = some d) (h' : es[i]? = some u) : (zipA ds es)[i]? = some (.d (.tuple [d, u])) := by
  unfold zipA
  rw [List.getElem?_map, List.getElem?_zip_eq_some (z := (d, u)).mpr ⟨h, h'⟩]
  rfl
theorem jok_zp {a b : Addr} {xs ys : List V} {ds es : List PyData} (h : F a = some (.lst xs)) (hd : DqAll Γ.K F xs ds) (h' : F b = some (.lst ys)) (hd' : DqAll Γ.K F ys es) : JOk Γ F (Itz Γ.K a b) (zipA ds es) where
  go i H s hi := by
    rw [zipA_len, ← hd.len, ← hd'.len] at hi
    exact ⟨xs, ys, xs[i], ys[i], .of (s _ _ h), .of (s _ _ h'), List.getElem?_eq_getElem _, List.getElem?_eq_getElem _⟩
  stop i H s hi := by
    rw [zipA_len, ← hd.len, ← hd'.len] at hi
    exact ⟨xs, ys, .of (s _ _ h), .of (s _ _ h'), by omega⟩
  yld i H v H' s hil y := by
    obtain ⟨T, x, x', rfl, nT, rfl, y, y'⟩ := y
    obtain ⟨d, hx, hv⟩ := hd.getV (y xs (.of (s _ _ h)))
    obtain ⟨u, hx', hv'⟩ := hd'.getV (y' ys (.of (s _ _ h')))
    refine ⟨_, zipA_get hx hx', .inr ⟨T, _, nT, rfl, trivial, fun F' sF nF => ?_⟩⟩
    exact .tup (.of upd_same) (.cons (Dq.same (sF.trans (same_updF nF)) d hv) (.cons (Dq.same (sF.trans (same_updF nF)) u hv') .nil))
theorem jok_zpT {a b : Addr} {xs ys : List V} {ds es : List PyData} (h : SqT Γ.K F a xs) (hd : DqAll Γ.K F xs ds) (h' : SqT Γ.K F b ys) (hd' : DqAll Γ.K F ys es) : JOk Γ F (RZ.ItzT Γ.K a b) (zipA ds es) where
  go i H s hi := by
    rw [zipA_len, ← hd.len, ← hd'.len] at hi
    exact ⟨xs, ys, xs[i], ys[i], Same.tup s h, Same.tup s h', List.getElem?_eq_getElem _, List.getElem?_eq_getElem _⟩
  stop i H s hi := by
    rw [zipA_len, ← hd.len, ← hd'.len] at hi
    exact ⟨xs, ys, Same.tup s h, Same.tup s h', by omega⟩
  yld i H v H' s hil y := by
    obtain ⟨T, x, x', rfl, nT, rfl, y, y'⟩ := y
    obtain ⟨d, hx, hv⟩ := hd.getV (y xs (Same.tup s h))
    obtain ⟨u, hx', hv'⟩ := hd'.getV (y' ys (Same.tup s h'))
    refine ⟨_, zipA_get hx hx', .inr ⟨T, _, nT, rfl, trivial, fun F' sF nF => ?_⟩⟩
    exact .tup (.of upd_same) (.cons (Dq.same (sF.trans (same_updF nF)) d hv) (.cons (Dq.same (sF.trans (same_updF nF)) u hv') .nil))
/-! ### iterators -/
theorem di_list (hpe : ∀ {t : TE}, PE X e t → PI X tg e (iList Γ.K t)) {t : TE} (h : DE Γ X W e t a) : DI Γ X W tg e (iList Γ.K t) (iSeq a) := by
  obtain ⟨p, d⟩ := h
  refine ⟨hpe p, fun f F H σ ρ G R Xx E q o ox => ?_⟩
  refine d f F H σ ρ _ _ Xx E q (fun x ρ1 F1 H1 v1 q1 E1 s1 r1 => ?_) ox
  split at q1
  · cases r1 with
    | lst hs ha => exact ⟨_, rfl, ⟨_, .of (E1.s1 _ _ hs)⟩, o _ _ _ _ _ q1 E1 s1 (jok_list hs ha)⟩
  · obtain ⟨b, rfl, hs⟩ := r1
    exact ⟨_, rfl, ⟨_, E1.s1.seq hs⟩, o _ _ _ _ _ q1 E1 s1 (jok_scr hs)⟩
  · exact q1.elim
theorem di_tup (hpe : ∀ {t : TE}, PE X e t → PI X tg e (iTup Γ.K t)) {t : TE} (h : DE Γ X W e t a) : DI Γ X W tg e (iTup Γ.K t) (iTp a) := by
  obtain ⟨p, d⟩ := h
  refine ⟨hpe p, fun f F H σ ρ G R Xx E q o ox => ?_⟩
  refine d f F H σ ρ _ _ Xx E q (fun x ρ1 F1 H1 v1 q1 E1 s1 r1 => ?_) ox
  split at q1
  · cases r1 with
    | tup hs ha => exact ⟨_, rfl, ⟨_, Same.tup E1.s1 hs⟩, o _ _ _ _ _ q1 E1 s1 (jok_tup hs ha)⟩
  · exact q1.elim
theorem di_r1 (hpe : ∀ {t : TE}, PE X e1 t → PI X tg e (iRng1 (tCons t tNil))) {t : TE} (h : DE Γ X W e1 t a) : DI Γ X W tg e (iRng1 (tCons t tNil)) (iR1 a) := by
  obtain ⟨p, d⟩ := h
  refine ⟨hpe p, fun f F H σ ρ G R Xx E q o ox => ?_⟩
  refine d f F H σ ρ _ _ Xx E q (fun x ρ1 F1 H1 v1 q1 E1 s1 r1 => ?_) ox
  obtain ⟨k, rfl, q2⟩ := dI_of q1
  cases r1
  exact ⟨_, rfl, q2.1, q2.2.1, o _ _ _ _ _ q2.2.2 E1 s1 jok_rng⟩
theorem di_r2 (hpe : ∀ {t u : TE}, PE X e1 t → PE X e2 u → PI X tg e (iRng2 (tCons t (tCons u tNil)))) {t u : TE} (h : DE Γ X W e1 t a) (h' : DE Γ X W e2 u b) : DI Γ X W tg e (iRng2 (tCons t (tCons u tNil))) (iR2 a b) := by
  obtain ⟨p, d⟩ := h
  obtain ⟨p', d'⟩ := h'
  refine ⟨hpe p p', fun f F H σ ρ G R Xx E q o ox => ?_⟩
  refine d f F H σ ρ _ _ Xx E q (fun x ρ1 F1 H1 v1 q1 E1 s1 r1 => ?_) ox
  refine d' f F1 H1 σ ρ1 _ _ Xx E1 q1 (fun y ρ2 F2 H2 v2 q2 E2 s2 r2 => ?_) ox
  obtain ⟨k, rfl, q3⟩ := dI_of q2
  obtain ⟨k', rfl, q4⟩ := dI_of q3
  cases r1
  cases r2
  exact ⟨_, _, rfl, q4.1, o _ _ _ _ _ q4.2 E2 (s1.trans s2) jok_rng⟩
theorem di_en (hpe : ∀ {t : TE}, PE X e1 t → PI X tg e (iEnum Γ.K (tCons t tNil))) {t : TE} (h : DE Γ X W e1 t a) : DI Γ X W tg e (iEnum Γ.K (tCons t tNil)) (iEn a) := by
  obtain ⟨p, d⟩ := h
  refine ⟨hpe p, fun f F H σ ρ G R Xx E q o ox => ?_⟩
  refine d f F H σ ρ _ _ Xx E q (fun x ρ1 F1 H1 v1 q1 E1 s1 r1 => ?_) ox
  obtain ⟨ds, rfl, q2⟩ := dL_of q1
  cases r1 with
  | lst hs ha => exact ⟨_, _, rfl, .of (E1.s1 _ _ hs), o _ _ _ _ _ q2 E1 s1 (jok_en hs ha)⟩
theorem di_zp (hpe : ∀ {t u : TE}, PE X e1 t → PE X e2 u → PI X tg e (RZ.iZipA Γ.K (tCons t (tCons u tNil)))) {t u : TE} (h : DE Γ X W e1 t a) (h' : DE Γ X W e2 u b) : DI Γ X W tg e (RZ.iZipA Γ.K (tCons t (tCons u tNil))) (iZp a b) := by
  obtain ⟨p, d⟩ := h
  obtain ⟨p', d'⟩ := h'
  refine ⟨hpe p p', fun f F H σ ρ G R Xx E q o ox => ?_⟩
  refine d f F H σ ρ _ _ Xx E q (fun x ρ1 F1 H1 v1 q1 E1 s1 r1 => ?_) ox
  refine d' f F1 H1 σ ρ1 _ _ Xx E1 q1 (fun y ρ2 F2 H2 v2 q2 E2 s2 r2 => ?_) ox
  split at q2
  · cases r1 with
    | lst hs ha =>
      cases r2 with
      | lst hs' ha' => exact ⟨_, _, _, _, rfl, .inl ⟨.of (E2.s1 _ _ (s2 _ _ hs)), .of (E2.s1 _ _ hs'), o _ _ _ _ _ q2 E2 (s1.trans s2) (jok_zp (s2 _ _ hs) (DqAll.same s2 _ ha) hs' ha')⟩⟩
  · cases r1 with
    | tup hs ha =>
      cases r2 with
      | tup hs' ha' => exact ⟨_, _, _, _, rfl, .inr ⟨Same.tup (s2.trans E2.s1) hs, Same.tup E2.s1 hs', o _ _ _ _ _ q2 E2 (s1.trans s2) (jok_zpT (Same.tup s2 hs) (DqAll.same s2 _ ha) hs' ha')⟩⟩
  · exact q2.elim
theorem ds_for {ι : II} {γ : GG} (hpe : ∀ {wi : TI} {g : TG} {tb : TS}, PI X tg e wi → PG X tg g → PSs X sts tb → PS X st (tFor wi g tb)) {wi : TI} {g : TG} (h : DI Γ X W tg e wi ι) (hg : DG Γ X tg g γ gs) {tb : TS} (hb : DSs Γ X W sts tb k) : DS Γ X W st (tFor wi g tb) (sFor ι γ k) := by
  obtain ⟨p, d⟩ := h
  obtain ⟨p', d'⟩ := hg
  obtain ⟨p2, d2⟩ := hb
  refine ⟨hpe p p' p2, fun f F H σ ρ P D E q o => ?_⟩
  refine d f F H σ ρ _ _ P.ex E q (fun xs ρ1 F1 H1 J q1 E1 s1 jk => ?_) (o.ex σ)
  obtain ⟨Inv, h0, hs, hd⟩ := q1
  refine ⟨fun i m σ H => m = xs.length - i ∧ i ≤ xs.length ∧ ∃ F ρ, Ent Γ f F H σ ρ ∧ Same F1 F ∧ Inv i ρ, ⟨_, rfl, Nat.zero_le _, F1, ρ1, E1, Same.refl _, h0⟩, ?_⟩
  rintro i m σ1 H2 ⟨rfl, hi, F2, ρ2, E2, s2, inv⟩
  by_cases lt : i < xs.length
  · refine .inr ⟨jk.go i H2 (s2.trans E2.s1) lt, fun σ H => ∃ F ρ, Ent Γ f F H σ ρ ∧ Same F1 F ∧ Inv (i + 1) ρ, fun σ' H' p' => ⟨xs.length - (i + 1), by omega, rfl, lt, p'⟩, fun v H3 y => ?_⟩
    obtain ⟨x, hx, y⟩ := jk.yld i H2 v H3 (s2.trans E2.s1) lt y
    have q3 := hs i x ρ2 hx inv
    obtain ⟨F3, E3, s3, r3⟩ : ∃ F3, Ent Γ f F3 H3 σ1 ρ2 ∧ Same F2 F3 ∧ Rp Γ F3 v x := by
      rcases y with ⟨rfl, r⟩ | ⟨T, oo, nT, rfl, so, r⟩
      · exact ⟨F2, E2, Same.refl _, r.same s2⟩
      · have nF := E2.fnone nT
        exact ⟨_, E2.alloc nT so, same_updF nF, r F2 s2 nF⟩
    refine d' f F3 H3 σ1 ρ2 v x _ _ E3 r3 q3 fun σ4 ρ4 F4 H4 q4 E4 s4 _ _ => ?_
    have s14 := (s2.trans s3).trans s4
    refine d2 f F4 H4 σ4 ρ4 _ _ E4 q4 ⟨fun σ5 ρ5 F5 H5 q5 E5 s5 => ⟨F5, ρ5, E5, s14.trans s5, q5⟩, fun x σ5 ρ5 F5 H5 v q5 E5 s5 r5 => o.rt x _ _ _ _ _ q5 E5 ((s1.trans s14).trans s5) r5, fun σ5 ρ5 F5 H5 q5 E5 s5 => o.nx _ _ _ _ q5 E5 ((s1.trans s14).trans s5), fun σ5 ρ5 F5 H5 q5 E5 s5 => ⟨F5, ρ5, E5, s14.trans s5, q5⟩, o.ex⟩
  · have e : i = xs.length := by omega
    subst e
    exact .inl ⟨jk.stop _ H2 (s2.trans E2.s1) (Nat.le_refl _), o.nx _ _ _ _ (hd ρ2 inv) E2 (s1.trans s2)⟩
theorem ds_while (hpe : ∀ {t : TT} {tb : TS}, PT X e t → PSs X sts tb → PS X st (tWhile t tb)) {tt : TT} (h : DT Γ X W e tt t) {tb : TS} (hb : DSs Γ X W sts tb k) : DS Γ X W st (tWhile tt tb) (sWhile t k) := by
  obtain ⟨p, d⟩ := h
  obtain ⟨p2, d2⟩ := hb
  refine ⟨hpe p p2, fun f F H σ ρ P D E q o => ?_⟩
  obtain ⟨Inv, ⟨m0, h0⟩, hs⟩ := q
  refine ⟨fun m σ H => ∃ F' ρ, Ent Γ f F' H σ ρ ∧ Same F F' ∧ Inv m ρ, ⟨m0, F, ρ, E, Same.refl _, h0⟩, ?_⟩
  rintro m σ1 H1 ⟨F1, ρ1, E1, s1, inv⟩
  refine d f F1 H1 σ1 ρ1 _ _ P.ex E1 (hs m ρ1 inv) (fun c ρ2 F2 H2 q2 E2 s2 => ?_) (o.ex σ1)
  cases c with
  | false => exact o.nx _ _ _ _ q2 E2 (s1.trans s2)
  | true =>
    refine ⟨fun σ H => ∃ F' ρ m', Ent Γ f F' H σ ρ ∧ Same F F' ∧ m' < m ∧ Inv m' ρ, fun σ' H' ⟨F', ρ', m', E', s', lt, i'⟩ => ⟨m', lt, F', ρ', E', s', i'⟩, ?_⟩
    have s12 := s1.trans s2
    exact d2 f F2 H2 σ1 ρ2 _ _ E2 q2 ⟨fun σ5 ρ5 F5 H5 ⟨m', lt, q5⟩ E5 s5 => ⟨F5, ρ5, m', E5, s12.trans s5, lt, q5⟩, fun x σ5 ρ5 F5 H5 v q5 E5 s5 r5 => o.rt x _ _ _ _ _ q5 E5 (s12.trans s5) r5, fun σ5 ρ5 F5 H5 q5 E5 s5 => o.nx _ _ _ _ q5 E5 (s12.trans s5), fun σ5 ρ5 F5 H5 ⟨m', lt, q5⟩ E5 s5 => ⟨F5, ρ5, m', E5, s12.trans s5, lt, q5⟩, o.ex⟩
/-! ### comprehensions -/
theorem wipe_eq {σ' : L2.St} (hl : σ'.length = σ.length) : ∀ (vs : List Nat), (∀ j, j ∉ vs → σ'[j]? = σ[j]?) → wipe σ' vs = wipe σ vs := by
  intro vs h
  apply List.ext_getElem?
  intro j
  have get : ∀ (τ : L2.St) (ws : List Nat) (j : Nat), (wipe τ ws)[j]? = if j ∈ ws then (if j < τ.length then some none else none) else τ[j]? := by
    intro τ ws
    induction ws with
    | nil => intro j; simp [wipe]
    | cons w ws ih =>
      intro j
      show ((wipe τ ws).set w none)[j]? = _
      rw [List.getElem?_set, wipe_length]
      by_cases hj : w = j
      · subst hj
        simp
      · rw [if_neg hj, ih j]
        have : j ∈ w :: ws ↔ j ∈ ws := by simp [eq_comm, hj]
        simp only [this]
  rw [get, get, hl]
  by_cases hj : j ∈ vs
  · rw [if_pos hj, if_pos hj]
  · rw [if_neg hj, if_neg hj, h j hj]
theorem Ent.wiped (E : Ent Γ f F H σ ρ) : ∀ vs : List Nat, Ent Γ f F H (wipe σ vs) (wipeP ρ vs)
  | [] => E
  | v :: vs => (Ent.wiped E vs).setU
theorem Ent.rest {ρ0 : List Sl} {F0 : Hp} (E0 : Ent Γ f F0 H' σ ρ0) (s : Same F0 F) : ∀ (vs : List Nat) {ρ : List Sl}, vs.Nodup → (∀ v ∈ vs, plainS ρ0[v]?) → Ent Γ f F H (wipe σ vs) ρ → Ent Γ f F H σ (restP ρ0 vs ρ)
  | [], ρ, _, _, E => E
  | v :: vs, ρ, hn, hp, E => by
    have hv := List.nodup_cons.mp hn
    refine Ent.rest E0 s vs hv.2 (fun w hw => hp w (List.mem_cons_of_mem _ hw)) ?_
    show Ent Γ f F H (wipe σ vs) (ρ.set v (ρ0[v]?.getD .un))
    have hw : ∀ (τ : L2.St) (ws : List Nat), v ∉ ws → (wipe τ ws)[v]? = τ[v]? := fun τ ws => by
      induction ws with
      | nil => intro _; rfl
      | cons w ws ih =>
        intro h
        rw [List.mem_cons, not_or] at h
        show ((wipe τ ws).set w none)[v]? = _
        rw [List.getElem?_set, if_neg (fun z => h.1 z.symm)]
        exact ih h.2
    have hσ := hw σ vs hv.1
    have pl := hp v List.mem_cons_self
    have E' : Ent Γ f F H ((wipe σ vs).set v none) ρ := E
    by_cases lt : v < (wipe σ vs).length
    · have E1 := E'.put (i := v) (w := (wipe σ vs)[v]) (s := ρ0[v]?.getD .un) (fun ds z => by
        cases h0 : ρ0[v]? with
        | none => rw [h0] at z; cases z
        | some s0 => rw [h0] at z pl; cases z; exact pl) (fun _ => by
        cases h0 : ρ0[v]? with
        | none => trivial
        | some s0 =>
          rw [h0] at pl
          have := E0.sl v s0 h0
          cases s0 with
          | un => trivial
          | own ds => exact pl.elim
          | rng n => exact pl.elim
          | a x =>
            obtain ⟨u, h1, h2⟩ := this
            rw [← hσ, List.getElem?_eq_getElem lt] at h1
            exact ⟨u, h1, h2.same s⟩)
      rwa [List.set_set, set_self (List.getElem?_eq_getElem lt)] at E1
    · rw [List.set_eq_of_length_le (by omega)] at E'
      rw [List.set_eq_of_length_le (by rw [← E'.len]; omega)]
      exact E'
theorem own_wipe : ∀ (vs : List Nat) {b : Addr}, OwnA (wipe σ vs) (wipeP ρ vs) b → OwnA σ ρ b
  | [], b, h => h
  | v :: vs, b, h => by
    rcases own_set (σ := wipe σ vs) (ρ := wipeP ρ vs) (w := none) (s := .un) h with h | ⟨⟨_, h⟩, _⟩
    · exact own_wipe vs h
    · cases h
theorem own_rest {ρ0 : List Sl} : ∀ (vs : List Nat) {ρ : List Sl} {b : Addr}, (∀ v ∈ vs, plainS ρ0[v]?) → OwnA σ (restP ρ0 vs ρ) b → OwnA (wipe σ vs) ρ b
  | [], _, _, _, h => h
  | v :: vs, ρ, b, hp, h => by
    obtain ⟨j, ds, h1, h2⟩ := own_rest vs (ρ := ρ.set v (ρ0[v]?.getD .un)) (fun w hw => hp w (List.mem_cons_of_mem _ hw)) h
    rw [List.getElem?_set] at h1
    by_cases hj : v = j
    · rw [if_pos hj] at h1
      split at h1
      · have pl := hp v List.mem_cons_self
        cases h0 : ρ0[v]? with
        | none => rw [h0] at h1; cases h1
        | some s0 => rw [h0] at h1 pl; cases h1; exact pl.elim
      · cases h1
    · rw [if_neg hj] at h1
      refine ⟨j, ds, h1, ?_⟩
      show ((wipe σ vs).set v none)[j]? = _
      rw [List.getElem?_set, if_neg hj]
      exact h2
theorem dl_lc {ι : II} {γ : GG} {τ : BB} {ε : EE} {vs : List Nat} {X' : Cx} {t0 : TE} (hn : vs.Nodup) (hg' : ∀ v ∈ gs, v ∈ vs)
    {wi : TI} {g : TG} {tt : TT} {te : TE} (hpe : PE X e (tLc wi g tt te vs)) (h : DenI Γ W wi ι) (hg : DenG Γ g γ gs) (ht : DenB Γ (fun _ _ _ _ => False) tt τ) (he : DenE Γ (fun _ _ _ _ => False) te ε) : DL Γ X W e (tLc wi g tt te vs) (lLc ι γ τ ε vs) := by
  refine ⟨hpe, fun f F H σ ρ Q R Xx E q o ox => ?_⟩
  refine h f F H σ ρ _ _ Xx E q (fun xs ρ1 F1 H1 J q1 E1 s1 jk => ?_) ox
  obtain ⟨hpl, Inv, h0, hs, hd⟩ := q1
  intro Dd nD
  have Ew := E1.wiped vs
  refine ⟨fun i m H => m = xs.length - i ∧ i ≤ xs.length ∧ ∃ F ρ acc as, Ent Γ f F H (wipe σ vs) ρ ∧ Same F1 F ∧ Inv i acc ρ ∧ Own1 Γ f F H (wipe σ vs) ρ Dd as acc,
    ⟨_, rfl, Nat.zero_le _, F1, _, [], [], Ew.raw nD, Same.refl _, h0, own_new Ew .nil nD⟩, ?_⟩
  rintro i m H2 ⟨rfl, hi, F2, ρ2, acc, as, E2, s2, inv, w⟩
  by_cases lt : i < xs.length
  · refine .inr ⟨jk.go i H2 (s2.trans E2.s1) lt, fun H => ∃ F ρ acc as, Ent Γ f F H (wipe σ vs) ρ ∧ Same F1 F ∧ Inv (i + 1) acc ρ ∧ Own1 Γ f F H (wipe σ vs) ρ Dd as acc, fun H' p' => ⟨xs.length - (i + 1), by omega, rfl, lt, p'⟩, fun v H3 y => ?_⟩
    obtain ⟨x, hx, y⟩ := jk.yld i H2 v H3 (s2.trans E2.s1) lt y
    have q3 := hs i x acc ρ2 hx inv
    obtain ⟨F3, E3, s3, r3, w3⟩ : ∃ F3, Ent Γ f F3 H3 (wipe σ vs) ρ2 ∧ Same F2 F3 ∧ Rp Γ F3 v x ∧ Own1 Γ f F3 H3 (wipe σ vs) ρ2 Dd as acc := by
      rcases y with ⟨rfl, r⟩ | ⟨T, oo, nT, rfl, so, r⟩
      · exact ⟨F2, E2, Same.refl _, r.same s2, w⟩
      · have nF := E2.fnone nT
        have hne : Dd ≠ T := ne_of_none w.hH nT
        exact ⟨_, E2.alloc nT so, same_updF nF, r F2 s2 nF, ⟨by rw [upd_ne hne]; exact w.hH, by rw [upd_ne hne]; exact w.hF, DqAll.same (same_updF nF) acc w.hD, w.h0, w.hO, w.hR⟩⟩
    have hM : ¬ f.M Dd := fun z => E3.ml Dd z w3.h0
    -- what the turn keeps of the list
    have keep : ∀ {σ' : L2.St} {ρ' : List Sl} {F' H' : Hp}, Ent Γ (f.from (wipe σ vs) ρ2 F3 H3) F' H' σ' ρ' → σ'.length = (wipe σ vs).length → (∀ j, j ∉ vs → σ'[j]? = (wipe σ vs)[j]?) → Ent Γ f F' H' (wipe σ vs) (wipeP ρ' vs) ∧ Own1 Γ f F' H' (wipe σ vs) (wipeP ρ' vs) Dd as acc := by
      intro σ' ρ' F' H' E' hl hk
      have E'' := E3.trans E'
      have e1 : wipe σ' vs = wipe σ vs := by
        rw [wipe_eq hl vs hk]
        exact wipe_eq (wipe_length σ vs) vs fun j hj => by
          have get : ∀ (ws : List Nat), j ∉ ws → (wipe σ ws)[j]? = σ[j]? := by
            intro ws
            induction ws with
            | nil => intro _; rfl
            | cons w ws ih =>
              intro h
              rw [List.mem_cons, not_or] at h
              show ((wipe σ ws).set w none)[j]? = _
              rw [List.getElem?_set, if_neg (fun z => h.1 z.symm)]
              exact ih h.2
          exact get vs hj
      have Ew' := E''.wiped vs
      rw [e1] at Ew'
      have hH' : H' Dd = some (.lst as) := E'.kept w3.hH hM w3.hO
      have nO : ¬ OwnA σ' ρ' Dd := fun z => by
        rcases E'.ownM z with z | z | z
        · have z : H3 Dd = none := z
          rw [w3.hH] at z; cases z
        · exact hM z
        · exact w3.hO z
      refine ⟨Ew', hH', ?_, DqAll.same E'.s0 acc w3.hD, w3.h0, fun z => nO (own_wipe vs (by rw [e1]; exact z)), w3.hR⟩
      cases hF' : F' Dd with
      | none => rfl
      | some oo =>
        rcases E'.new _ _ hF' with z | z | z | z
        · have z : F3 Dd = some oo := z
          rw [w3.hF] at z; cases z
        · have z : H3 Dd = none := z
          rw [w3.hH] at z; cases z
        · exact absurd z hM
        · exact absurd z w3.hO
    refine hg _ F3 H3 _ ρ2 v x _ _ E3.self r3 q3 fun σ4 ρ4 F4 H4 q4 E4 s4 l4 k4 => ?_
    have k4' : ∀ j, j ∉ vs → σ4[j]? = (wipe σ vs)[j]? := fun j hj => k4 j fun z => hj (hg' j z)
    have e4 : wipe σ4 vs = wipe σ vs := by
      rw [wipe_eq l4 vs k4']
      refine wipe_eq (wipe_length σ vs) vs fun j hj => ?_
      have get : ∀ (ws : List Nat), j ∉ ws → (wipe σ ws)[j]? = σ[j]? := by
        intro ws
        induction ws with
        | nil => intro _; rfl
        | cons w ws ih =>
          intro h
          rw [List.mem_cons, not_or] at h
          show ((wipe σ ws).set w none)[j]? = _
          rw [List.getElem?_set, if_neg (fun z => h.1 z.symm)]
          exact ih h.2
      exact get vs hj
    refine ⟨e4, ?_⟩
    refine ht _ F4 H4 σ4 ρ4 _ _ noX E4 q4 (fun c ρ5 F5 H5 q5 E5 s5 => ?_) (fun _ _ _ _ _ _ _ z => z.elim)
    cases c with
    | false =>
      obtain ⟨E6, w6⟩ := keep E5 l4 k4'
      exact ⟨F5, _, acc, as, E6, ((s2.trans s3).trans s4).trans s5, q5, w6⟩
    | true =>
      refine he _ F5 H5 σ4 ρ5 _ _ noX E5 q5 (fun yv ρ6 F6 H6 u q6 E6 s6 r6 => ?_) (fun _ _ _ _ _ _ _ z => z.elim)
      obtain ⟨d, rfl, q7⟩ := dD_of q6
      clear q6
      obtain ⟨hz, inv'⟩ := q7
      obtain ⟨E7, w7⟩ := keep E6 l4 k4'
      refine ⟨as, w7.hH, by rw [w7.hD.len]; exact hz, F6, _, acc ++ [d], as ++ [u], E7.poke w7.hF (.inl w7.h0) w7.hO w7.hR, (((s2.trans s3).trans s4).trans s5).trans s6, inv', ?_⟩
      exact ⟨upd_same, w7.hF, w7.hD.app (.one r6), w7.h0, w7.hO, w7.hR⟩
  · have e : i = xs.length := by omega
    subst e
    refine .inl ⟨jk.stop _ H2 (s2.trans E2.s1) (Nat.le_refl _), ?_⟩
    have E3 := Ent.rest E1 s2 vs hn hpl E2
    refine o _ _ _ _ _ _ (hd acc ρ2 inv) E3 (s1.trans s2) ⟨w.hH, w.hF, w.hD, w.h0, fun z => w.hO (own_rest vs hpl z), w.hR⟩
end
end Cc

set_option Elab.async false
set_option linter.all false
set_option maxRecDepth 100000
set_option maxHeartbeats 4000000
/-! The pure layer: defs, calls, what is raised, built-ins. -/
namespace Cc
open PySem PySem.Spec PyProof.Rows L2
abbrev Phi := Nat → List A → (A → Nat → Prop) → (Nat → PyData → Nat → Prop) → Prop
/-- what a call leaves -/
structure Stp (Γ : Gx) (rg : Bool) (R : Addr → Prop) (r : Addr) (F H F' H' : Hp) (n' : Nat) : Prop where
  s0 : Same F F'
  s1 : Same F' H'
  new : ∀ b o, F' b = some o → F b = some o ∨ H b = none
  chg : ∀ b o, H b = some o → ¬ R b → H' b = some o
  liv : ∀ b, H' b = none → H b = none
  at_ : rg = true → Γ.I.at_ R r H' n'
  cl : ∀ a o, F' a = some o → okO F' a o
def spP (Γ : Gx) (rg : Bool) (φ : Phi) : Sp := fun vs H Q E => ∃ (R : Addr → Prop) (r : Addr) (F : Hp) (n : Nat) (xs : List A) (us : List V) (RR : A → Nat → Prop) (Xx : Nat → PyData → Nat → Prop),
  vs = (if rg = true then V.ref r :: us else us) ∧ RpAll Γ F us xs ∧ Same F H ∧ (∀ b, R b → F b = none ∧ H b ≠ none) ∧ (∀ a o, F a = some o → okO F a o) ∧ (rg = true → Γ.I.at_ R r H n) ∧ (rg = false → ∀ b, ¬ R b) ∧ φ n xs RR Xx ∧
  (∀ x n' v F' H', RR x n' → Stp Γ rg R r F H F' H' n' → Rp Γ F' v x → Q v H') ∧
  ∀ c d n' v dx F' H', Xx c d n' → Stp Γ rg R r F H F' H' n' → F' dx = some (.xd [("value", v)]) → Dq Γ.K F' v d → E (.ref (Γ.C c)) (some dx) H'
section
variable {Γ : Gx} {X : Cx} {W : WX} {f : Fr} {F H F' H' : Hp} {σ σ' : L2.St} {ρ ρ' : List Sl} {x : A} {v : V} {d : PyData} {e e1 e2 e3 tg : Expr} {a b c : EE} {i j : Nat} {es : List Expr} {pos : Pos} {st : Stmt} {sts sts' : List Stmt} {k k' : SS}
theorem Ent.stp0 (E : Ent Γ f F H σ ρ) {R : Addr → Prop} {r : Addr} {n' : Nat} (hR : ∀ b, ¬ R b) (s : Stp Γ false R r F H F' H' n') : Ent Γ f F' H' σ ρ := by
  have hk : ∀ b o, H b = some o → H' b = some o := fun b o e => s.chg b o e (hR b)
  refine ⟨E.s0.trans s.s0, s.s1, fun b o e => ?_, fun b o e m => hk _ _ (E.chg b o e m), fun b e => E.liv b (s.liv b e), E.len, fun i s' hi => (E.sl i s' hi).more s.s0 (fun a ha ⟨ds, hs⟩ => ?_) (fun b o _ e => hk _ _ e), E.dis, E.rm, fun b hb => ?_, fun b hb => ?_, E.ro, E.ml, s.cl⟩
  · rcases s.new b o e with h | h
    · exact E.new b o h
    · exact .inr (.inl (E.liv b h))
  · subst hs
    obtain ⟨a', xs, e1, e2, _, e4, _⟩ := E.sl i _ hi
    rw [ha] at e1
    cases e1
    refine ⟨?_, fun o q => hk _ _ q⟩
    cases h : F' a with
    | none => rfl
    | some o =>
      rcases s.new a o h with z | z
      · rw [e4] at z; cases z
      · rw [e2] at z; cases z
  · cases h : F' b with
    | none => rfl
    | some o =>
      rcases s.new b o h with z | z
      · rw [E.rF b hb] at z; cases z
      · exact absurd z (E.rl b hb)
  · exact fun z => E.rl b hb (s.liv b z)
theorem Ent.stpR (E : Ent Γ f F H σ ρ) {n n' : Nat} (hi : ρ[f.ri]? = some (.rng n)) (s : Stp Γ true f.R f.r F H F' H' n') : Ent Γ f F' H' σ (ρ.set f.ri (.rng n')) := by
  have E1 := E.forget (i := f.ri)
  -- all slots but the draws' one
  have E2 : Ent Γ f F' H' σ (ρ.set f.ri .un) := by
    refine ⟨E.s0.trans s.s0, s.s1, fun b o e => ?_, fun b o e m => s.chg _ _ (E.chg b o e m) (fun z => m (E.rm b z)), fun b e => E.liv b (s.liv b e), E1.len, fun i s' hi' => ?_, E1.dis, E.rm, fun b hb => ?_, fun b hb => ?_, E1.ro, E.ml, s.cl⟩
    · rcases s.new b o e with h | h
      · exact E.new b o h
      · exact .inr (.inl (E.liv b h))
    · have old := E1.sl i s' hi'
      cases s' with
      | un => trivial
      | a x =>
        obtain ⟨u, h1, h2⟩ := old
        exact ⟨u, h1, h2.same s.s0⟩
      | rng m =>
        have e := old.1.1
        rw [e, List.getElem?_set, if_pos rfl] at hi'
        split at hi' <;> cases hi'
      | own ds =>
        obtain ⟨a, xs, e1, e2, e3, e4, e5⟩ := old
        have nR : ¬ f.R a := fun z => E1.ro a z ⟨i, ds, hi', e1⟩
        refine ⟨a, xs, e1, s.chg _ _ e2 nR, DqAll.same s.s0 ds e3, ?_, e5⟩
        cases h : F' a with
        | none => rfl
        | some o =>
          rcases s.new a o h with z | z
          · rw [e4] at z; cases z
          · rw [e2] at z; cases z
    · cases h : F' b with
      | none => rfl
      | some o =>
        rcases s.new b o h with z | z
        · rw [E.rF b hb] at z; cases z
        · exact absurd z (E.rl b hb)
    · exact fun z => E.rl b hb (s.liv b z)
  obtain ⟨⟨_, hv⟩, _⟩ := E.sl _ _ hi
  have E3 := E2.put (i := f.ri) (w := some (V.ref f.r)) (s := .rng n') (fun _ => nofun) fun _ => ⟨⟨rfl, rfl⟩, s.at_ rfl⟩
  rw [List.set_set, set_self hv] at E3
  exact E3
/-! ### calls -/
def eCall (φ : Phi) (as : AA) : EE := fun ρ R Xx => as ρ (fun xs ρ1 => φ 0 xs (fun x _ => R x ρ1) (fun c d _ => Xx c d ρ1)) Xx
def eCallR (i : Nat) (φ : Phi) (as : AA) : EE := fun ρ R Xx => (∃ m, ρ[i]? = some (.rng m)) ∧ as ρ (fun xs ρ1 => match ρ1[i]? with
  | some (.rng n) => φ n xs (fun x n' => R x (ρ1.set i (.rng n'))) (fun c d n' => Xx c d (ρ1.set i (.rng n')))
  | _ => False) Xx
/-- a call that raises nothing -/
def eCall0 (φ : Phi) (as : AA) : EE := fun ρ R Xx => as ρ (fun xs ρ1 => φ 0 xs (fun x _ => R x ρ1) (fun _ _ _ => False)) Xx
def eCallR0 (i : Nat) (φ : Phi) (as : AA) : EE := fun ρ R Xx => (∃ m, ρ[i]? = some (.rng m)) ∧ as ρ (fun xs ρ1 => match ρ1[i]? with
  | some (.rng n) => φ n xs (fun x n' => R x (ρ1.set i (.rng n'))) (fun _ _ _ => False)
  | _ => False) Xx
theorem sp_at {φ : Phi} {E : XK} {xs : List A} {us : List V} {Q : VK} {RR : A → Nat → Prop} {Xx : Nat → PyData → Nat → Prop} (hE : Ent Γ f F H σ ρ) (r : RpAll Γ F us xs) (q : φ 0 xs RR Xx)
    (o : ∀ x v F' H', RR x 0 ∨ (∃ n', RR x n') → Ent Γ f F' H' σ ρ → Same F F' → Rp Γ F' v x → Q v H') (ox : ∀ c d n' v dx F' H', Xx c d n' → Ent Γ f F' H' σ ρ → F' dx = some (.xd [("value", v)]) → Dq Γ.K F' v d → E (.ref (Γ.C c)) (some dx) H') : spP Γ false φ us H Q E :=
  ⟨fun _ => False, 0, F, 0, xs, us, RR, Xx, rfl, r, hE.s1, (fun _ z => z.elim), hE.cl, (fun z => Bool.noConfusion z), (fun _ _ z => z), q,
    fun x n' v F' H' rr s h => o x v F' H' (.inr ⟨n', rr⟩) (hE.stp0 (fun _ z => z) s) s.s0 h, fun c d n' v dx F' H' xx s h1 h2 => ox c d n' v dx F' H' xx (hE.stp0 (fun _ z => z) s) h1 h2⟩
theorem sp_atR {φ : Phi} {E : XK} {xs : List A} {us : List V} {Q : VK} {RR : A → Nat → Prop} {Xx : Nat → PyData → Nat → Prop} {n : Nat} (hE : Ent Γ f F H σ ρ) (hi : ρ[f.ri]? = some (.rng n)) (r : RpAll Γ F us xs) (q : φ n xs RR Xx)
    (o : ∀ x n' v F' H', RR x n' → Ent Γ f F' H' σ (ρ.set f.ri (.rng n')) → Same F F' → Rp Γ F' v x → Q v H') (ox : ∀ c d n' v dx F' H', Xx c d n' → Ent Γ f F' H' σ (ρ.set f.ri (.rng n')) → F' dx = some (.xd [("value", v)]) → Dq Γ.K F' v d → E (.ref (Γ.C c)) (some dx) H') : spP Γ true φ (.ref f.r :: us) H Q E := by
  obtain ⟨_, hat⟩ := hE.sl _ _ hi
  exact ⟨f.R, f.r, F, n, xs, us, RR, Xx, rfl, r, hE.s1, fun b hb => ⟨hE.rF b hb, hE.rl b hb⟩, hE.cl, (fun _ => hat), (fun z => Bool.noConfusion z), q,
    fun x n' v F' H' rr s h => o x n' v F' H' rr (hE.stpR hi s) s.s0 h, fun c d n' v dx F' H' xx s h1 h2 => ox c d n' v dx F' H' xx (hE.stpR hi s) h1 h2⟩
theorem de_call0 {φ : Phi} {as : AA} (hpe : ∀ {ta : TA}, PA X es ta → PE X e (tCall (spP Γ false φ) [] E0 ta)) {ta : TA} (h : DA Γ X W es ta as) : DE Γ X W e (tCall (spP Γ false φ) [] E0 ta) (eCall0 φ as) := by
  obtain ⟨p, dn⟩ := h
  refine ⟨hpe p, fun f F H σ ρ Q R Xx E q o ox => ?_⟩
  refine dn f F H σ ρ _ _ Xx E q (fun xs ρ1 F1 H1 us q1 E1 s1 r1 => ?_) ox
  show spP Γ false φ (us ++ []) H1 Q E0
  rw [List.append_nil]
  exact sp_at E1 r1 q1 (fun x v F' H' rr E' s' h => o x ρ1 F' H' v (rr.elim id fun ⟨_, z⟩ => z) E' (s1.trans s') h) fun c d n' v dx F' H' z => z.elim
theorem de_callR0 {φ : Phi} {as : AA} (hpe : ∀ {ta : TA}, PA X es ta → PE X e (tCall (spP Γ true φ) [] E0 (tCons (tVar i) ta))) {ta : TA} (h : DA Γ X W es ta as) : DE Γ X W e (tCall (spP Γ true φ) [] E0 (tCons (tVar i) ta)) (eCallR0 i φ as) := by
  obtain ⟨p, dn⟩ := h
  refine ⟨hpe p, fun f F H σ ρ Q R Xx E q o ox => ?_⟩
  obtain ⟨⟨m, hi⟩, q⟩ := q
  obtain ⟨⟨ei, hv⟩, _⟩ := E.sl _ _ hi
  subst ei
  refine ⟨_, hv, ?_⟩
  refine dn f F H σ ρ _ _ Xx E q (fun xs ρ1 F1 H1 us q1 E1 s1 r1 => ?_) ox
  split at q1
  · rename_i n hn
    show spP Γ true φ (V.ref f.r :: us ++ []) H1 Q E0
    rw [List.append_nil]
    exact sp_atR E1 hn r1 q1 (fun x n' v F' H' rr E' s' h => o x _ F' H' v rr E' (s1.trans s') h) fun c d n' v dx F' H' z => z.elim
  · exact q1.elim
theorem de_callX {φ : Phi} {as : AA} (hpe : ∀ {ta : TA}, PA X es ta → PE X e (tCallS (spP Γ false φ) (WE W) ta)) {ta : TA} (h : DA Γ X W es ta as) : DE Γ X W e (tCallS (spP Γ false φ) (WE W) ta) (eCall φ as) := by
  obtain ⟨p, dn⟩ := h
  refine ⟨hpe p, fun f F H σ ρ Q R Xx E q o ox => ?_⟩
  refine dn f F H σ ρ _ _ Xx E q (fun xs ρ1 F1 H1 us q1 E1 s1 r1 => ?_) ox
  exact sp_at E1 r1 q1 (fun x v F' H' rr E' s' h => o x ρ1 F' H' v (rr.elim id fun ⟨_, z⟩ => z) E' (s1.trans s') h) fun c d n' v dx F' H' xx E' h1 h2 => ox c d ρ1 F' H' dx v xx E' h1 h2
/-- by keyword -/
theorem de_callKX {φ : Phi} {as : AA} {kws : List Keyword} {gV : List V → List V} {gA : List A → List A} (hg : ∀ {vs : List V} {xs : List A} {F : Hp}, RpAll Γ F vs xs → RpAll Γ F (gV vs) (gA xs)) (hpe : ∀ {ta : TA}, PK X kws ta → PE X e (tCallKS (spP Γ false φ) gV (WE W) ta)) {ta : TA} (h : PK X kws ta ∧ DenA Γ W ta as) :
    DE Γ X W e (tCallKS (spP Γ false φ) gV (WE W) ta) (eCall (fun n xs => φ n (gA xs)) as) := by
  obtain ⟨p, dn⟩ := h
  refine ⟨hpe p, fun f F H σ ρ Q R Xx E q o ox => ?_⟩
  refine dn f F H σ ρ _ _ Xx E q (fun xs ρ1 F1 H1 us q1 E1 s1 r1 => ?_) ox
  exact sp_at E1 (hg r1) q1 (fun x v F' H' rr E' s' h => o x ρ1 F' H' v (rr.elim id fun ⟨_, z⟩ => z) E' (s1.trans s') h) fun c d n' v dx F' H' xx E' h1 h2 => ox c d ρ1 F' H' dx v xx E' h1 h2

/-! ### what is raised -/
def sRaise (c : Nat) (a : EE) : SS := fun ρ P => a ρ (fun x ρ1 => dD x fun d => P.ex c d ρ1) P.ex
theorem ds_raise {c : Nat} (hpe : ∀ {ta : TE}, PE X e ta → PS X st (tRaise Γ.K (Γ.C c) W (tCons ta tNil))) {ta : TE} (h : DE Γ X W e ta a) : DS Γ X W st (tRaise Γ.K (Γ.C c) W (tCons ta tNil)) (sRaise c a) := by
  obtain ⟨p, dn⟩ := h
  refine ⟨hpe p, fun f F H σ ρ P D E q o => ?_⟩
  refine dn f F H σ ρ _ _ P.ex E q (fun x ρ1 F1 H1 v1 q1 E1 s1 r1 => ?_) (o.ex σ)
  obtain ⟨u, rfl, q2⟩ := dD_of q1
  show MkR Γ.K (Γ.C c) [v1] H1 fun cls d H' => W cls d σ H'
  refine mkR1 fun dx nd => ?_
  have nF := E1.fnone nd
  exact o.ex σ c u ρ1 _ _ dx v1 q2 (E1.alloc nd) upd_same (Dq.same (same_updF nF) u r1)
/-- try: body except C as n: suite -/
def sTry (yes : Nat → Bool) (i : Nat) (b s : SS) : SS := fun ρ P => b ρ { P with ex := fun c d ρ1 => if yes c = true then s (ρ1.set i (.a (.exc c d))) { P with nx := fun ρ2 => P.nx (ρ2.set i .un), bk := fun ρ2 => P.bk (ρ2.set i .un), ct := fun ρ2 => P.ct (ρ2.set i .un), ex := fun _ _ _ => False } else P.ex c d ρ1 }
theorem ds_try {yes : Nat → Bool} {cl : Value} {tb : WX → TS} {ts : TS} (hy : ∀ c, PySem.W.exmOne Γ.K (.ref (Γ.C c)) cl = some (yes c)) (hpe : PS X st (fun D σ H => tb (wTrk Γ.K cl i ts W D) D σ H)) (hb : ∀ W', DenS Γ W' (tb W') k) (hs : DenS Γ (fun _ _ _ _ => False) ts k') :
    DS Γ X W st (fun D σ H => tb (wTrk Γ.K cl i ts W D) D σ H) (sTry yes i k k') := by
  refine ⟨hpe, fun f F H σ ρ P D E q o => ?_⟩
  refine hb _ (f.from σ ρ F H) F H σ ρ { P with ex := fun c d ρ1 => if yes c = true then k' (ρ1.set i (.a (.exc c d))) { P with nx := fun ρ2 => P.nx (ρ2.set i .un), bk := fun ρ2 => P.bk (ρ2.set i .un), ct := fun ρ2 => P.ct (ρ2.set i .un), ex := fun _ _ _ => False } else P.ex c d ρ1 } D E.self q
    ⟨fun σ1 ρ1 F1 H1 q1 E1 s1 => o.nx σ1 ρ1 F1 H1 q1 (E.trans E1) s1, fun x σ1 ρ1 F1 H1 v q1 E1 s1 r => o.rt x σ1 ρ1 F1 H1 v q1 (E.trans E1) s1 r, fun σ1 ρ1 F1 H1 q1 E1 s1 => o.bk σ1 ρ1 F1 H1 q1 (E.trans E1) s1, fun σ1 ρ1 F1 H1 q1 E1 s1 => o.ct σ1 ρ1 F1 H1 q1 (E.trans E1) s1, fun σ1 c d ρ1 F1 H1 dx v q1 E1' h1 h2 => ?_⟩
  have E1 := E.trans E1'
  have s01 : Same F F1 := E1'.s0
  have q1 : if yes c = true then k' (ρ1.set i (.a (.exc c d))) { P with nx := fun ρ2 => P.nx (ρ2.set i .un), bk := fun ρ2 => P.bk (ρ2.set i .un), ct := fun ρ2 => P.ct (ρ2.set i .un), ex := fun _ _ _ => False } else P.ex c d ρ1 := q1
  refine ⟨yes c, hy c, fun hyes a na => ?_, fun hno => ?_⟩
  · rw [if_pos hyes] at q1
    have nF := E1.fnone na
    have E2 := (E1.alloc (o := exT a (.ref (Γ.C c)) (some dx)) na).setA (i := i) (x := .exc c d) (v := .ref a) ⟨a, dx, v, rfl, upd_same, by rw [upd_ne (ne_of_none h1 nF)]; exact h1, Dq.same (same_updF nF) d h2⟩
    have s02 := s01.trans (same_updF (o := exT a (.ref (Γ.C c)) (some dx)) nF)
    exact hs f _ _ _ _ _ _ E2 q1 ⟨fun σ3 ρ3 F3 H3 q3 E3 s3 => o.nx _ _ _ _ q3 E3.setU (s02.trans s3), fun x σ3 ρ3 F3 H3 u q3 E3 s3 r3 => o.rt _ _ _ _ _ _ q3 E3 (s02.trans s3) r3, fun σ3 ρ3 F3 H3 q3 E3 s3 => o.bk _ _ _ _ q3 E3.setU (s02.trans s3), fun σ3 ρ3 F3 H3 q3 E3 s3 => o.ct _ _ _ _ q3 E3.setU (s02.trans s3), fun _ _ _ _ _ _ _ _ z => z.elim⟩
  · rw [hno, if_neg (by decide)] at q1
    exact o.ex σ1 c d ρ1 F1 H1 dx v q1 E1 h1 h2
end
/-! ### a def by its body -/
def initS (rg : Bool) (n : Nat) (N : List Str) (xs : List A) : List Sl := match rg with
  | true => .rng n :: (xs.map Sl.a ++ List.replicate (N.length - (xs.length + 1)) .un)
  | false => xs.map Sl.a ++ List.replicate (N.length - xs.length) .un
def outR (rg : Bool) (R : A → Nat → Prop) (x : A) (ρ : List Sl) : Prop := match rg with
  | true => match (ρ[0]? : Option Sl) with | some (Sl.rng n) => R x n | _ => False
  | false => R x 0
def outX (rg : Bool) (R : Nat → PyData → Nat → Prop) (c : Nat) (x : PyData) (ρ : List Sl) : Prop := match rg with
  | true => match (ρ[0]? : Option Sl) with | some (Sl.rng n) => R c x n | _ => False
  | false => R c x 0
def ends0 (rg : Bool) (R : A → Nat → Prop) : EndsP := ⟨outR rg R (.d .none), outR rg R, fun _ => False, fun _ => False, fun _ _ _ => False⟩
def endsX (rg : Bool) (R : A → Nat → Prop) (Xx : Nat → PyData → Nat → Prop) : EndsP := ⟨outR rg R (.d .none), outR rg R, fun _ => False, fun _ => False, outX rg Xx⟩
section
variable {Γ : Gx} {f : Fr} {F H F' H' : Hp} {σ : L2.St} {ρ : List Sl}
theorem sl_init : ∀ {us : List V} {xs : List A} (m j : Nat), RpAll Γ F us xs → ∀ (i : Nat) (s : Sl), (xs.map Sl.a ++ List.replicate m .un)[i]? = some s → (s = .un ∨ ∃ x, s = .a x) ∧ SlR Γ f F H j ((us.map some ++ List.replicate m none)[i]?) s
  | [], [], m, j, _, i, s, h => by
    simp only [List.map_nil, List.nil_append] at h ⊢
    rw [List.getElem?_replicate] at h
    split at h
    · cases h
      exact ⟨.inl rfl, trivial⟩
    · cases h
  | u :: us, x :: xs, m, j, ⟨h1, h2⟩, 0, s, h => by
    simp at h
    subst h
    exact ⟨.inr ⟨x, rfl⟩, u, rfl, h1⟩
  | u :: us, x :: xs, m, j, ⟨h1, h2⟩, i + 1, s, h => sl_init m j h2 i s (by simpa using h)
  | [], _ :: _, _, _, h, _, _, _ => h.elim
  | _ :: _, [], _, _, h, _, _, _ => h.elim
theorem ent_init {N : List Str} {vs us : List V} {xs : List A} {rg : Bool} {R : Addr → Prop} {r : Addr} {n : Nat} (hvs : vs = if rg = true then V.ref r :: us else us) (hr : RpAll Γ F us xs) (s : Same F H) (hR : ∀ b, R b → F b = none ∧ H b ≠ none) (hcl : ∀ a o, F a = some o → okO F a o) (hat : rg = true → Γ.I.at_ R r H n) :
    Ent Γ ⟨R, R, r, 0, F, H⟩ F H (start N vs) (initS rg n N xs) := by
  have key : ∀ (i : Nat) (s : Sl), (initS rg n N xs)[i]? = some s → ((∃ m, s = .rng m) ∨ s = .un ∨ ∃ x, s = .a x) ∧ SlR Γ ⟨R, R, r, 0, F, H⟩ F H i (start N vs)[i]? s := by
    intro i s hi
    subst hvs
    cases rg with
    | false =>
      have := sl_init (Γ := Γ) (f := ⟨R, R, r, 0, F, H⟩) (H := H) (N.length - us.length) i hr i s (by rw [hr.len]; exact hi)
      exact ⟨.inr this.1, this.2⟩
    | true =>
      cases i with
      | zero =>
        have hi : some (Sl.rng n) = some s := hi
        cases hi
        exact ⟨.inl ⟨n, rfl⟩, ⟨rfl, rfl⟩, hat rfl⟩
      | succ i =>
        have := sl_init (Γ := Γ) (f := ⟨R, R, r, 0, F, H⟩) (H := H) (N.length - (us.length + 1)) (i + 1) hr i s (by rw [hr.len]; exact hi)
        refine ⟨.inr this.1, ?_⟩
        have e : (start N (if true = true then V.ref r :: us else us))[i + 1]? = (us.map some ++ List.replicate (N.length - (us.length + 1)) none)[i]? := rfl
        rw [e]
        exact this.2
  have noOwn : ∀ (i : Nat) (ds : List PyData), (initS rg n N xs)[i]? = some (Sl.own ds) → False := fun i ds h => by
    rcases (key i _ h).1 with ⟨m, e⟩ | e | ⟨x, e⟩ <;> cases e
  refine ⟨Same.refl _, s, fun b o e => .inl e, fun b o e _ => e, fun b e => e, ?_, fun i s hi => (key i s hi).2, fun i j a ds es h1 => (noOwn i ds h1).elim, fun b h => h, fun b h => (hR b h).1, fun b h => (hR b h).2, fun b _ ⟨i, ds, h1, _⟩ => noOwn i ds h1, fun b h => (hR b h).2, hcl⟩
  subst hvs
  unfold L2.start initS
  cases rg with
  | false =>
    show (us.map some ++ List.replicate (N.length - us.length) none).length = (xs.map Sl.a ++ List.replicate (N.length - xs.length) Sl.un).length
    simp [hr.len]
  | true =>
    show ((V.ref r :: us).map some ++ List.replicate (N.length - (us.length + 1)) none).length = (Sl.rng n :: (xs.map Sl.a ++ List.replicate (N.length - (xs.length + 1)) .un)).length
    simp [hr.len]
theorem stp_of {R : Addr → Prop} {r : Addr} {rg : Bool} {n' : Nat} (E : Ent Γ ⟨R, R, r, 0, F, H⟩ F' H' σ ρ) (hR : rg = false → ∀ b, ¬ R b) (hat : rg = true → ρ[0]? = some (.rng n')) : Stp Γ rg R r F H F' H' n' := by
  refine ⟨E.s0, E.s1, fun b o e => ?_, E.chg, E.liv, fun h => (E.sl 0 _ (hat h)).2, E.cl⟩
  rcases E.new b o e with z | z | z
  · exact .inl z
  · exact .inr z
  · rw [E.rF b z] at e; cases e
variable {P : Program} {w : World} {mg : Str → Option Value} {base : Heap} {k : Nat} {x : Str} {st : Stmt} {N ps : List Str} {φ : Phi} {rg : Bool}
theorem sp_len (len : ∀ n xs R Xx, φ n xs R Xx → (if rg = true then 1 else 0) + xs.length = ps.length) : ∀ vs H Q E, spP Γ rg φ vs H Q E → vs.length = ps.length := fun vs H Q E ⟨R, r, F, n, xs, us, RR, Xx, e, hr, _, _, _, _, _, q, _⟩ => by
  have := len n xs RR Xx q
  rw [e, ← this]
  cases rg
  · simp [hr.len]
  · simp [hr.len]
    omega
theorem body0 {κ : SS} {t : TS} {X : Cx} {vs : List V} {Q : VK} {E : XK} (h : spP Γ rg φ vs H Q E) (d : DenS Γ (fun _ _ _ _ => False) t κ) (hb : ∀ n xs R, φ n xs R (fun _ _ _ => False) → κ (initS rg n N xs) (ends0 rg R)) (hX : ∀ n xs R Xx, φ n xs R Xx → φ n xs R fun _ _ _ => False) :
    t { nx := fun _ H' => Q .non H', rt := Q } (start N vs) H := by
  obtain ⟨R, r, F, n, xs, us, RR, Xx, e, hr, s, hR, hcl, hat, hno, q, o, ox⟩ := h
  have E0 := ent_init (N := N) (n := n) e hr s hR hcl hat
  refine d _ F H _ _ _ _ E0 (hb n xs RR (hX n xs RR Xx q)) ⟨fun σ ρ F' H' p E' s' => ?_, fun x σ ρ F' H' v p E' s' r' => ?_, fun _ _ _ _ p => p.elim, fun _ _ _ _ p => p.elim, fun _ _ _ _ _ _ _ _ p => p.elim⟩
  · cases rg with
    | false => exact o _ 0 .non F' H' p (stp_of E' hno fun z => Bool.noConfusion z) .non
    | true =>
      have p : (match (ρ[0]? : Option Sl) with | some (Sl.rng n) => RR (.d .none) n | _ => False) := p
      split at p
      · rename_i n' hn
        exact o _ n' .non F' H' p (stp_of E' hno fun _ => hn) .non
      · exact p.elim
  · cases rg with
    | false => exact o _ 0 v F' H' p (stp_of E' hno fun z => Bool.noConfusion z) r'
    | true =>
      have p : (match (ρ[0]? : Option Sl) with | some (Sl.rng n) => RR x n | _ => False) := p
      split at p
      · rename_i n' hn
        exact o _ n' v F' H' p (stp_of E' hno fun _ => hn) r'
      · exact p.elim
theorem bodyX {κ : SS} {t : TS} {vs : List V} {Q : VK} {E : XK} (h : spP Γ rg φ vs H Q E) (d : DenS Γ (fun cls dx _ H => E cls dx H) t κ) (hb : ∀ n xs R Xx, φ n xs R Xx → κ (initS rg n N xs) (endsX rg R Xx)) :
    t { nx := fun _ H' => Q .non H', rt := Q } (start N vs) H := by
  obtain ⟨R, r, F, n, xs, us, RR, Xx, e, hr, s, hR, hcl, hat, hno, q, o, ox⟩ := h
  have E0 := ent_init (N := N) (n := n) e hr s hR hcl hat
  refine d _ F H _ _ _ _ E0 (hb n xs RR Xx q) ⟨fun σ ρ F' H' p E' s' => ?_, fun x σ ρ F' H' v p E' s' r' => ?_, fun _ _ _ _ p => p.elim, fun _ _ _ _ p => p.elim, fun σ c d ρ F' H' dx v p E' h1 h2 => ?_⟩
  · cases rg with
    | false => exact o _ 0 .non F' H' p (stp_of E' hno fun z => Bool.noConfusion z) .non
    | true =>
      have p : (match (ρ[0]? : Option Sl) with | some (Sl.rng n) => RR (.d .none) n | _ => False) := p
      split at p
      · rename_i n' hn
        exact o _ n' .non F' H' p (stp_of E' hno fun _ => hn) .non
      · exact p.elim
  · cases rg with
    | false => exact o _ 0 v F' H' p (stp_of E' hno fun z => Bool.noConfusion z) r'
    | true =>
      have p : (match (ρ[0]? : Option Sl) with | some (Sl.rng n) => RR x n | _ => False) := p
      split at p
      · rename_i n' hn
        exact o _ n' v F' H' p (stp_of E' hno fun _ => hn) r'
      · exact p.elim
  · cases rg with
    | false => exact ox c d 0 v dx F' H' p (stp_of E' hno fun z => Bool.noConfusion z) h1 h2
    | true =>
      have p : (match (ρ[0]? : Option Sl) with | some (Sl.rng n) => Xx c d n | _ => False) := p
      split at p
      · rename_i n' hn
        exact ox c d n' v dx F' H' p (stp_of E' hno fun _ => hn) h1 h2
      · exact p.elim
/-- a def that raises nothing -/
theorem mkPP (T : Tx Γ.K mg x st) (S : FnScope N ps (defScope st))
    (bi : ∀ (kV doc pm : Value) (an : Option Addr) (cdv ct : Value) (us : List Value), us.length = ps.length → bindArgs (PySem.W.fnOf x x (defArgs st) (defBody st) (defScope st) .none kV doc pm an cdv ct) ⟨us, []⟩ = pure (ps.zip us))
    (len : ∀ n xs R Xx, φ n xs R Xx → (if rg = true then 1 else 0) + xs.length = ps.length) (hX : ∀ n xs R Xx, φ n xs R Xx → φ n xs R fun _ _ _ => False)
    (hbody : ∀ (f : Addr) (cdv : Value) (A : Around) (outer : List Env) (s : Shared) (H : Hp) (E : XK), A.guards = some [] → Room k (A.deeper (envOfC x (defScope st) s.heap.objs.size f cdv)) →
      ∃ t κ, DSs Γ (cxOf CX0 P w Γ.K mg base N x (defScope st) f cdv A outer s H E).nox (fun _ _ _ _ => False) (defBody st) t κ ∧ ∀ n xs R, φ n xs R (fun _ _ _ => False) → κ (initS rg n N xs) (ends0 rg R)) :
    Pr P w Γ.K mg base CX0 (k + 1) x ps (spP Γ rg φ) :=
  mkP T S bi (sp_len len) fun f cdv A outer s H vs Q E hG hr h => by
    obtain ⟨t, κ, d, q⟩ := hbody f cdv A outer s H E hG hr
    exact ⟨t, d.1, body0 (X := cxOf CX0 P w Γ.K mg base N x (defScope st) f cdv A outer s H E) h d.2 q hX⟩
/-- a def that may raise -/
theorem mkPPX (T : Tx Γ.K mg x st) (S : FnScope N ps (defScope st))
    (bi : ∀ (kV doc pm : Value) (an : Option Addr) (cdv ct : Value) (us : List Value), us.length = ps.length → bindArgs (PySem.W.fnOf x x (defArgs st) (defBody st) (defScope st) .none kV doc pm an cdv ct) ⟨us, []⟩ = pure (ps.zip us))
    (len : ∀ n xs R Xx, φ n xs R Xx → (if rg = true then 1 else 0) + xs.length = ps.length)
    (hbody : ∀ (f : Addr) (cdv : Value) (A : Around) (outer : List Env) (s : Shared) (H : Hp) (E : XK), A.guards = some [] → Room k (A.deeper (envOfC x (defScope st) s.heap.objs.size f cdv)) →
      ∃ t κ, DSs Γ (cxOf (L2N.CX P w) P w Γ.K mg base N x (defScope st) f cdv A outer s H E) (fun cls dx _ H => E cls dx H) (defBody st) t κ ∧ ∀ n xs R Xx, φ n xs R Xx → κ (initS rg n N xs) (endsX rg R Xx)) :
    Pr P w Γ.K mg base (L2N.CX P w) (k + 1) x ps (spP Γ rg φ) :=
  mkPX T S bi (sp_len len) fun f cdv A outer s H vs Q E hG hr h => by
    obtain ⟨t, κ, d, q⟩ := hbody f cdv A outer s H E hG hr
    exact ⟨t, d.1, bodyX h d.2 q⟩
/-- a promise by another one -/
theorem Pr.weak {CX : CXT} {K : PySem.W.Frag} {sp sp' : Sp} (h : Pr P w K mg base CX k x ps sp) (hs : ∀ vs H Q E, sp' vs H Q E → sp vs H Q E) : Pr P w K mg base CX k x ps sp' := by
  obtain ⟨f, fd, F, h1, h2, h3⟩ := h
  exact ⟨f, fd, ⟨fun vs H Q E q => F.long vs H Q E (hs _ _ _ _ q), fun A hg hr outer s H e0 args us vs Q E hb rv q => F.goes A hg hr outer s H e0 args us vs Q E hb rv (hs _ _ _ _ q)⟩, h1, h2, h3⟩
end
end Cc

set_option Elab.async false
set_option linter.all false
set_option maxRecDepth 100000
set_option maxHeartbeats 4000000
/-! The pure layer: a promise at a part of the heap; what a def of the heap layer gives. -/
namespace Cc
open PySem PySem.Spec PyProof.Rows L2
/-- F stands in H; a call made it F'; then the whole is H' -/
structure Frm (F H F' H' : Hp) : Prop where
  s1 : Same F' H'
  old : ∀ b o, H b = some o → F b = none → H' b = some o
  new : ∀ b o, F' b = some o → F b ≠ none ∨ H b = none
  liv : ∀ b, H' b = none → F' b = none ∧ (F b ≠ none ∨ H b = none)
  ins : ∀ a C dx fs, F' a = some (.ins C dx fs) → F' dx = some (.own a)
def spFr (sp : Sp) : Sp := fun vs H Q E => ∃ F, Same F H ∧ (∀ a o, F a = some o → okO F a o) ∧ sp vs F (fun v F' => ∀ H', Frm F H F' H' → Q v H') (fun c d F' => ∀ H', Frm F H F' H' → E c d H')
def uni (F H F' : Hp) : Hp := fun b => match F' b with
  | some o => some o
  | none => if F b = none then H b else none
section
variable {P : Program} {w : World} {F H F' : Hp} {h h' : Heap} {fs : List Addr}
theorem uni_of {b : Addr} {o : HO} (e : F' b = some o) : uni F H F' b = some o := by unfold uni; rw [e]
theorem uni_old {b : Addr} (e : F' b = none) (e' : F b = none) : uni F H F' b = H b := by unfold uni; rw [e]; exact if_pos e'
theorem hok_part (ok : HOk P w H h) (s : Same F H) (cl : ∀ a o, F a = some o → okO F a o) : HOk P w F h := by
  have go : ∀ a o, okO F a o → ObjOk P w H h a o → ObjOk P w F h a o := by
    intro a o c q
    cases o with
    | ins C dx fs => exact ⟨c, q.2⟩
    | dT kvs => exact c.elim
    | frz ob u =>
      rcases c with ⟨xs, rfl⟩ | ⟨xs, rfl⟩ <;> exact q
    | own x => exact q
    | lst xs => exact q
    | tup xs => exact q
    | dK kvs => exact q
    | set S n => exact q
    | xd fs => exact q
    | met f x => exact q
    | rng lo hi => exact q
    | tbl ps => exact q
    | ext φ => exact q
  exact fun a o e => go a o (cl a o e) (ok a o (s _ _ e))
theorem obj_there {a : Addr} {o : HO} (x : ObjOk P w H h a o) : ∃ ob, h.get? a = some ob := by
  cases o with
  | lst xs => obtain ⟨_, _, _, _, e⟩ := x; exact ⟨_, e⟩
  | tup xs => obtain ⟨_, _, _, ob, e, _⟩ := x; exact ⟨_, e⟩
  | dK kvs => obtain ⟨_, _, _, _, o, _, _, e, _⟩ := x; exact ⟨_, e⟩
  | dT kvs => obtain ⟨_, _, _, _, o, _, _, e, _⟩ := x; exact ⟨_, e⟩
  | set S n => obtain ⟨o, _, _, _, e, _⟩ := x; exact ⟨_, e⟩
  | ins C dx fs => obtain ⟨_, _, _, e, _⟩ := x; exact ⟨_, e⟩
  | own y => obtain ⟨_, e⟩ := x; exact ⟨_, e⟩
  | xd fs => obtain ⟨_, ⟨_, _, _, e, _⟩, _⟩ := x; exact ⟨_, e⟩
  | rng lo hi => obtain ⟨_, _, _, e⟩ := x; exact ⟨_, e⟩
  | frz ob u => obtain ⟨e, _⟩ := x; exact ⟨_, e⟩
  | tbl ps => exact ⟨_, (show h.get? a = some _ from x)⟩
  | met f y => exact ⟨_, (show h.get? a = some _ from x)⟩
  | ext φ => obtain ⟨_, ⟨_, e⟩, _⟩ := x; exact ⟨_, e⟩
theorem uni_frm (ok : HOk P w H h) (ok' : HOk P w F' h') (s : Same F H) (free : ∀ b o, h.get? b = some o → F b = none → F' b = none) : Frm F H F' (uni F H F') where
  s1 b o e := uni_of e
  old b o e n := by
    obtain ⟨ob, hob⟩ := obj_there (ok b o e)
    rw [uni_old (free b ob hob n) n]
    exact e
  new b o e := by
    cases hF : F b with
    | some u => exact .inl nofun
    | none =>
      refine .inr ?_
      cases hH : H b with
      | none => rfl
      | some u =>
        obtain ⟨ob, hob⟩ := obj_there (ok b u hH)
        rw [free b ob hob hF] at e
        cases e
  liv b e := by
    unfold uni at e
    cases hF' : F' b with
    | some o => rw [hF'] at e; cases e
    | none =>
      rw [hF'] at e
      refine ⟨rfl, ?_⟩
      by_cases hF : F b = none
      · right
        simpa [hF] using e
      · exact .inl hF
  ins a C dx fs e := (ok' a _ e).1
theorem uni_hok (ok : HOk P w H h) (ok' : HOk P w F' h') (s : Same F H) (cl : ∀ a o, F a = some o → okO F a o) (free : ∀ b o, h.get? b = some o → F b = none → F' b = none)
    (keep : ∀ b o u, h.get? b = some o → F b = none → H b = some u → h'.get? b = some o) (tups : ∀ b xs, F b = some (.tup xs) → F' b = some (.tup xs)) : HOk P w (uni F H F') h' := by
  have fr := uni_frm ok ok' s free
  have there : ∀ {b u}, H b = some u → ∃ ob, h.get? b = some ob := fun {b u} e => obj_there (ok b u e)
  intro a o e
  cases hF' : F' a with
  | some u =>
    rw [uni_of hF'] at e
    cases e
    exact (ok' a o hF').stay (fun b u _ q => q) (fun b q => uni_of q) fun b xs q => uni_of q
  | none =>
    unfold uni at e
    rw [hF'] at e
    by_cases hF : F a = none
    · have e : H a = some o := by simpa [hF] using e
      have ownF : ∀ b, H b = some (.own a) → F b = none := fun b q => by
        cases hb : F b with
        | none => rfl
        | some u =>
          have := cl b u hb
          have z := s _ _ hb
          rw [q] at z
          cases z
          exact absurd hF this
      refine (ok a o e).stay (fun b u hb q => ?_) (fun b q => fr.old b _ q (ownF b q)) fun b xs q => ?_
      · rcases hb with rfl | hb
        · exact keep b u o q hF e
        · exact keep b u _ q (ownF b hb) hb
      · cases hb : F b with
        | none => exact fr.old b _ q hb
        | some u =>
          have z := s _ _ hb
          rw [q] at z
          cases z
          exact uni_of (tups b xs hb)
    · simp [hF] at e
end
section
variable {P : Program} {w : World} {K : PySem.W.Frag} {mg : Str → Option Value} {base : Heap} {k : Nat} {f : Addr} {fd : FuncData} {ps : List Str} {sp : Sp}
theorem ce_frame {outer : List Env} {s s' : Shared} {H F : Hp} {Q : VK} {u : Value} (ok : HOk P w H s.heap) (frf : ∀ b ∈ frs outer, H b = none) (sF : Same F H) (cl : ∀ a o, F a = some o → okO F a o)
    (h : CE outer P w F s (fun v F' => ∀ H', Frm F H F' H' → Q v H') u s') : CE outer P w H s Q u s' := by
  obtain ⟨v, F', os, bare, un, hok', rv, q⟩ := h
  have nof : ∀ {b u}, H b = some u → b ∉ frs outer := fun {b u} e hb => by rw [frf b hb] at e; cases e
  have free : ∀ b o, s.heap.get? b = some o → F b = none → F' b = none := fun b o e n => un.free b o e n (by simp)
  have fr := uni_frm ok hok' sF free
  have there : ∀ {b u}, H b = some u → ∃ ob, s.heap.get? b = some ob := fun {b u} e => obj_there (ok b u e)
  have Fn : ∀ {b}, H b = none → F b = none := fun {b} e => by
    cases hb : F b with
    | none => rfl
    | some u => rw [sF _ _ hb] at e; cases e
  have imm : ∀ {b u}, H b = some u → (∀ x, F b = some x → x = u → F' b = some u) → uni F H F' b = some u := fun {b u} e hh => by
    cases hb : F b with
    | none => exact fr.old b u e hb
    | some x =>
      have z := sF _ _ hb
      rw [e] at z
      cases z
      exact uni_of (hh u hb rfl)
  refine ⟨v, uni F H F', os, bare, ⟨fun b o e n h1 h2 => un.keep b o e (Fn n) h1 h2, fun b o e n h1 h2 => un.slot b o e (Fn n) h1 h2, fun b o e n h1 => ?_, un.there, fun b xs e => ?_, fun b o u e => ?_, fun b ps e => ?_⟩, uni_hok ok hok' sF cl free (fun b o u e n hu => un.keep b o e n (nof hu) (by simp)) un.tups, rv, q _ fr⟩
  · rw [uni_old (free b o e (Fn n)) (Fn n)]; exact n
  · exact imm e fun x hx hxu => un.tups b xs (by rw [hx, hxu])
  · exact imm e fun x hx hxu => un.frzs b o u (by rw [hx, hxu])
  · cases hb : F b with
    | none => exact ⟨#[], by rw [fr.old b _ e hb]; simp⟩
    | some x =>
      have z := sF _ _ hb
      rw [e] at z
      cases z
      obtain ⟨more, hm⟩ := un.tbls b ps hb
      exact ⟨more, uni_of hm⟩
theorem cx_frame {outer : List Env} {s s' : Shared} {H F : Hp} {E : XK} {u : Value} (ok : HOk P w H s.heap) (frf : ∀ b ∈ frs outer, H b = none) (sF : Same F H) (cl : ∀ a o, F a = some o → okO F a o)
    (h : L2N.CX P w outer F s (fun c d F' => ∀ H', Frm F H F' H' → E c d H') u s') : L2N.CX P w outer H s E u s' := by
  obtain ⟨a, B, F', cls, d, e0, fly, hok', ub, na, os, bare, q⟩ := h
  have nof : ∀ {b u}, H b = some u → b ∉ frs outer := fun {b u} e hb => by rw [frf b hb] at e; cases e
  have free : ∀ b o, s.heap.get? b = some o → F b = none → F' b = none := fun b o e n => ub.free b o e n
  have fr := uni_frm ok hok' sF free
  have there : ∀ {b u}, H b = some u → ∃ ob, s.heap.get? b = some ob := fun {b u} e => obj_there (ok b u e)
  have Fn : ∀ {b}, H b = none → F b = none := fun {b} e => by
    cases hb : F b with
    | none => rfl
    | some u => rw [sF _ _ hb] at e; cases e
  have imm : ∀ {b u}, H b = some u → (∀ x, F b = some x → x = u → F' b = some u) → uni F H F' b = some u := fun {b u} e hh => by
    cases hb : F b with
    | none => exact fr.old b u e hb
    | some x =>
      have z := sF _ _ hb
      rw [e] at z
      cases z
      exact uni_of (hh u hb rfl)
  refine ⟨a, B, uni F H F', cls, d, e0, fly, uni_hok ok hok' sF cl free (fun b o u e n hu => ub.keep b o e n (nof hu)) ub.tups, ⟨fun b o e n h1 => ub.keep b o e (Fn n) h1, ub.slot, fun b o e n => ?_, ub.there, fun b xs e => ?_, fun b o u e => ?_, fun b ps e => ?_⟩, ?_, os, bare, q _ fr⟩
  · rw [uni_old (free b o e (Fn n)) (Fn n)]; exact n
  · exact imm e fun x hx hxu => ub.tups b xs (by rw [hx, hxu])
  · exact imm e fun x hx hxu => ub.frzs b o u (by rw [hx, hxu])
  · cases hb : F b with
    | none => exact ⟨#[], by rw [fr.old b _ e hb]; simp⟩
    | some x =>
      have z := sF _ _ hb
      rw [e] at z
      cases z
      obtain ⟨more, hm⟩ := ub.tbls b ps hb
      exact ⟨more, uni_of hm⟩
  · cases hFa : F a with
    | some x =>
      obtain ⟨o', ho'⟩ := ub.there a _ (there (sF _ _ hFa)).choose_spec (nof (sF _ _ hFa))
      have nB := fly.2.1
      rw [ho'] at nB
      cases nB
    | none =>
      rw [uni_old na hFa]
      cases hHa : H a with
      | none => rfl
      | some x =>
        obtain ⟨o', ho'⟩ := ub.there a _ (there hHa).choose_spec (nof hHa)
        have nB := fly.2.1
        rw [ho'] at nB
        cases nB
theorem FnG.frame0 (Fn : FnG P w K mg base CX0 k f fd ps sp) : FnG P w K mg base CX0 k f fd ps (spFr sp) :=
  ⟨fun vs H Q E ⟨F, _, _, q⟩ => Fn.long vs F _ _ q, fun A hg hr outer s H e0 args us vs Q E hb rv ⟨F, sF, cl, q⟩ => by
    have Fnn : ∀ {b}, H b = none → F b = none := fun {b} e => by
      cases hb : F b with
      | none => rfl
      | some u => rw [sF _ _ hb] at e; cases e
    refine codeAny_mono (Fn.goes A hg hr outer s F ⟨e0.frames, e0.mod, fun b o e => ⟨(e0.bs b o e).1, Fnn (e0.bs b o e).2⟩, e0.bsz, e0.funs, fun b hb => Fnn (e0.frf b hb), hok_part e0.hok sF cl, e0.bare⟩ args us vs _ _ hb rv q) fun r s' z => ?_
    match r, z with
    | .error e, z => exact z.elim
    | .ok (.ret u), z => exact ce_frame e0.hok e0.frf sF cl z
    | .ok .next, z => exact z.elim
    | .ok .brk, z => exact z.elim
    | .ok .cont, z => exact z.elim⟩
theorem FnG.frameX (Fn : FnG P w K mg base (L2N.CX P w) k f fd ps sp) : FnG P w K mg base (L2N.CX P w) k f fd ps (spFr sp) :=
  ⟨fun vs H Q E ⟨F, _, _, q⟩ => Fn.long vs F _ _ q, fun A hg hr outer s H e0 args us vs Q E hb rv ⟨F, sF, cl, q⟩ => by
    have Fnn : ∀ {b}, H b = none → F b = none := fun {b} e => by
      cases hb : F b with
      | none => rfl
      | some u => rw [sF _ _ hb] at e; cases e
    refine codeAny_mono (Fn.goes A hg hr outer s F ⟨e0.frames, e0.mod, fun b o e => ⟨(e0.bs b o e).1, Fnn (e0.bs b o e).2⟩, e0.bsz, e0.funs, fun b hb => Fnn (e0.frf b hb), hok_part e0.hok sF cl, e0.bare⟩ args us vs _ _ hb rv q) fun r s' z => ?_
    match r, z with
    | .error e, z => exact cx_frame e0.hok e0.frf sF cl z
    | .ok (.ret u), z => exact ce_frame e0.hok e0.frf sF cl z
    | .ok .next, z => exact z.elim
    | .ok .brk, z => exact z.elim
    | .ok .cont, z => exact z.elim⟩
theorem Pr.frame0 {x : Str} (h : Pr P w K mg base CX0 k x ps sp) : Pr P w K mg base CX0 k x ps (spFr sp) := by
  obtain ⟨f, fd, F, h1, h2, h3⟩ := h
  exact ⟨f, fd, F.frame0, h1, h2, h3⟩
theorem Pr.frameX {x : Str} (h : Pr P w K mg base (L2N.CX P w) k x ps sp) : Pr P w K mg base (L2N.CX P w) k x ps (spFr sp) := by
  obtain ⟨f, fd, F, h1, h2, h3⟩ := h
  exact ⟨f, fd, F.frameX, h1, h2, h3⟩
end
end Cc

set_option Elab.async false
set_option linter.all false
set_option maxRecDepth 100000
set_option maxHeartbeats 4000000
/-! The pure layer: built-ins, comprehensions, exceptions' questions. -/
namespace Cc
open PySem PySem.Spec PyProof.Rows L2
def pMin : PL
  | [.d (.int i), .d (.int j)], R => R (.int (if j < i then j else i))
  | _, _ => False
def pMax : PL
  | [.d (.int i), .d (.int j)], R => R (.int (if j > i then j else i))
  | _, _ => False
def pAbs : PL
  | [.d (.int i)], R => R (.int (if i < 0 then -i else i))
  | _, _ => False
def pTuple : PL
  | [.d (.list ds)], R => R (.tuple ds)
  | [.d (.tuple ds)], R => R (.tuple ds)
  | _, _ => False
def pRepr : PL
  | [.d d], R => d.showable = true ∧ d.depth ≤ 60 ∧ d.shown.length ≤ sizeLine ∧ R (.str d.shown)
  | _, _ => False
def pLenB : PL
  | [x], R => pLen x fun n => R (.int n)
  | _, _ => False
def pSum : PL
  | [.d (.list ds)], R => ∃ ns : List Int, ds = ns.map PyData.int ∧ R (.int ns.sum)
  | _, _ => False
def pAll : PL
  | [.d (.list ds)], R => ∃ bs : List Bool, ds = bs.map PyData.bool ∧ R (.bool (bs.all id))
  | _, _ => False
def pAny : PL
  | [.d (.list ds)], R => ∃ bs : List Bool, ds = bs.map PyData.bool ∧ R (.bool (bs.any id))
  | _, _ => False
section
variable {Γ : Gx} {X : Cx} {W : WX} {f : Fr} {F H F' H' : Hp} {σ σ' : L2.St} {ρ ρ' : List Sl} {x : A} {v : V} {d : PyData} {e e1 e2 e3 tg : Expr} {a b c : EE} {i j : Nat} {es : List Expr} {pos : Pos} {st : Stmt} {sts sts' : List Stmt} {k k' : SS} {gs : List Nat}
theorem rp1 {vs : List V} {y : A} (r : RpAll Γ F vs [y]) : ∃ u, vs = [u] ∧ Rp Γ F u y := by
  match vs, r with
  | [u], r => exact ⟨u, rfl, r.1⟩
  | [], r => exact r.elim
  | _ :: _ :: _, r => exact r.2.elim
theorem rp2 {vs : List V} {y z : A} (r : RpAll Γ F vs [y, z]) : ∃ u w, vs = [u, w] ∧ Rp Γ F u y ∧ Rp Γ F w z := by
  match vs, r with
  | [u, w], r => exact ⟨u, w, rfl, r.1, r.2.1⟩
  | [], r => exact r.elim
  | [_], r => exact r.2.elim
  | _ :: _ :: _ :: _, r => exact r.2.2.elim
theorem cd_min : CallD Γ (fun xs H Q => ∃ i j, xs = [V.int i, .int j] ∧ Q (.int (if j < i then j else i)) H) pMin := fun f F H σ ρ vs xs Q R E r p o => by
  unfold pMin at p
  split at p
  · obtain ⟨u, w, rfl, r1, r2⟩ := rp2 r
    cases r1; cases r2
    exact ⟨_, _, rfl, o _ _ _ _ p E (Same.refl _) (.int _)⟩
  · exact p.elim
theorem cd_max : CallD Γ (fun xs H Q => ∃ i j, xs = [V.int i, .int j] ∧ Q (.int (if j > i then j else i)) H) pMax := fun f F H σ ρ vs xs Q R E r p o => by
  unfold pMax at p
  split at p
  · obtain ⟨u, w, rfl, r1, r2⟩ := rp2 r
    cases r1; cases r2
    exact ⟨_, _, rfl, o _ _ _ _ p E (Same.refl _) (.int _)⟩
  · exact p.elim
theorem cd_abs : CallD Γ (fun xs H Q => ∃ i, xs = [V.int i] ∧ Q (.int (if i < 0 then -i else i)) H) pAbs := fun f F H σ ρ vs xs Q R E r p o => by
  unfold pAbs at p
  split at p
  · obtain ⟨u, rfl, r1⟩ := rp1 r
    cases r1
    exact ⟨_, rfl, o _ _ _ _ p E (Same.refl _) (.int _)⟩
  · exact p.elim
def rTupleOf (K : PySem.W.Frag) : List V → Hp → VK → Prop := fun xs H Q => ∃ p ys, xs = [V.ref p] ∧ ((SqL K H p ys ∧ ∀ l, H l = none → Q (.ref l) (upd H l (.tup ys))) ∨ (SqT K H p ys ∧ Q (.ref p) H))
theorem cd_tuple : CallD Γ (rTupleOf Γ.K) pTuple := fun f F H σ ρ vs xs Q R E r p o => by
  unfold pTuple at p
  split at p
  · obtain ⟨u, rfl, r1⟩ := rp1 r
    cases r1 with
    | lst hs ha =>
      refine ⟨_, _, rfl, .inl ⟨.of (E.s1 _ _ hs), fun l nl => ?_⟩⟩
      have nF := E.fnone nl
      exact o _ _ _ _ p (E.alloc nl) (same_updF nF) (.tup (.of upd_same) (DqAll.same (same_updF nF) _ ha))
  · obtain ⟨u, rfl, r1⟩ := rp1 r
    cases r1 with
    | tup hs ha => exact ⟨_, _, rfl, .inr ⟨Same.tup E.s1 hs, o _ _ _ _ p E (Same.refl _) (.tup hs ha)⟩⟩
  · exact p.elim
theorem cd_repr : CallD Γ (rRepD Γ.K) pRepr := fun f F H σ ρ vs xs Q R E r p o => by
  unfold pRepr at p
  split at p
  · obtain ⟨u, rfl, r1⟩ := rp1 r
    exact ⟨_, _, rfl, Dp.same E.s1 _ (Dq.dp _ r1), p.1, p.2.1, p.2.2.1, o _ _ _ _ p.2.2.2 E (Same.refl _) (.str _)⟩
  · exact p.elim
theorem cd_len : CallD Γ (fun xs H Q => ∃ p ys, xs = [V.ref p] ∧ (SqL Γ.K H p ys ∨ SqT Γ.K H p ys) ∧ Q (.int ys.length) H) pLenB := fun f F H σ ρ vs xs Q R E r p o => by
  unfold pLenB at p
  split at p
  · obtain ⟨u, rfl, r1⟩ := rp1 r
    unfold pLen at p
    split at p
    · cases r1 with
      | lst hs ha => exact ⟨_, _, rfl, .inl (.of (E.s1 _ _ hs)), by rw [ha.len]; exact o _ _ _ _ p E (Same.refl _) (.int _)⟩
    · cases r1 with
      | tup hs ha => exact ⟨_, _, rfl, .inr (Same.tup E.s1 hs), by rw [ha.len]; exact o _ _ _ _ p E (Same.refl _) (.int _)⟩
    · obtain ⟨q, rfl, hs⟩ := r1
      exact ⟨_, _, rfl, .inl (E.s1.seq hs), by rw [List.length_map]; exact o _ _ _ _ p E (Same.refl _) (.int _)⟩
    · exact p.elim
  · exact p.elim
theorem cd_sum : CallD Γ (rSum Γ.K) pSum := fun f F H σ ρ vs xs Q R E r p o => by
  unfold pSum at p
  split at p
  · obtain ⟨u, rfl, r1⟩ := rp1 r
    obtain ⟨ns, rfl, p⟩ := p
    cases r1 with
    | lst hs ha =>
      have e := ha.ints
      subst e
      exact ⟨_, ns, rfl, .of (E.s1 _ _ hs), o _ _ _ _ p E (Same.refl _) (.int _)⟩
  · exact p.elim
theorem cd_all : CallD Γ (rAll Γ.K) pAll := fun f F H σ ρ vs xs Q R E r p o => by
  unfold pAll at p
  split at p
  · obtain ⟨u, rfl, r1⟩ := rp1 r
    obtain ⟨ns, rfl, p⟩ := p
    cases r1 with
    | lst hs ha =>
      have e := ha.bools
      subst e
      exact ⟨_, ns, rfl, .of (E.s1 _ _ hs), o _ _ _ _ p E (Same.refl _) (.bl _)⟩
  · exact p.elim
theorem cd_any : CallD Γ (rAny Γ.K) pAny := fun f F H σ ρ vs xs Q R E r p o => by
  unfold pAny at p
  split at p
  · obtain ⟨u, rfl, r1⟩ := rp1 r
    obtain ⟨ns, rfl, p⟩ := p
    cases r1 with
    | lst hs ha =>
      have e := ha.bools
      subst e
      exact ⟨_, ns, rfl, .of (E.s1 _ _ hs), o _ _ _ _ p E (Same.refl _) (.bl _)⟩
  · exact p.elim
/-- sorted(xs) of ints -/
def lSortI (a : EE) : LL := fun ρ R Xx => a ρ (fun x ρ1 => dL x fun ds => ∃ ns : List Int, ds = ns.map PyData.int ∧ ns.length < 64 ∧ ∀ ns' : List Int, ns'.Perm ns → ns'.Pairwise (· ≤ ·) → R (ns'.map PyData.int) ρ1) Xx
theorem dl_sortI (hpe : ∀ {ta : TE}, PE X e1 ta → PE X e (tCB (rSorted Γ.K) (tCons ta tNil))) {ta : TE} (h1 : DE Γ X W e1 ta a) : DL Γ X W e (tCB (rSorted Γ.K) (tCons ta tNil)) (lSortI a) := by
  obtain ⟨p1, d1⟩ := h1
  refine ⟨hpe p1, fun f F H σ ρ Q R Xx E q o ox => ?_⟩
  refine d1 f F H σ ρ _ _ Xx E q (fun x ρ1 F1 H1 v1 q1 E1 s1 r1 => ?_) ox
  obtain ⟨us, rfl, q2⟩ := dL_of q1
  obtain ⟨ns, rfl, h64, q2⟩ := q2
  cases r1 with
  | lst hs ha =>
    have e := ha.ints
    subst e
    exact ⟨_, ns, rfl, .of (E1.s1 _ _ hs), h64, fun ns' p h1 h2 np => o _ _ _ _ _ _ (q2 ns' h1 h2) (E1.raw np) s1 (own_new E1 (dqInts ns') np)⟩
/-! ### comprehensions -/
def DTs (Γ : Gx) (X : Cx) (W : WX) (es : List Expr) (t : TT) (ε : BB) : Prop := PTs X es t ∧ DenB Γ W t ε
theorem dts_nil : DTs Γ X W [] tYes bYes := ⟨pts_nil, fun f F H σ ρ Q R Xx E q o ox => o _ _ _ _ q E (Same.refl _)⟩
theorem dts_one {t : TT} {τ : BB} (h : DT Γ X W e t τ) : DTs Γ X W [e] t τ := ⟨pts_one h.1, h.2⟩
abbrev WF : WX := fun _ _ _ _ => False
def aShared : Shared := {}
theorem dl_comp {elt iter : Expr} {ifs : List Expr} {scope : Scope} {own : List (Str × Nat)} {ι : II} {γ : GG} {τ : BB} {ε : EE} {wi : TI} {g : TG} {tt : TT} {te : TE} (hc : X.calm = true) (hN : X.N.Nodup) (hi : DI Γ X W tg iter wi ι) (ok : BlkOk X.N X.env.scope scope own)
    (hg : ∀ (s : Shared) (H : Hp) (C : Addr) (cl : List (Str × Addr)) (fp : List Addr), DG Γ (X.blk s H scope (compEnvC scope cl C X.env) fp) tg g γ gs)
    (ht : ∀ (s : Shared) (H : Hp) (C : Addr) (cl : List (Str × Addr)) (fp : List Addr), DTs Γ (X.blk s H scope (compEnvC scope cl C X.env) fp) WF ifs tt τ)
    (he : ∀ (s : Shared) (H : Hp) (C : Addr) (cl : List (Str × Addr)) (fp : List Addr), DE Γ (X.blk s H scope (compEnvC scope cl C X.env) fp) WF elt te ε)
    (hn : (own.map (·.2)).Nodup := by decide) (hgs : ∀ v ∈ gs, v ∈ own.map (·.2) := by decide) (hs : ∀ x, foldedSetIterable iter X.env x = pure x := by intro _; rfl) :
    DL Γ X W (.ListComp elt [⟨tg, iter, ifs, 0⟩] scope pos) (tLc wi g tt te (own.map (·.2))) (lLc ι γ τ ε (own.map (·.2))) :=
  dl_lc (X' := X) (t0 := te) hn hgs (pe_lc hc hN hi.1 ok (fun s H C cl fp => (hg s H C cl fp).1) (fun s H C cl fp => (ht s H C cl fp).1) (fun s H C cl fp => (he s H C cl fp).1) hs) hi.2 (hg aShared (fun _ => none) 0 [] []).2 (ht aShared (fun _ => none) 0 [] []).2 (he aShared (fun _ => none) 0 [] []).2
theorem den_setO {l : LL} {t : TE} (d : DenL Γ W t l) : DenS Γ W (tAsg t (gName i)) (sSetO i l) := fun f F H σ ρ P D E q o => by
  refine d f F H σ ρ _ _ P.ex E q (fun ds ρ1 F1 H1 a xs q1 E1 s1 w => ?_) (o.ex σ)
  exact o.nx _ _ _ _ q1 (E1.setO w.hH w.hD w.hF (.inl w.h0) w.hO w.hR) s1
theorem den_set {t : TE} (d : DenE Γ W t a) : DenS Γ W (tAsg t (gName i)) (sAsg a (gNm i)) := fun f F H σ ρ P D E q o => by
  refine d f F H σ ρ _ _ P.ex E q (fun x ρ1 F1 H1 v1 q1 E1 s1 r1 => ?_) (o.ex σ)
  exact den_gName f F1 H1 σ ρ1 v1 x _ _ E1 r1 q1 fun σ2 ρ2 F2 H2 q2 E2 s2 _ _ => o.nx _ _ _ _ q2 E2 (s1.trans s2)
/-- x = [.. for ..] -/
theorem ds_setLcO {y : Str} {py spos : Pos} {elt iter : Expr} {ifs : List Expr} {scope : Scope} {own : List (Str × Nat)} {ι : II} {γ : GG} {τ : BB} {ε : EE} {wi : TI} {g : TG} {tt : TT} {te : TE} (hc : X.calm = true) (hN : X.N.Nodup) (hy : X.N[i]? = some y) (hyl : X.env.scope.names.lookup y = some .local)
    (hsw : swapsWith (.ListComp elt [⟨tg, iter, ifs, 0⟩] scope pos) (some (.Name y py)) spos.line X.env = pure true) (hi : DI Γ X W tg iter wi ι) (ok : BlkOk X.N X.env.scope scope own)
    (hg : ∀ (s : Shared) (H : Hp) (C : Addr) (cl : List (Str × Addr)) (fp : List Addr), DG Γ (X.blk s H scope (compEnvC scope cl C X.env) fp) tg g γ gs)
    (ht : ∀ (s : Shared) (H : Hp) (C : Addr) (cl : List (Str × Addr)) (fp : List Addr), DTs Γ (X.blk s H scope (compEnvC scope cl C X.env) fp) WF ifs tt τ)
    (he : ∀ (s : Shared) (H : Hp) (C : Addr) (cl : List (Str × Addr)) (fp : List Addr), DE Γ (X.blk s H scope (compEnvC scope cl C X.env) fp) WF elt te ε)
    (hn : (own.map (·.2)).Nodup := by decide) (hgs : ∀ v ∈ gs, v ∈ own.map (·.2) := by decide) (hs : ∀ x, foldedSetIterable iter X.env x = pure x := by intro _; rfl) :
    DS Γ X W (.Assign [.Name y py] (.ListComp elt [⟨tg, iter, ifs, 0⟩] scope pos) spos) (tAsg (tLc wi g tt te (own.map (·.2))) (gName i)) (sSetO i (lLc ι γ τ ε (own.map (·.2)))) := by
  have h := dl_comp (pos := pos) hc hN hi ok hg ht he hn hgs hs
  exact ⟨ps_setLc hc hN hy hyl hsw hi.1 ok (fun s H C cl fp => (hg s H C cl fp).1) (fun s H C cl fp => (ht s H C cl fp).1) (fun s H C cl fp => (he s H C cl fp).1) hs, den_setO h.2⟩
theorem ds_setLc {y : Str} {py spos : Pos} {elt iter : Expr} {ifs : List Expr} {scope : Scope} {own : List (Str × Nat)} {ι : II} {γ : GG} {τ : BB} {ε : EE} {wi : TI} {g : TG} {tt : TT} {te : TE} (hc : X.calm = true) (hN : X.N.Nodup) (hy : X.N[i]? = some y) (hyl : X.env.scope.names.lookup y = some .local)
    (hsw : swapsWith (.ListComp elt [⟨tg, iter, ifs, 0⟩] scope pos) (some (.Name y py)) spos.line X.env = pure true) (hi : DI Γ X W tg iter wi ι) (ok : BlkOk X.N X.env.scope scope own)
    (hg : ∀ (s : Shared) (H : Hp) (C : Addr) (cl : List (Str × Addr)) (fp : List Addr), DG Γ (X.blk s H scope (compEnvC scope cl C X.env) fp) tg g γ gs)
    (ht : ∀ (s : Shared) (H : Hp) (C : Addr) (cl : List (Str × Addr)) (fp : List Addr), DTs Γ (X.blk s H scope (compEnvC scope cl C X.env) fp) WF ifs tt τ)
    (he : ∀ (s : Shared) (H : Hp) (C : Addr) (cl : List (Str × Addr)) (fp : List Addr), DE Γ (X.blk s H scope (compEnvC scope cl C X.env) fp) WF elt te ε)
    (hn : (own.map (·.2)).Nodup := by decide) (hgs : ∀ v ∈ gs, v ∈ own.map (·.2) := by decide) (hs : ∀ x, foldedSetIterable iter X.env x = pure x := by intro _; rfl) :
    DS Γ X W (.Assign [.Name y py] (.ListComp elt [⟨tg, iter, ifs, 0⟩] scope pos) spos) (tAsg (tLc wi g tt te (own.map (·.2))) (gName i)) (sAsg (eFz (lLc ι γ τ ε (own.map (·.2)))) (gNm i)) := by
  have h := de_fz (dl_comp (pos := pos) hc hN hi ok hg ht he hn hgs hs)
  exact ⟨ps_setLc hc hN hy hyl hsw hi.1 ok (fun s H C cl fp => (hg s H C cl fp).1) (fun s H C cl fp => (ht s H C cl fp).1) (fun s H C cl fp => (he s H C cl fp).1) hs, den_set h.2⟩
/-! ### exceptions -/
def eIsX (i : Nat) (b : Nat → Bool) : EE := fun ρ R _ => match ρ[i]? with
  | some (.a (.exc c _)) => R (.d (.bool (b c))) ρ
  | _ => False
theorem de_isX {cv : V} {cu : Value} {bb : Nat → Bool} (hE : ∀ c, ExcC Γ.K (Γ.C c)) (hcv : ClsV cv cu) (hk : ∀ c, PySem.W.kitOne Γ.K (.ref (Γ.C c)) cu = some (bb c)) (hpe : PE X e (tCB (rIsX Γ.K) (tCons (tVar i) (tCons (tC cv) tNil)))) : DE Γ X W e (tCB (rIsX Γ.K) (tCons (tVar i) (tCons (tC cv) tNil))) (eIsX i bb) := by
  refine ⟨hpe, fun f F H σ ρ Q R Xx E q o ox => ?_⟩
  unfold eIsX at q
  split at q
  · rename_i c x hx
    obtain ⟨u, hu, a, dd, uv, rfl, h1, h2, h3⟩ := E.sl i _ hx
    exact ⟨_, hu, a, Γ.C c, dd, _, cv, cu, bb c, rfl, E.s1 _ _ h1, E.s1 _ _ h2, hE c, hcv, hk c, o _ _ _ _ _ q E (Same.refl _) (.bl _)⟩
  · exact q.elim
def eVal (i : Nat) : EE := fun ρ R _ => match ρ[i]? with
  | some (.a (.exc _ d)) => R (.d d) ρ
  | _ => False
theorem de_val (hE : ∀ c, ExcC Γ.K (Γ.C c)) (hno : ∀ c, PySem.W.findIn Γ.K (.ref (Γ.C c)) "value" = some none) (hpe : PE X e (tValue Γ.K (tVar i))) : DE Γ X W e (tValue Γ.K (tVar i)) (eVal i) := by
  refine ⟨hpe, fun f F H σ ρ Q R Xx E q o ox => ?_⟩
  unfold eVal at q
  split at q
  · rename_i c x hx
    obtain ⟨u, hu, a, dd, uv, rfl, h1, h2, h3⟩ := E.sl i _ hx
    exact ⟨_, hu, a, Γ.C c, dd, uv, rfl, E.s1 _ _ h1, E.s1 _ _ h2, hE c, hno c, o _ _ _ _ _ q E (Same.refl _) h3⟩
  · exact q.elim
def eCnt (i : Nat) (b : EE) : EE := fun ρ R Xx => b ρ (fun y ρ1 => dD y fun d => match ρ1[i]? with
  | some (.a (.d (.list ds))) => flatD d = true ∧ ds.all flatD = true ∧ R (.d (.int (ds.countP fun z => eqV (vOf z) (vOf d) : Nat))) ρ1
  | _ => False) Xx
end
end Cc

set_option Elab.async false
set_option linter.all false
set_option maxRecDepth 100000
set_option maxHeartbeats 4000000
/-! The pure layer: readings, one step each. -/
namespace Cc
open PySem PySem.Spec PyProof.Rows L2
section
variable {ρ : List Sl} {R : A → List Sl → Prop} {RL : List PyData → List Sl → Prop} {RA : List A → List Sl → Prop} {RB : Bool → List Sl → Prop} {Xx : XX} {P : EndsP} {a b c : EE} {as : AA} {t : BB} {k k' : SS} {g : GG} {gs : GGs} {l : LL} {i j : Nat} {p p' : P2} {d u w : PyData} {ds es : List PyData} {x : A} {ι : II} {vs : List Nat} {φ : Phi} {pl : PL}
theorem y_var : eVar i ρ R Xx ↔ match ρ[i]? with
  | some (.a x) => R x ρ
  | some (.own ds) => R (.d (.list ds)) (ρ.set i (.a (.d (.list ds))))
  | _ => False := Iff.rfl
theorem y_c : eC d ρ R Xx ↔ R (.d d) ρ := Iff.rfl
theorem y_op : eOp p a b ρ R Xx ↔ a ρ (fun x ρ1 => b ρ1 (fun y ρ2 => dD x fun u => dD y fun w => p u w fun d => R (.d d) ρ2) Xx) Xx := Iff.rfl
theorem y_un {q : PyData → (PyData → Prop) → Prop} : eUn q a ρ R Xx ↔ a ρ (fun x ρ1 => dD x fun u => q u fun d => R (.d d) ρ1) Xx := Iff.rfl
theorem y_and : eAnd a b ρ R Xx ↔ a ρ (fun x ρ1 => dB x fun c => if c = true then b ρ1 R Xx else R (.d (.bool false)) ρ1) Xx := Iff.rfl
theorem y_or : eOr a b ρ R Xx ↔ a ρ (fun x ρ1 => dB x fun c => if c = true then R (.d (.bool true)) ρ1 else b ρ1 R Xx) Xx := Iff.rfl
theorem y_not : eNot a ρ R Xx ↔ a ρ (fun x ρ1 => dB x fun c => R (.d (.bool !c)) ρ1) Xx := Iff.rfl
theorem y_if : eIf t a b ρ R Xx ↔ t ρ (fun c ρ1 => if c = true then a ρ1 R Xx else b ρ1 R Xx) Xx := Iff.rfl
theorem y_isN : eIsN a ρ R Xx ↔ a ρ (fun x ρ1 => R (.d (.bool (isNon x))) ρ1) Xx := Iff.rfl
theorem y_notN : eNotN a ρ R Xx ↔ a ρ (fun x ρ1 => R (.d (.bool !(isNon x))) ρ1) Xx := Iff.rfl
theorem y_bOf : bOf a ρ RB Xx ↔ a ρ (fun x ρ1 => dB x fun c => RB c ρ1) Xx := Iff.rfl
theorem y_bTru : bTru a ρ RB Xx ↔ a ρ (fun x ρ1 => truP x fun b => RB b ρ1) Xx := Iff.rfl
theorem y_bNot : bNot t ρ RB Xx ↔ t ρ (fun b ρ1 => RB (!b) ρ1) Xx := Iff.rfl
theorem y_bYes : bYes ρ RB Xx ↔ RB true ρ := Iff.rfl
theorem y_aNil : aNil ρ RA Xx ↔ RA [] ρ := Iff.rfl
theorem y_aCons : aCons a as ρ RA Xx ↔ a ρ (fun x ρ1 => as ρ1 (fun xs ρ2 => RA (x :: xs) ρ2) Xx) Xx := Iff.rfl
theorem y_aStar : aStar a as ρ RA Xx ↔ a ρ (fun x ρ1 => dS x fun us => as ρ1 (fun xs ρ2 => RA (us.map A.d ++ xs) ρ2) Xx) Xx := Iff.rfl
theorem y_tup : eTup as ρ R Xx ↔ as ρ (fun xs ρ1 => dAll xs fun ds => szL ds.length ∧ R (.d (.tuple ds)) ρ1) Xx := Iff.rfl
theorem y_disp : lDisp as ρ RL Xx ↔ as ρ (fun xs ρ1 => dAll xs fun ds => szL ds.length ∧ RL ds ρ1) Xx := Iff.rfl
theorem y_fz : eFz l ρ R Xx ↔ l ρ (fun ds ρ1 => R (.d (.list ds)) ρ1) Xx := Iff.rfl
theorem y_cb : eCB pl as ρ R Xx ↔ as ρ (fun xs ρ1 => pl xs fun d => R (.d d) ρ1) Xx := Iff.rfl
theorem y_cat : lCat a b ρ RL Xx ↔ a ρ (fun x ρ1 => b ρ1 (fun y ρ2 => dL x fun u => dL y fun w => szL (u.length + w.length) ∧ RL (u ++ w) ρ2) Xx) Xx := Iff.rfl
theorem y_of : lOf a ρ RL Xx ↔ a ρ (fun x ρ1 => dS x fun u => RL u ρ1) Xx := Iff.rfl
theorem y_sl {lo hi : Option EE} : lSl a lo hi ρ RL Xx ↔ a ρ (fun x ρ1 => dL x fun u => dO lo ρ1 (fun l ρ2 => dO hi ρ2 (fun h ρ3 => RL (cutA u l h) ρ3) Xx) Xx) Xx := Iff.rfl
theorem y_dO0 {Q : Option Int → List Sl → Prop} : dO none ρ Q Xx ↔ Q none ρ := Iff.rfl
theorem y_dO1 {Q : Option Int → List Sl → Prop} : dO (some a) ρ Q Xx ↔ a ρ (fun x ρ1 => dI x fun i => Q (some i) ρ1) Xx := Iff.rfl
theorem y_ixN : eIxN i a ρ R Xx ↔ match ρ[i]? with
  | some (.own _) => a ρ (fun y ρ1 => dI y fun k => match ρ1[i]? with | some (.own ds) => ∃ d, atI ds k = some d ∧ R (.d d) ρ1 | _ => False) Xx
  | some (.a x) => a ρ (fun y ρ1 => dD x fun u => dD y fun w => pIx u w fun d => R (.d d) ρ1) Xx
  | _ => False := Iff.rfl
theorem y_lenN : eLenN i ρ R Xx ↔ match ρ[i]? with
  | some (.own ds) => R (.d (.int ds.length)) ρ
  | some (.a x) => pLen x fun n => R (.d (.int n)) ρ
  | _ => False := Iff.rfl
theorem y_chain : eChain p p' a b c ρ R Xx ↔ a ρ (fun x ρ1 => b ρ1 (fun y ρ2 => dD x fun u => dD y fun w => p u w fun d => dB (.d d) fun k => if k = true then c ρ2 (fun z ρ3 => dD z fun v => p' w v fun d => R (.d d) ρ3) Xx else R (.d (.bool false)) ρ2) Xx) Xx := Iff.rfl
theorem y_call0 : eCall0 φ as ρ R Xx ↔ as ρ (fun xs ρ1 => φ 0 xs (fun x _ => R x ρ1) (fun _ _ _ => False)) Xx := Iff.rfl
theorem y_call : eCall φ as ρ R Xx ↔ as ρ (fun xs ρ1 => φ 0 xs (fun x _ => R x ρ1) (fun c d _ => Xx c d ρ1)) Xx := Iff.rfl
theorem y_callR0 : eCallR0 i φ as ρ R Xx ↔ (∃ m, ρ[i]? = some (.rng m)) ∧ as ρ (fun xs ρ1 => match ρ1[i]? with
  | some (.rng n) => φ n xs (fun x n' => R x (ρ1.set i (.rng n'))) (fun _ _ _ => False)
  | _ => False) Xx := Iff.rfl
theorem y_seq : sSeq k k' ρ P ↔ k ρ { P with nx := fun ρ1 => k' ρ1 P } := Iff.rfl
theorem y_next : sNext ρ P ↔ P.nx ρ := Iff.rfl
theorem y_brk : sBrk ρ P ↔ P.bk ρ := Iff.rfl
theorem y_cnt : sCnt ρ P ↔ P.ct ρ := Iff.rfl
theorem y_asg : sAsg a g ρ P ↔ a ρ (fun x ρ1 => g x ρ1 P.nx) P.ex := Iff.rfl
theorem y_setO : sSetO i l ρ P ↔ l ρ (fun ds ρ1 => P.nx (ρ1.set i (.own ds))) P.ex := Iff.rfl
theorem y_gNm {Q : List Sl → Prop} : gNm i x ρ Q ↔ Q (ρ.set i (.a x)) := Iff.rfl
theorem y_gTp {n : Nat} {Q : List Sl → Prop} : gTp n gs (.d (.tuple ds)) ρ Q ↔ ds.length = n ∧ gs ds ρ Q := Iff.rfl
theorem y_gsNil {Q : List Sl → Prop} : gsNil [] ρ Q ↔ Q ρ := Iff.rfl
theorem y_gsCons {Q : List Sl → Prop} : gsCons g gs (d :: ds) ρ Q ↔ g (.d d) ρ fun ρ1 => gs ds ρ1 Q := Iff.rfl
theorem y_subO {Q : List Sl → Prop} : gSubO i a (.d d) ρ Q ↔ (∃ ds, ρ[i]? = some (.own ds)) ∧ a ρ (fun y ρ1 => dI y fun k => match ρ1[i]? with | some (.own ds) => ∃ j, ixN ds.length k = some j ∧ Q (ρ1.set i (.own (ds.set j d))) | _ => False) (fun _ _ _ => False) := Iff.rfl
theorem y_par : sPar i j as ρ P ↔ as ρ (fun xs ρ1 => match xs with | [x, y] => P.nx ((ρ1.set i (.a x)).set j (.a y)) | _ => False) P.ex := Iff.rfl
theorem y_aug {q : Int → Int → Int} : sAug i q a ρ P ↔ match ρ[i]? with
  | some (.a x) => dI x fun n => a ρ (fun y ρ1 => dI y fun m => P.nx (ρ1.set i (.a (.d (.int (q n m)))))) P.ex
  | _ => False := Iff.rfl
theorem y_expr : sExpr a ρ P ↔ a ρ (fun _ ρ1 => P.nx ρ1) P.ex := Iff.rfl
theorem y_app : sApp i a ρ P ↔ (∃ ds, ρ[i]? = some (.own ds)) ∧ a ρ (fun y ρ1 => dD y fun d => match ρ1[i]? with | some (.own ds) => szL (ds.length + 1) ∧ P.nx (ρ1.set i (.own (ds ++ [d]))) | _ => False) P.ex := Iff.rfl
theorem y_ext : sExt i a ρ P ↔ (∃ ds, ρ[i]? = some (.own ds)) ∧ a ρ (fun y ρ1 => dL y fun es => match ρ1[i]? with | some (.own ds) => szL (ds.length + es.length) ∧ P.nx (ρ1.set i (.own (ds ++ es))) | _ => False) P.ex := Iff.rfl
theorem y_ifS : sIf t k k' ρ P ↔ t ρ (fun c ρ1 => if c = true then k ρ1 P else k' ρ1 P) P.ex := Iff.rfl
theorem y_ret : sRet a ρ P ↔ a ρ P.rt P.ex := Iff.rfl
theorem y_retN : sRetN ρ P ↔ P.rt (.d .none) ρ := Iff.rfl
theorem y_for : sFor ι g k ρ P ↔ ι ρ (fun xs ρ1 => LoopP xs g k P ρ1) P.ex := Iff.rfl
theorem y_while : sWhile t k ρ P ↔ WhileP t k P ρ := Iff.rfl
theorem y_iSeq : iSeq a ρ RA Xx ↔ a ρ (fun x ρ1 => match x with
  | .d (.list ds) => RA (ds.map A.d) ρ1
  | .scr ns => RA (ns.map fun n => A.d (.int n)) ρ1
  | _ => False) Xx := Iff.rfl
theorem y_iTp : iTp a ρ RA Xx ↔ a ρ (fun x ρ1 => match x with
  | .d (.tuple ds) => RA (ds.map A.d) ρ1
  | _ => False) Xx := Iff.rfl
theorem y_iR1 : iR1 a ρ RA Xx ↔ a ρ (fun x ρ1 => dI x fun k => -(2 ^ 62) ≤ k ∧ k < 2 ^ 62 ∧ RA (rngA 0 k.toNat) ρ1) Xx := Iff.rfl
theorem y_iR2 : iR2 a b ρ RA Xx ↔ a ρ (fun x ρ1 => b ρ1 (fun y ρ2 => dI x fun i => dI y fun j => (-(2 ^ 62) ≤ i ∧ i < 2 ^ 62 ∧ -(2 ^ 62) ≤ j ∧ j < 2 ^ 62) ∧ RA (rngA i (j - i).toNat) ρ2) Xx) Xx := Iff.rfl
theorem y_iEn : iEn a ρ RA Xx ↔ a ρ (fun x ρ1 => dL x fun ds => RA (enA ds) ρ1) Xx := Iff.rfl
theorem y_iZp : iZp a b ρ RA Xx ↔ a ρ (fun x ρ1 => b ρ1 (fun y ρ2 => match x, y with
  | .d (.list ds), .d (.list es) => RA (zipA ds es) ρ2
  | .d (.tuple ds), .d (.tuple es) => RA (zipA ds es) ρ2
  | _, _ => False) Xx) Xx := Iff.rfl
theorem y_lc : lLc ι g t a vs ρ RL Xx ↔ ι ρ (fun xs ρ1 => LcP xs g t a vs RL ρ1) Xx := Iff.rfl
theorem y_raise {n : Nat} : sRaise n a ρ P ↔ a ρ (fun x ρ1 => dD x fun d => P.ex n d ρ1) P.ex := Iff.rfl
theorem y_dD {Q : PyData → Prop} : dD (.d d) Q ↔ Q d := Iff.rfl
theorem y_dB {b : Bool} {Q : Bool → Prop} : dB (.d (.bool b)) Q ↔ Q b := Iff.rfl
theorem y_dI {b : Int} {Q : Int → Prop} : dI (.d (.int b)) Q ↔ Q b := Iff.rfl
theorem y_dL {Q : List PyData → Prop} : dL (.d (.list ds)) Q ↔ Q ds := Iff.rfl
theorem y_dSl {Q : List PyData → Prop} : dS (.d (.list ds)) Q ↔ Q ds := Iff.rfl
theorem y_dSt {Q : List PyData → Prop} : dS (.d (.tuple ds)) Q ↔ Q ds := Iff.rfl
theorem y_dAll0 {Q : List PyData → Prop} : dAll [] Q ↔ Q [] := Iff.rfl
theorem y_dAllS {xs : List A} {Q : List PyData → Prop} : dAll (x :: xs) Q ↔ dD x fun d => dAll xs fun ds => Q (d :: ds) := Iff.rfl
theorem dAll_map : ∀ {ds : List PyData} {Q : List PyData → Prop}, dAll (ds.map A.d) Q ↔ Q ds
  | [], _ => Iff.rfl
  | d :: ds, Q => dAll_map (ds := ds) (Q := fun es => Q (d :: es))
theorem y_I0 {q : Int → Int → PyData} {a b : Int} {Q : PyData → Prop} : pI0 q (.int a) (.int b) Q ↔ Q (q a b) := Iff.rfl
theorem y_I {C : Int → Int → Prop} {q : Int → Int → PyData} {a b : Int} {Q : PyData → Prop} : pI C q (.int a) (.int b) Q ↔ C a b ∧ Q (q a b) := Iff.rfl
theorem y_eqI {a b : Int} {Q : PyData → Prop} : pEq (.int a) (.int b) Q ↔ Q (.bool (decide (a = b))) := Iff.rfl
theorem y_eqS {a b : Str} {Q : PyData → Prop} : pEq (.str a) (.str b) Q ↔ Q (.bool (decide (a = b))) := Iff.rfl
theorem y_eqB {a b : Bool} {Q : PyData → Prop} : pEq (.bool a) (.bool b) Q ↔ Q (.bool (decide (a = b))) := Iff.rfl
theorem y_neI {a b : Int} {Q : PyData → Prop} : pNe (.int a) (.int b) Q ↔ Q (.bool (!decide (a = b))) := Iff.rfl
theorem y_neS {a b : Str} {Q : PyData → Prop} : pNe (.str a) (.str b) Q ↔ Q (.bool (!decide (a = b))) := Iff.rfl
theorem y_neB {a b : Bool} {Q : PyData → Prop} : pNe (.bool a) (.bool b) Q ↔ Q (.bool (!decide (a = b))) := Iff.rfl
theorem y_neg {a : Int} {Q : PyData → Prop} : pNeg (.int a) Q ↔ Q (.int (-a)) := Iff.rfl
theorem y_ixL {z : Int} {Q : PyData → Prop} : pIx (.list ds) (.int z) Q ↔ ∃ d, atI ds z = some d ∧ Q d := Iff.rfl
theorem y_ixT {z : Int} {Q : PyData → Prop} : pIx (.tuple ds) (.int z) Q ↔ ∃ d, atI ds z = some d ∧ Q d := Iff.rfl
theorem y_min {a b : Int} {Q : PyData → Prop} : pMin [.d (.int a), .d (.int b)] Q ↔ Q (.int (if b < a then b else a)) := Iff.rfl
theorem y_max {a b : Int} {Q : PyData → Prop} : pMax [.d (.int a), .d (.int b)] Q ↔ Q (.int (if b > a then b else a)) := Iff.rfl
theorem y_abs {a : Int} {Q : PyData → Prop} : pAbs [.d (.int a)] Q ↔ Q (.int (if a < 0 then -a else a)) := Iff.rfl
theorem y_lenL {Q : Int → Prop} : pLen (.d (.list ds)) Q ↔ Q ds.length := Iff.rfl
theorem y_lenT {Q : Int → Prop} : pLen (.d (.tuple ds)) Q ↔ Q ds.length := Iff.rfl
theorem y_lenS {ns : List Int} {Q : Int → Prop} : pLen (.scr ns) Q ↔ Q ns.length := Iff.rfl
theorem y_lenB {Q : PyData → Prop} : pLenB [x] Q ↔ pLen x fun n => Q (.int n) := Iff.rfl
theorem y_truL {Q : Bool → Prop} : truP (.d (.list ds)) Q ↔ Q (!ds.isEmpty) := Iff.rfl
theorem y_truT {Q : Bool → Prop} : truP (.d (.tuple ds)) Q ↔ Q (!ds.isEmpty) := Iff.rfl
theorem y_inL {neg : Bool} {Q : PyData → Prop} : pIn neg d (.list ds) Q ↔ flatD d = true ∧ ds.all flatD = true ∧ Q (.bool (if neg then !inV (vOf d) (ds.map vOf) else inV (vOf d) (ds.map vOf))) := by
  cases d <;> rfl
theorem y_inT {neg : Bool} {Q : PyData → Prop} : pIn neg d (.tuple ds) Q ↔ flatD d = true ∧ ds.all flatD = true ∧ Q (.bool (if neg then !inV (vOf d) (ds.map vOf) else inV (vOf d) (ds.map vOf))) := by
  cases d <;> rfl
theorem y_ex1 {α : Type} {a : α} {Q : α → Prop} : (∃ d, some a = some d ∧ Q d) ↔ Q a := ⟨fun ⟨_, e, q⟩ => by cases e; exact q, fun q => ⟨_, rfl, q⟩⟩
theorem y_exO : (∃ es, some (Sl.own ds) = some (.own es)) ↔ True := ⟨fun _ => trivial, fun _ => ⟨_, rfl⟩⟩
theorem y_exR {n : Nat} : (∃ m, some (Sl.rng n) = some (.rng m)) ↔ True := ⟨fun _ => trivial, fun _ => ⟨_, rfl⟩⟩
theorem sz0 : szL 0 ↔ True := by unfold szL; simp
theorem sz_small {n : Nat} (h : n ≤ 1000) : szL n := by unfold szL; rw [sizeLine_eq]; omega
theorem at0 {α : Type} {a : α} {l : List α} : atI (a :: l) 0 = some a := atI_nat (j := 0) rfl
theorem at1 {α : Type} {a b : α} {l : List α} : atI (a :: b :: l) 1 = some b := atI_nat (j := 1) rfl
theorem at2 {α : Type} {a b c : α} {l : List α} : atI (a :: b :: c :: l) 2 = some c := atI_nat (j := 2) rfl
theorem at3 {α : Type} {a b c d : α} {l : List α} : atI (a :: b :: c :: d :: l) 3 = some d := atI_nat (j := 3) rfl
end
/-- a loop by an invariant -/
theorem loop {xs : List A} {g : GG} {b : SS} {P : EndsP} {ρ : List Sl} (Inv : Nat → List Sl → Prop) (h0 : Inv 0 ρ) (hs : ∀ i x ρ1, xs[i]? = some x → Inv i ρ1 → g x ρ1 fun ρ2 => b ρ2 { P with nx := Inv (i + 1), ct := Inv (i + 1), bk := P.nx }) (hd : ∀ ρ1, Inv xs.length ρ1 → P.nx ρ1) : LoopP xs g b P ρ := ⟨Inv, h0, hs, hd⟩
theorem loopR {lo : Int} {n : Nat} {g : GG} {b : SS} {P : EndsP} {ρ : List Sl} (Inv : Nat → List Sl → Prop) (h0 : Inv 0 ρ) (hs : ∀ (i : Nat) ρ1, i < n → Inv i ρ1 → g (.d (.int (lo + i))) ρ1 fun ρ2 => b ρ2 { P with nx := Inv (i + 1), ct := Inv (i + 1), bk := P.nx }) (hd : ∀ ρ1, Inv n ρ1 → P.nx ρ1) : LoopP (rngA lo n) g b P ρ :=
  ⟨Inv, h0, fun i x ρ1 hx h => by
    have hi := (List.getElem?_eq_some_iff.mp hx).1
    rw [rngA_len] at hi
    rw [rngA_get hi] at hx
    cases hx
    exact hs i ρ1 hi h, fun ρ1 h => hd ρ1 (by rwa [rngA_len] at h)⟩
theorem comp {xs : List A} {g : GG} {t : BB} {e : EE} {vs : List Nat} {R : List PyData → List Sl → Prop} {ρ : List Sl} (hp : ∀ v ∈ vs, plainS ρ[v]?) (Inv : Nat → List PyData → List Sl → Prop) (h0 : Inv 0 [] (wipeP ρ vs))
    (hs : ∀ i x acc ρ1, xs[i]? = some x → Inv i acc ρ1 → g x ρ1 fun ρ2 => t ρ2 (fun b ρ3 => if b = true then e ρ3 (fun y ρ4 => dD y fun d => szL (acc.length + 1) ∧ Inv (i + 1) (acc ++ [d]) (wipeP ρ4 vs)) noX else Inv (i + 1) acc (wipeP ρ3 vs)) noX)
    (hd : ∀ acc ρ1, Inv xs.length acc ρ1 → R acc (restP ρ vs ρ1)) : LcP xs g t e vs R ρ := ⟨hp, Inv, h0, hs, hd⟩
end Cc

set_option Elab.async false
set_option linter.all false
set_option maxRecDepth 100000
set_option maxHeartbeats 4000000
/-! The pure layer: promises of the heap layer taken over. -/
namespace Cc
open PySem PySem.Spec PyProof.Rows L2
open Classical in
/-- of what a call left, the part that can be known -/
noncomputable def filt (F F' : Hp) : Hp := fun b => match F' b with
  | none => none
  | some o => if F b ≠ none ∨ smpl o ∨ (∃ C dx fs, o = .ins C dx fs ∧ F' dx = some (.own b)) ∨ (∃ x C fs, o = .own x ∧ F' x = some (.ins C b fs)) then some o else none
section
variable {Γ : Gx} {F F' H H' : Hp} {v : V}
theorem filt_sub : Same (filt F F') F' := fun b o e => by
  unfold filt at e
  cases h : F' b with
  | none => rw [h] at e; cases e
  | some u =>
    rw [h] at e
    dsimp only at e
    split at e
    · exact e
    · cases e
theorem filt_in {b : Addr} {o : HO} (h : F' b = some o) (c : F b ≠ none ∨ smpl o ∨ (∃ C dx fs, o = .ins C dx fs ∧ F' dx = some (.own b)) ∨ (∃ x C fs, o = .own x ∧ F' x = some (.ins C b fs))) : filt F F' b = some o := by
  unfold filt
  rw [h]
  exact if_pos c
theorem filt_same (s : Same F F') : Same F (filt F F') := fun b o e => filt_in (s b o e) (.inl (by rw [e]; exact nofun))
theorem filt_cl (cl : ∀ a o, F a = some o → okO F a o) (s : Same F F') : ∀ a o, filt F F' a = some o → okO (filt F F') a o := fun a o e => by
  have h := filt_sub a o e
  have c : F a ≠ none ∨ smpl o ∨ (∃ C dx fs, o = .ins C dx fs ∧ F' dx = some (.own a)) ∨ (∃ x C fs, o = .own x ∧ F' x = some (.ins C a fs)) := by
    unfold filt at e
    rw [h] at e
    dsimp only at e
    split at e
    · assumption
    · cases e
  rcases c with c | c | ⟨C, dx, fs, rfl, c⟩ | ⟨x, C, fs, rfl, c⟩
  · cases hF : F a with
    | none => exact absurd hF c
    | some u =>
      have z := s _ _ hF
      rw [h] at z
      cases z
      exact (cl a o hF).same (filt_same s)
  · exact .of c
  · exact filt_in c (.inr (.inr (.inr ⟨a, C, fs, rfl, h⟩)))
  · show filt F F' x ≠ none
    rw [filt_in c (.inr (.inr (.inl ⟨C, a, fs, rfl, h⟩)))]
    exact nofun
mutual
theorem Dq.filt : ∀ (d : PyData) {v : V}, Dq Γ.K F' v d → Dq Γ.K (filt F F') v d
  | .none, _, h => by cases h; exact .non
  | .bool b, _, h => by cases h; exact .bl b
  | .int i, _, h => by cases h; exact .int i
  | .str x, _, h => by cases h; exact .str x
  | .list ds, _, h => by
    cases h with
    | lst hs ha => exact .lst (filt_in hs (.inr (.inl trivial))) (DqAll.filt ds ha)
  | .tuple ds, _, h => by
    cases h with
    | @tup a xs _ hs ha =>
      refine .tup ?_ (DqAll.filt ds ha)
      rcases hs with (hs | ⟨o, hs⟩) | hs
      · exact .inl (.inl (filt_in hs (.inr (.inl trivial))))
      · exact .inl (.inr ⟨o, filt_in hs (.inr (.inl (.inr ⟨xs, rfl⟩)))⟩)
      · exact .inr hs
  | .dict _, _, h => by cases h
theorem DqAll.filt : ∀ (ds : List PyData) {vs : List V}, DqAll Γ.K F' vs ds → DqAll Γ.K (filt F F') vs ds
  | [], _, h => by cases h; exact .nil
  | d :: ds, _, h => by
    cases h with
    | cons h1 h2 => exact .cons (Dq.filt d h1) (DqAll.filt ds h2)
end
theorem Rgs.filt : ∀ {xs : List V} {r : Rg}, Rgs Γ.K F' xs r → Rgs Γ.K (filt F F') xs r
  | _, _, .nil => .nil
  | _, _, .cons h t => .cons (filt_in h (.inr (.inl trivial))) (Rgs.filt t)
theorem SqT.filt {a : Addr} {xs : List V} (hs : SqT Γ.K F' a xs) : SqT Γ.K (filt F F') a xs := by
  rcases hs with (hs | ⟨o, hs⟩) | hs
  · exact .inl (.inl (filt_in hs (.inr (.inl trivial))))
  · exact .inl (.inr ⟨o, filt_in hs (.inr (.inl (.inr ⟨xs, rfl⟩)))⟩)
  · exact .inr hs
theorem Lvs.filt {l : Addr} : ∀ {xs : List V} {lv : List Lv}, Lvs Γ.K F' l xs lv → Lvs Γ.K (filt F F') l xs lv
  | _, _, .nil => .nil
  | _, _, .cons h1 h2 ⟨ys, h3, h4⟩ t => .cons (SqT.filt h1) h2 ⟨ys, filt_in h3 (.inr (.inl trivial)), Rgs.filt h4⟩ (Lvs.filt t)
def noScr : A → Prop
  | .scr _ => False
  | _ => True
/-- the answer is known; of an instance its own dict is known, too -/
theorem Rp.filt {x : A} (hx : noScr x) (hd : ∀ a C dx fs, F' a = some (.ins C dx fs) → F' dx = some (.own a)) (h : Rp Γ F' v x) : Rp Γ (filt F F') v x := by
  cases x with
  | d y => exact Dq.filt y h
  | exc c y =>
    obtain ⟨a, d, u, e, h1, h2, h3⟩ := h
    exact ⟨a, d, u, e, filt_in h1 (.inr (.inl trivial)), filt_in h2 (.inr (.inl trivial)), Dq.filt y h3⟩
  | spr S =>
    obtain ⟨p, l, e, dx, xs, h1, h2, h3⟩ := h
    exact ⟨p, l, e, dx, xs, filt_in h1 (.inr (.inr (.inl ⟨_, _, _, rfl, hd _ _ _ _ h1⟩))), filt_in h2 (.inr (.inl trivial)), Lvs.filt h3⟩
  | scr ns => exact hx.elim
/-- what a call at a known part leaves, said of the whole -/
theorem stp_frm {R : Addr → Prop} {r : Addr} {n' : Nat} (sH : Same F H) (cl : ∀ a o, F a = some o → okO F a o) (s : Same F F') (fr : Frm F H F' H') : Stp Γ false R r F H (filt F F') H' n' where
  s0 := filt_same s
  s1 := filt_sub.trans fr.s1
  new b o e := by
    have e' := filt_sub b o e
    rcases fr.new b o e' with h | h
    · cases hF : F b with
      | none => exact absurd hF h
      | some u =>
        have z := s _ _ hF
        rw [e'] at z
        cases z
        exact .inl rfl
    · exact .inr h
  chg b o hb _ := by
    cases hF : F b with
    | none => exact fr.old b o hb hF
    | some u =>
      have z := sH _ _ hF
      rw [hb] at z
      cases z
      exact fr.s1 _ _ (s _ _ hF)
  liv b e := by
    obtain ⟨h1, h2⟩ := fr.liv b e
    rcases h2 with h2 | h2
    · cases hF : F b with
      | none => exact absurd hF h2
      | some u => rw [s _ _ hF] at h1; cases h1
    · exact h2
  at_ h := nomatch h
  cl := filt_cl cl s
end
section
variable {P : Program} {w : World} {Γ : Gx} {mg : Str → Option Value} {base : Heap} {k : Nat} {x : Str} {ps : List Str} {sp : Sp} {φ : Phi}
/-- a promise of the heap layer, of a def that raises nothing and takes no draws -/
theorem Pr.pure0 (h : Pr P w Γ.K mg base CX0 k x ps sp)
    (c : ∀ n us xs F RR Xx (Q : VK) (E : XK), RpAll Γ F us xs → φ n xs RR Xx → (∀ v F' y, Same F F' → RR y 0 → Rp Γ F' v y → noScr y → Q v F') → sp us F Q E) (hn : ∀ n xs RR Xx, φ n xs RR Xx → φ n xs (fun y _ => RR y 0) Xx ∨ φ n xs RR Xx := by exact fun _ _ _ _ h => .inr h) :
    Pr P w Γ.K mg base CX0 k x ps (spP Γ false φ) :=
  (h.frame0).weak fun vs H Q E ⟨R, r, F, n, xs, us, RR, Xx, e, hr, s, hR, hcl, hat, hno, q, o, ox⟩ => by
    have e : vs = us := e
    rw [e]
    refine ⟨F, s, hcl, c n us xs F RR Xx _ _ hr q fun v F' y s' rr hy ns H' fr => ?_⟩
    exact o y 0 v _ H' rr (stp_frm s hcl s' fr) (hy.filt ns fr.ins)
theorem Pr.pureX (h : Pr P w Γ.K mg base (L2N.CX P w) k x ps sp)
    (c : ∀ n us xs F RR Xx (Q : VK) (E : XK), RpAll Γ F us xs → φ n xs RR Xx → (∀ v F' y, Same F F' → RR y 0 → Rp Γ F' v y → noScr y → Q v F') →
      (∀ c dx v y F', Same F F' → Xx c y 0 → F' dx = some (.xd [("value", v)]) → Dq Γ.K F' v y → E (.ref (Γ.C c)) (some dx) F') → sp us F Q E) :
    Pr P w Γ.K mg base (L2N.CX P w) k x ps (spP Γ false φ) :=
  (h.frameX).weak fun vs H Q E ⟨R, r, F, n, xs, us, RR, Xx, e, hr, s, hR, hcl, hat, hno, q, o, ox⟩ => by
    have e : vs = us := e
    rw [e]
    refine ⟨F, s, hcl, c n us xs F RR Xx _ _ hr q (fun v F' y s' rr hy ns H' fr => ?_) fun cc dx v y F' s' xx h1 h2 H' fr => ?_⟩
    · exact o y 0 v _ H' rr (stp_frm s hcl s' fr) (hy.filt ns fr.ins)
    · exact ox cc y 0 v dx _ H' xx (stp_frm s hcl s' fr) (filt_in h1 (.inr (.inl trivial))) (Dq.filt y h2)
end
end Cc

set_option Elab.async false
set_option linter.all false
set_option maxRecDepth 100000
set_option maxHeartbeats 4000000
/-! The pure layer: further rules. -/
namespace Cc
open PySem PySem.Spec PyProof.Rows L2
def gUn (n : Nat) (g : GGs) : GG := fun x ρ R => dL x fun ds => ds.length = n ∧ g ds ρ R
def lRev (a : EE) : LL := fun ρ R Xx => a ρ (fun x ρ1 => dL x fun ds => R ds.reverse ρ1) Xx
def downA (lo : Int) (n : Nat) : List A := (List.range n).map fun i => A.d (.int (lo - (i : Nat)))
/-- range(a, b, -1) -/
def iDn (e e' : EE) : II := fun ρ R Xx => e ρ (fun x ρ1 => e' ρ1 (fun y ρ2 => dI x fun i => dI y fun j => (-(2 ^ 62) ≤ i ∧ i < 2 ^ 62 ∧ -(2 ^ 62) ≤ j ∧ j < 2 ^ 62) ∧ R (downA i (i - j).toNat) ρ2) Xx) Xx
def eOrT (a b : EE) : EE := fun ρ R Xx => a ρ (fun x ρ1 => truP x fun k => if k = true then R x ρ1 else b ρ1 R Xx) Xx
def eNotT (a : EE) : EE := fun ρ R Xx => a ρ (fun x ρ1 => truP x fun k => R (.d (.bool !k)) ρ1) Xx
def sIns (i : Nat) (e e' : EE) : SS := fun ρ P => (∃ ds, ρ[i]? = some (.own ds)) ∧ e ρ (fun y ρ1 => e' ρ1 (fun z ρ2 => dI y fun n => dD z fun d => match ρ2[i]? with
  | some (.own ds) => szL (ds.length + 1) ∧ 0 ≤ n ∧ n < 2 ^ 63 ∧ P.nx (ρ2.set i (.own (ds.take n.toNat ++ [d] ++ ds.drop n.toNat)))
  | _ => False) P.ex) P.ex
def eBits (a : EE) : EE := fun ρ R Xx => a ρ (fun x ρ1 => dI x fun i => R (.d (.int (Builtin.Int.intBits i : Nat))) ρ1) Xx
def eIdx (i : Nat) (b : EE) : EE := fun ρ R Xx => (∃ ds, ρ[i]? = some (.a (.d (.list ds)))) ∧ b ρ (fun y ρ1 => dD y fun d => match ρ1[i]? with
  | some (.a (.d (.list ds))) => flatD d = true ∧ ds.all flatD = true ∧ ∃ j z, ds[j]? = some z ∧ eqV (vOf z) (vOf d) = true ∧ (∀ (m : Nat) z', m < j → ds[m]? = some z' → eqV (vOf z') (vOf d) = false) ∧ R (.d (.int (j : Nat))) ρ1
  | _ => False) Xx
def bAnd (a b : BB) : BB := fun ρ R Xx => a ρ (fun c ρ1 => if c = true then b ρ1 R Xx else R false ρ1) Xx
def bOr (a b : BB) : BB := fun ρ R Xx => a ρ (fun c ρ1 => if c = true then R true ρ1 else b ρ1 R Xx) Xx
section
variable {Γ : Gx} {X : Cx} {W : WX} {f : Fr} {F H F' H' : Hp} {σ σ' : L2.St} {ρ ρ' : List Sl} {x : A} {v : V} {d : PyData} {e e1 e2 e3 tg : Expr} {a b c : EE} {i j : Nat} {es : List Expr} {pos : Pos} {st : Stmt} {sts sts' : List Stmt} {k k' : SS} {gs : List Nat} {t : BB}
theorem dg_unl {γs : GGs} {n : Nat} (hpe : ∀ {g : TGs}, PGs X es g → PG X e (gUnl Γ.K n g)) {g : TGs} (h : DGs Γ X es g γs gs) : DG Γ X e (gUnl Γ.K n g) (gUn n γs) gs := by
  obtain ⟨p, d⟩ := h
  refine ⟨hpe p, fun f F H σ ρ v x Q R E r q o => ?_⟩
  obtain ⟨ds, rfl, q'⟩ := dL_of q
  cases r with
  | lst hs ha => exact ⟨_, _, rfl, .of (E.s1 _ _ hs), by rw [ha.len]; exact q'.1, d f F H σ ρ _ _ Q R E ha q'.2 o⟩
theorem dl_rev (hpe : ∀ {ta : TE}, PE X e1 ta → PE X e (tRevL Γ.K ta)) {ta : TE} (h1 : DE Γ X W e1 ta a) : DL Γ X W e (tRevL Γ.K ta) (lRev a) := by
  obtain ⟨p1, d1⟩ := h1
  refine ⟨hpe p1, fun f F H σ ρ Q R Xx E q o ox => ?_⟩
  refine d1 f F H σ ρ _ _ Xx E q (fun x ρ1 F1 H1 v1 q1 E1 s1 r1 => ?_) ox
  obtain ⟨us, rfl, q2⟩ := dL_of q1
  cases r1 with
  | lst hs ha => exact ⟨_, _, rfl, .of (E1.s1 _ _ hs), fun p np => o _ _ _ _ _ _ q2 (E1.raw np) s1 (own_new E1 ha.rev np)⟩
theorem downA_len {lo : Int} {n : Nat} : (downA lo n).length = n := by unfold downA; rw [List.length_map, List.length_range]
theorem downA_get {lo : Int} {n i : Nat} (h : i < n) : (downA lo n)[i]? = some (.d (.int (lo - (i : Nat)))) := by
  unfold downA
  rw [List.getElem?_map, List.getElem?_range h]
  rfl
theorem jok_dn {lo : Int} {n : Nat} : JOk Γ F (Itc lo (-1) n) (downA lo n) where
  go i H s hi := by
    rw [downA_len] at hi
    exact hi
  stop i H s hi := by
    rw [downA_len] at hi
    exact hi
  yld i H v H' s hil y := by
    obtain ⟨rfl, rfl⟩ := y
    rw [downA_len] at hil
    refine ⟨_, downA_get hil, .inl ⟨rfl, ?_⟩⟩
    show Dq Γ.K F (.int (lo + (i : Nat) * -1)) (.int (lo - (i : Nat)))
    rw [show lo + ((i : Nat) : Int) * -1 = lo - (i : Nat) by omega]
    exact .int _
theorem di_dn (hpe : ∀ {t u : TE}, PE X e1 t → PE X e2 u → PI X tg e (iRng3 (tCons t (tCons u (tCons (tC (.int (-1))) tNil))))) {t u : TE} (h : DE Γ X W e1 t a) (h' : DE Γ X W e2 u b) : DI Γ X W tg e (iRng3 (tCons t (tCons u (tCons (tC (.int (-1))) tNil)))) (iDn a b) := by
  obtain ⟨p, d⟩ := h
  obtain ⟨p', d'⟩ := h'
  refine ⟨hpe p p', fun f F H σ ρ G R Xx E q o ox => ?_⟩
  refine d f F H σ ρ _ _ Xx E q (fun x ρ1 F1 H1 v1 q1 E1 s1 r1 => ?_) ox
  refine d' f F1 H1 σ ρ1 _ _ Xx E1 q1 (fun y ρ2 F2 H2 v2 q2 E2 s2 r2 => ?_) ox
  obtain ⟨k, rfl, q3⟩ := dI_of q2
  obtain ⟨k', rfl, q4⟩ := dI_of q3
  cases r1
  cases r2
  exact ⟨_, _, _, _, rfl, RgC.neg q4.1.1 q4.1.2.1 q4.1.2.2.1 q4.1.2.2.2, o _ _ _ _ _ q4.2 E2 (s1.trans s2) jok_dn⟩
theorem de_orT (hpe : ∀ {ta tb : TE}, PE X e1 ta → PE X e2 tb → PE X e (tOrT Γ.K ta tb)) {ta : TE} (h1 : DE Γ X W e1 ta a) {tb : TE} (h2 : DE Γ X W e2 tb b) : DE Γ X W e (tOrT Γ.K ta tb) (eOrT a b) := by
  obtain ⟨p1, d1⟩ := h1
  obtain ⟨p2, d2⟩ := h2
  refine ⟨hpe p1 p2, fun f F H σ ρ Q R Xx E q o ox => ?_⟩
  refine d1 f F H σ ρ _ _ Xx E q (fun x ρ1 F1 H1 v1 q1 E1 s1 r1 => ?_) ox
  obtain ⟨k, hk, r⟩ := tru_v E1.s1 r1 (R := fun k => if k = true then R x ρ1 else b ρ1 R Xx) q1
  refine ⟨k, hk, ?_⟩
  cases k with
  | true => exact o _ _ _ _ _ r E1 s1 r1
  | false => exact d2 f F1 H1 σ ρ1 _ _ Xx E1 r (o.sub s1) ox
theorem de_notT (hpe : ∀ {ta : TE}, PE X e1 ta → PE X e (tNotT Γ.K ta)) {ta : TE} (h1 : DE Γ X W e1 ta a) : DE Γ X W e (tNotT Γ.K ta) (eNotT a) := by
  obtain ⟨p1, d1⟩ := h1
  refine ⟨hpe p1, fun f F H σ ρ Q R Xx E q o ox => ?_⟩
  refine d1 f F H σ ρ _ _ Xx E q (fun x ρ1 F1 H1 v1 q1 E1 s1 r1 => ?_) ox
  obtain ⟨k, hk, r⟩ := tru_v E1.s1 r1 (R := fun k => R (.d (.bool !k)) ρ1) q1
  exact ⟨k, hk, o _ _ _ _ _ r E1 s1 (.bl _)⟩
def rIns : V → List V → Hp → VK → Prop := fun x vs H Q => ∃ (l : Addr) (xs : List V) (i : Int) (y : V), x = .ref l ∧ vs = [.int i, y] ∧ H l = some (.lst xs) ∧ xs.length < sizeLine ∧ 0 ≤ i ∧ i < 2 ^ 63 ∧
    Q .non (upd H l (.lst (xs.take i.toNat ++ [y] ++ xs.drop i.toNat)))
theorem mt_ins : MtR X "list.insert" rIns := mt_insert
theorem ds_ins (hpe : ∀ {t u : TE}, PE X e1 t → PE X e2 u → PS X st (tDrop (tBM Γ.K "list" rIns (tVar i) (tCons t (tCons u tNil))))) {t u : TE} (h : DE Γ X W e1 t a) (h' : DE Γ X W e2 u b) : DS Γ X W st (tDrop (tBM Γ.K "list" rIns (tVar i) (tCons t (tCons u tNil)))) (sIns i a b) := by
  obtain ⟨p, d⟩ := h
  obtain ⟨p', d'⟩ := h'
  refine ⟨hpe p p', fun f F H σ ρ P D E q o => ?_⟩
  obtain ⟨⟨ds, hi⟩, q⟩ := q
  obtain ⟨p0, xs, e1, e2, e3, e4, e5⟩ := E.sl i _ hi
  refine ⟨.ref p0, e1, x_tyL (.of e2), ?_⟩
  refine d f F H σ ρ _ _ P.ex E q (fun y ρ1 F1 H1 v1 q1 E1 s1 r1 => ?_) (o.ex σ)
  refine d' f F1 H1 σ ρ1 _ _ P.ex E1 q1 (fun z ρ2 F2 H2 v2 q2 E2 s2 r2 => ?_) (o.ex σ)
  obtain ⟨n, rfl, q3⟩ := dI_of q2
  obtain ⟨u', rfl, q4⟩ := dD_of q3
  clear q2 q3
  cases r1
  split at q4
  · rename_i ds' hx'
    obtain ⟨hz, h0, h1, q5⟩ := q4
    obtain ⟨a', xs', f1, f2, f3, f4, f5⟩ := E2.sl i _ hx'
    rw [e1] at f1
    cases f1
    refine ⟨_, _, _, _, rfl, rfl, f2, by rw [f3.len]; exact hz, h0, h1, ?_⟩
    exact o.nx _ _ _ _ q5 (E2.mutO hx' e1 (((f3.take _).app (.one r2)).app (f3.drop _))) (s1.trans s2)
  · exact q4.elim
theorem de_bits (hpe : ∀ {ta : TE}, PE X e1 ta → PE X e (tBits ta)) {ta : TE} (h1 : DE Γ X W e1 ta a) : DE Γ X W e (tBits ta) (eBits a) := by
  obtain ⟨p1, d1⟩ := h1
  refine ⟨hpe p1, fun f F H σ ρ Q R Xx E q o ox => ?_⟩
  refine d1 f F H σ ρ _ _ Xx E q (fun x ρ1 F1 H1 v1 q1 E1 s1 r1 => ?_) ox
  obtain ⟨k, rfl, q2⟩ := dI_of q1
  cases r1
  exact ⟨_, rfl, o _ _ _ _ _ q2 E1 s1 (.int _)⟩
def DW (Γ : Gx) (X : Cx) (W : WX) (e : Expr) (t : TT) (ε : BB) : Prop := PW X e t ∧ DenB Γ W t ε
theorem dt_pw {tt : TT} (hpe : PW X e tt → PT X e tt) (h : DW Γ X W e tt t) : DT Γ X W e tt t := ⟨hpe h.1, h.2⟩
theorem dw_and1 {tt : TT} (hpe : PT X e1 tt → PW X e tt) (h : DT Γ X W e1 tt t) : DW Γ X W e tt t := ⟨hpe h.1, h.2⟩
theorem dw_or1 {tt : TT} (hpe : PT X e1 tt → PW X e tt) (h : DT Γ X W e1 tt t) : DW Γ X W e tt t := ⟨hpe h.1, h.2⟩
theorem dw_and {t1 t2 : TT} {b1 b2 : BB} (hpe : PT X e1 t1 → PW X e2 t2 → PW X e (tAnd t1 t2)) (h1 : DT Γ X W e1 t1 b1) (h2 : DW Γ X W e2 t2 b2) : DW Γ X W e (tAnd t1 t2) (bAnd b1 b2) := by
  obtain ⟨p1, d1⟩ := h1
  obtain ⟨p2, d2⟩ := h2
  refine ⟨hpe p1 p2, fun f F H σ ρ Q R Xx E q o ox => ?_⟩
  refine d1 f F H σ ρ _ _ Xx E q (fun c ρ1 F1 H1 q1 E1 s1 => ?_) ox
  cases c with
  | true => exact d2 f F1 H1 σ ρ1 _ _ Xx E1 q1 (o.sub s1) ox
  | false => exact o _ _ _ _ q1 E1 s1
theorem dw_or {t1 t2 : TT} {b1 b2 : BB} (hpe : PT X e1 t1 → PW X e2 t2 → PW X e (tOr t1 t2)) (h1 : DT Γ X W e1 t1 b1) (h2 : DW Γ X W e2 t2 b2) : DW Γ X W e (tOr t1 t2) (bOr b1 b2) := by
  obtain ⟨p1, d1⟩ := h1
  obtain ⟨p2, d2⟩ := h2
  refine ⟨hpe p1 p2, fun f F H σ ρ Q R Xx E q o ox => ?_⟩
  refine d1 f F H σ ρ _ _ Xx E q (fun c ρ1 F1 H1 q1 E1 s1 => ?_) ox
  cases c with
  | true => exact o _ _ _ _ q1 E1 s1
  | false => exact d2 f F1 H1 σ ρ1 _ _ Xx E1 q1 (o.sub s1) ox
theorem den_test {te : TE} (d1 : DenE Γ W te a) : DenB Γ W (tTest te) (bOf a) := fun f F H σ ρ Q R Xx E q o ox => by
  refine d1 f F H σ ρ _ _ Xx E q (fun x ρ1 F1 H1 v1 q1 E1 s1 r1 => ?_) ox
  obtain ⟨c, rfl, q2⟩ := dB_of q1
  cases r1
  exact ⟨c, rfl, o _ _ _ _ q2 E1 s1⟩
theorem dt_cmp {r : R2} {p : P2} (hp : OpD Γ r p) (hpe : ∀ {ta tb : TE}, PE X e1 ta → PE X e2 tb → PT X e (tTest (tOp r ta tb))) {ta : TE} (h1 : DE Γ X W e1 ta a) {tb : TE} (h2 : DE Γ X W e2 tb b) : DT Γ X W e (tTest (tOp r ta tb)) (bOf (eOp p a b)) :=
  ⟨hpe h1.1 h2.1, den_test (den_op hp h1.2 h2.2)⟩
theorem den_isN {ta : TE} (d1 : DenE Γ W ta a) : DenE Γ W (tOp (fun x y H Q => y = V.non ∧ Q (V.bl (decide (x = V.non))) H) ta (tC .non)) (eIsN a) := fun f F H σ ρ Q R Xx E q o ox => by
  refine d1 f F H σ ρ _ _ Xx E q (fun x ρ1 F1 H1 v1 q1 E1 s1 r1 => ?_) ox
  show V.non = V.non ∧ Q (V.bl (decide (v1 = V.non))) H1
  refine ⟨rfl, ?_⟩
  rw [isNon_v r1]
  exact o _ _ _ _ _ q1 E1 s1 (.bl _)
theorem den_notN {ta : TE} (d1 : DenE Γ W ta a) : DenE Γ W (tOp (fun x y H Q => y = V.non ∧ Q (V.bl (!decide (x = V.non))) H) ta (tC .non)) (eNotN a) := fun f F H σ ρ Q R Xx E q o ox => by
  refine d1 f F H σ ρ _ _ Xx E q (fun x ρ1 F1 H1 v1 q1 E1 s1 r1 => ?_) ox
  show V.non = V.non ∧ Q (V.bl (!decide (v1 = V.non))) H1
  refine ⟨rfl, ?_⟩
  rw [isNon_v r1]
  exact o _ _ _ _ _ q1 E1 s1 (.bl _)
theorem dt_isN {ta : TE} (hpe : PE X e1 ta → PT X e (tTest (tOp (fun x y H Q => y = V.non ∧ Q (V.bl (decide (x = V.non))) H) ta (tC .non)))) (h1 : DE Γ X W e1 ta a) : DT Γ X W e (tTest (tOp (fun x y H Q => y = V.non ∧ Q (V.bl (decide (x = V.non))) H) ta (tC .non))) (bOf (eIsN a)) := ⟨hpe h1.1, den_test (den_isN h1.2)⟩
theorem dt_notN {ta : TE} (hpe : PE X e1 ta → PT X e (tTest (tOp (fun x y H Q => y = V.non ∧ Q (V.bl (!decide (x = V.non))) H) ta (tC .non)))) (h1 : DE Γ X W e1 ta a) : DT Γ X W e (tTest (tOp (fun x y H Q => y = V.non ∧ Q (V.bl (!decide (x = V.non))) H) ta (tC .non))) (bOf (eNotN a)) := ⟨hpe h1.1, den_test (den_notN h1.2)⟩
/-- keyword arguments -/
def DK (Γ : Gx) (X : Cx) (W : WX) (ks : List Keyword) (t : TA) (ε : AA) : Prop := PK X ks t ∧ DenA Γ W t ε
theorem dk_nil (h : PK X [] tNil) : DK Γ X W [] tNil aNil := ⟨h, fun f F H σ ρ Q R Xx E q o ox => o [] ρ F H [] q E (Same.refl _) trivial⟩
theorem dk_cons {kw : Keyword} {ks : List Keyword} {as : AA} (hpe : ∀ {ta : TE} {tr : TA}, PE X e ta → PK X ks tr → PK X (kw :: ks) (tCons ta tr)) {ta : TE} (h1 : DE Γ X W e ta a) {tr : TA} (h2 : DK Γ X W ks tr as) : DK Γ X W (kw :: ks) (tCons ta tr) (aCons a as) := by
  obtain ⟨p1, d1⟩ := h1
  obtain ⟨p2, d2⟩ := h2
  refine ⟨hpe p1 p2, fun f F H σ ρ Q R Xx E q o ox => ?_⟩
  refine d1 f F H σ ρ _ _ Xx E q (fun x ρ1 F1 H1 v1 q1 E1 s1 r1 => ?_) ox
  exact d2 f F1 H1 σ ρ1 _ _ Xx E1 q1 (fun xs ρ2 F2 H2 vs q2 E2 s2 r2 => o _ _ _ _ _ q2 E2 (s1.trans s2) ⟨r1.same s2, r2⟩) ox
/-- n, m = a fresh list, a value -/
def sParO (i j : Nat) (l : LL) (a : EE) : SS := fun ρ P => l ρ (fun ds ρ1 => False) P.ex
end
/-! ### readings -/
section
variable {ρ : List Sl} {R : A → List Sl → Prop} {RL : List PyData → List Sl → Prop} {RA : List A → List Sl → Prop} {RB : Bool → List Sl → Prop} {Xx : XX} {P : EndsP} {a b c : EE} {as : AA} {t t' : BB} {k k' : SS} {g : GG} {gs : GGs} {l : LL} {i j : Nat} {d u w : PyData} {ds es : List PyData} {x : A}
theorem y_un1 {n : Nat} {Q : List Sl → Prop} : gUn n gs (.d (.list ds)) ρ Q ↔ ds.length = n ∧ gs ds ρ Q := Iff.rfl
theorem y_rev : lRev a ρ RL Xx ↔ a ρ (fun x ρ1 => dL x fun ds => RL ds.reverse ρ1) Xx := Iff.rfl
theorem y_dn : iDn a b ρ RA Xx ↔ a ρ (fun x ρ1 => b ρ1 (fun y ρ2 => dI x fun i => dI y fun j => (-(2 ^ 62) ≤ i ∧ i < 2 ^ 62 ∧ -(2 ^ 62) ≤ j ∧ j < 2 ^ 62) ∧ RA (downA i (i - j).toNat) ρ2) Xx) Xx := Iff.rfl
theorem y_orT : eOrT a b ρ R Xx ↔ a ρ (fun x ρ1 => truP x fun k => if k = true then R x ρ1 else b ρ1 R Xx) Xx := Iff.rfl
theorem y_notT : eNotT a ρ R Xx ↔ a ρ (fun x ρ1 => truP x fun k => R (.d (.bool !k)) ρ1) Xx := Iff.rfl
theorem y_ins : sIns i a b ρ P ↔ (∃ ds, ρ[i]? = some (.own ds)) ∧ a ρ (fun y ρ1 => b ρ1 (fun z ρ2 => dI y fun n => dD z fun d => match ρ2[i]? with
  | some (.own ds) => szL (ds.length + 1) ∧ 0 ≤ n ∧ n < 2 ^ 63 ∧ P.nx (ρ2.set i (.own (ds.take n.toNat ++ [d] ++ ds.drop n.toNat)))
  | _ => False) P.ex) P.ex := Iff.rfl
theorem y_bits : eBits a ρ R Xx ↔ a ρ (fun x ρ1 => dI x fun i => R (.d (.int (Builtin.Int.intBits i : Nat))) ρ1) Xx := Iff.rfl
theorem y_bAnd : bAnd t t' ρ RB Xx ↔ t ρ (fun c ρ1 => if c = true then t' ρ1 RB Xx else RB false ρ1) Xx := Iff.rfl
theorem y_bOr : bOr t t' ρ RB Xx ↔ t ρ (fun c ρ1 => if c = true then RB true ρ1 else t' ρ1 RB Xx) Xx := Iff.rfl
theorem y_rt0 {RR : A → Nat → Prop} : (ends0 false RR).rt x ρ ↔ RR x 0 := Iff.rfl
theorem y_rtR {RR : A → Nat → Prop} {n : Nat} : (ends0 true RR).rt x (.rng n :: ρ) ↔ RR x n := Iff.rfl
theorem y_nx0 {RR : A → Nat → Prop} : (ends0 false RR).nx ρ ↔ RR (.d .none) 0 := Iff.rfl
theorem y_rtX {RR : A → Nat → Prop} {XX' : Nat → PyData → Nat → Prop} : (endsX false RR XX').rt x ρ ↔ RR x 0 := Iff.rfl
theorem y_nxX {RR : A → Nat → Prop} {XX' : Nat → PyData → Nat → Prop} : (endsX false RR XX').nx ρ ↔ RR (.d .none) 0 := Iff.rfl
theorem y_exX {RR : A → Nat → Prop} {XX' : Nat → PyData → Nat → Prop} {n : Nat} : (endsX false RR XX').ex n d ρ ↔ XX' n d 0 := Iff.rfl
theorem y_repr {Q : PyData → Prop} : pRepr [.d d] Q ↔ d.showable = true ∧ d.depth ≤ 60 ∧ d.shown.length ≤ sizeLine ∧ Q (.str d.shown) := Iff.rfl
theorem y_tupleL {Q : PyData → Prop} : pTuple [.d (.list ds)] Q ↔ Q (.tuple ds) := Iff.rfl
theorem y_tupleT {Q : PyData → Prop} : pTuple [.d (.tuple ds)] Q ↔ Q (.tuple ds) := Iff.rfl
theorem y_sum {Q : PyData → Prop} : pSum [.d (.list ds)] Q ↔ ∃ ns : List Int, ds = ns.map PyData.int ∧ Q (.int ns.sum) := Iff.rfl
theorem y_all {Q : PyData → Prop} : pAll [.d (.list ds)] Q ↔ ∃ bs : List Bool, ds = bs.map PyData.bool ∧ Q (.bool (bs.all id)) := Iff.rfl
theorem y_any {Q : PyData → Prop} : pAny [.d (.list ds)] Q ↔ ∃ bs : List Bool, ds = bs.map PyData.bool ∧ Q (.bool (bs.any id)) := Iff.rfl
theorem y_eqD {Q : PyData → Prop} : pEqD d u Q ↔ SeqAt.shaped d = true ∧ SeqAt.shaped u = true ∧ Q (.bool (PyData.eqv d u)) := Iff.rfl
theorem y_neD {Q : PyData → Prop} : pNeD d u Q ↔ SeqAt.shaped d = true ∧ SeqAt.shaped u = true ∧ Q (.bool (!PyData.eqv d u)) := Iff.rfl
theorem y_ite {c : Prop} [Decidable c] {A B : Prop} : (if c then A else B) ↔ ((c → A) ∧ (¬ c → B)) := by
  by_cases h : c <;> simp [h]
theorem sz_iff {n : Nat} (h : n ≤ 1000) : szL n ↔ True := ⟨fun _ => trivial, fun _ => sz_small h⟩
theorem inV3 (w : Str) : inV (.str w) [.str "u", .str "s", .str "add"] = decide (w = "u" ∨ w = "s" ∨ w = "add") := by
  show (((("u" : Str) == w) || (("s" : Str) == w || (("add" : Str) == w || false)))) = _
  rw [Bool.or_false, Bool.eq_iff_iff]
  simp only [Bool.or_eq_true, beq_iff_eq, decide_eq_true_eq]
  exact ⟨fun h => h.elim (fun h => .inl h.symm) (fun h => .inr (h.elim (fun h => .inl h.symm) fun h => .inr h.symm)), fun h => h.elim (fun h => .inl h.symm) (fun h => .inr (h.elim (fun h => .inl h.symm) fun h => .inr h.symm))⟩
theorem y_join {c : Prop} [Decidable c] {A : Prop} {K : SS} (I : List Sl → Prop) (h0 : ¬ c → I ρ) (hk : ∀ ρ, I ρ → K ρ P) (ha : c → (∀ ρ, I ρ → K ρ P) → A) : if c then A else K ρ P := by
  by_cases h : c
  · rw [if_pos h]; exact ha h hk
  · rw [if_neg h]; exact hk ρ (h0 h)
theorem ix2_0 : ixN 2 0 = some 0 := by decide
theorem ix2_1 : ixN 2 1 = some 1 := by decide
theorem ix3_0 : ixN 3 0 = some 0 := by decide
theorem ix3_1 : ixN 3 1 = some 1 := by decide
theorem ix3_2 : ixN 3 2 = some 2 := by decide
theorem eqv_same (h : SeqAt.shaped d = true) : PyData.eqv d d = true := SeqAt.eqv_refl d (Bool.and_eq_true_iff.mp h).1
end
/-! ### loops and comprehensions over few items -/
def LcRun (g : GG) (t : BB) (e : EE) (vs : List Nat) (R : List PyData → List Sl → Prop) (ρ0 : List Sl) : List A → List PyData → List Sl → Prop
  | [], acc, ρ1 => R acc (restP ρ0 vs ρ1)
  | x :: xs, acc, ρ1 => g x ρ1 fun ρ2 => t ρ2 (fun b ρ3 => if b = true then e ρ3 (fun y ρ4 => dD y fun d => szL (acc.length + 1) ∧ LcRun g t e vs R ρ0 xs (acc ++ [d]) (wipeP ρ4 vs)) noX else LcRun g t e vs R ρ0 xs acc (wipeP ρ3 vs)) noX
theorem lc_run {xs : List A} {g : GG} {t : BB} {e : EE} {vs : List Nat} {R : List PyData → List Sl → Prop} {ρ : List Sl} (hp : ∀ v ∈ vs, plainS ρ[v]?) (h : LcRun g t e vs R ρ xs [] (wipeP ρ vs)) : LcP xs g t e vs R ρ :=
  comp hp (fun i acc ρ1 => LcRun g t e vs R ρ (xs.drop i) acc ρ1) h (fun i x acc ρ1 hx q => by
    have hi := (List.getElem?_eq_some_iff.mp hx).1
    have e1 : xs.drop i = x :: xs.drop (i + 1) := by
      rw [List.drop_eq_getElem_cons hi, (List.getElem?_eq_some_iff.mp hx).2]
    rw [e1] at q
    exact q) fun acc ρ1 q => by
    rw [List.drop_length] at q
    exact q
def LpRun (g : GG) (b : SS) (P : EndsP) : List A → List Sl → Prop
  | [], ρ => P.nx ρ
  | x :: xs, ρ => g x ρ fun ρ2 => b ρ2 { P with nx := LpRun g b P xs, ct := LpRun g b P xs, bk := P.nx }
theorem lp_run {xs : List A} {g : GG} {b : SS} {P : EndsP} {ρ : List Sl} (h : LpRun g b P xs ρ) : LoopP xs g b P ρ :=
  loop (fun i ρ1 => LpRun g b P (xs.drop i) ρ1) h (fun i x ρ1 hx q => by
    have hi := (List.getElem?_eq_some_iff.mp hx).1
    have e1 : xs.drop i = x :: xs.drop (i + 1) := by
      rw [List.drop_eq_getElem_cons hi, (List.getElem?_eq_some_iff.mp hx).2]
    rw [e1] at q
    exact q) fun ρ1 q => by
    rw [List.drop_length] at q
    exact q
/-- a comprehension whose turns tell an item or none, and change nothing -/
theorem compF {α : Type} {xs : List α} {enc : α → A} (F : α → Option PyData) {g : GG} {t : BB} {e : EE} {vs : List Nat} {R : List PyData → List Sl → Prop} {ρ : List Sl} (hp : ∀ v ∈ vs, plainS ρ[v]?) (hl : xs.length ≤ sizeLine)
    (hs : ∀ x ∈ xs, ∀ (acc : List PyData) (K : List PyData → List Sl → Prop), szL (acc.length + 1) → (match F x with | some d => K (acc ++ [d]) (wipeP ρ vs) | none => K acc (wipeP ρ vs)) →
      g (enc x) (wipeP ρ vs) fun ρ2 => t ρ2 (fun b ρ3 => if b = true then e ρ3 (fun y ρ4 => dD y fun d => szL (acc.length + 1) ∧ K (acc ++ [d]) (wipeP ρ4 vs)) noX else K acc (wipeP ρ3 vs)) noX)
    (hd : R (xs.filterMap F) (restP ρ vs (wipeP ρ vs))) : LcP (xs.map enc) g t e vs R ρ :=
  comp hp (fun i acc ρ1 => acc = (xs.take i).filterMap F ∧ ρ1 = wipeP ρ vs) ⟨rfl, rfl⟩ (fun i x acc ρ1 hx q => by
    obtain ⟨rfl, rfl⟩ := q
    rw [List.getElem?_map] at hx
    obtain ⟨a, ha, rfl⟩ := Option.map_eq_some_iff.mp hx
    have hi := (List.getElem?_eq_some_iff.mp ha).1
    have fl : ((xs.take i).filterMap F).length ≤ i := Nat.le_trans (List.length_filterMap_le _ _) (by rw [List.length_take]; omega)
    refine hs a (List.mem_of_getElem? ha) _ (fun acc ρ1 => acc = (xs.take (i + 1)).filterMap F ∧ ρ1 = wipeP ρ vs) (show _ ≤ _ by omega) ?_
    rw [List.take_add_one, ha, List.filterMap_append]
    cases h : F a with
    | none => simp [h]
    | some d => simp [h]) fun acc ρ1 q => by
    obtain ⟨rfl, rfl⟩ := q
    rw [List.length_map, List.take_length]
    exact hd
end Cc

set_option Elab.async false
set_option linter.all false
set_option maxRecDepth 100000
set_option maxHeartbeats 400000
/-! zip of a tuple and a list. -/
namespace Cc
open PySem PySem.Spec PyProof.Rows L2 RZ
/-- the tuple at a and the list at b, item by item in new pairs -/
def ItzM (K : PySem.W.Frag) (a b : Addr) (n : Nat) : It where
  go i H := i < n ∧ ∃ (us vs : List V) (x y : V), SqT K H a us ∧ SqL K H b vs ∧ us[i]? = some x ∧ vs[i]? = some y
  yld i H v H' := ∃ p x y, v = .ref p ∧ H p = none ∧ H' = upd H p (.tup [x, y]) ∧ (∀ us, SqT K H a us → us[i]? = some x) ∧ ∀ vs, SqL K H b vs → vs[i]? = some y
  stop i H := n ≤ i ∧ ∃ us vs : List V, SqT K H a us ∧ SqL K H b vs ∧ n = min us.length vs.length
def stM (N a b : Addr) (n : Nat) (i : Nat) (h : Heap) : Prop := i ≤ n ∧ IsZip h (N + 4) (N + 2) (N + 3) .none ∧ IsTupOf2 h (N + 2) (.ref N) (.ref (N + 1)) ∧ (∃ x y, IsTupOf2 h (N + 3) x y) ∧ h.IsTupleIter N a i ∧ h.IsListIter (N + 1) b i
def fpM (N : Addr) : List Addr := [N + 4, N + 2, N + 3, N, N + 1]
theorem fpM_mem {N c : Addr} (h : c ∈ fpM N) : c = N + 4 ∨ c = N + 2 ∨ c = N + 3 ∨ c = N ∨ c = N + 1 := by simpa [fpM] using h
theorem fpM_not {N c : Addr} (h : c ∉ fpM N) : c ≠ N + 4 ∧ c ≠ N + 2 ∧ c ≠ N + 3 ∧ c ≠ N ∧ c ≠ N + 1 := by simpa [fpM, not_or] using h
theorem turn_zipM {P : Program} {w : World} {K : PySem.W.Frag} {elts : List Expr} {kk : Nat} {tpos : Pos} {N a b : Addr} {n : Nat} (ha : a < N) (hb : b < N) : Turn P w K (.Tuple elts kk tpos) (ItzM K a b n) (fpM N) (N + 4) (stM N a b n) := by
  have sep : ZipSep2 (N + 4) (N + 2) (N + 3) N (N + 1) (N :: [a]) ((N + 1) :: [b]) := zip_sep2 (fun c hc => by rw [List.mem_singleton.mp hc]; exact ha) (fun c hc => by rw [List.mem_singleton.mp hc]; exact hb)
  have neA : a ≠ N := Nat.ne_of_lt ha
  have neB : b ≠ N + 1 := Nat.ne_of_lt (Nat.lt_succ_of_lt hb)
  refine ⟨by simp [fpM], fun i h st c hc => ?_, fun i h h' st k => ?_, ?_, ?_, fun A i s Q E st h => wpAny_pyIter_zip st.2.1 h⟩
  · obtain ⟨_, s1, s2, ⟨x, y, s3⟩, ⟨o1, e1, _, d1⟩, ⟨o2, e2, _, d2⟩⟩ := st
    rcases fpM_mem hc with q | q | q | q | q
    · rw [q]; exact ⟨_, s1, fun v q => nomatch q⟩
    · rw [q]; exact ⟨_, s2, fun v q => nomatch q⟩
    · rw [q]; exact ⟨_, s3, fun v q => nomatch q⟩
    · rw [q]; exact ⟨o1, e1, fun v q => by rw [d1] at q; cases q⟩
    · rw [q]; exact ⟨o2, e2, fun v q => by rw [d2] at q; cases q⟩
  · obtain ⟨s0, s1, s2, ⟨x, y, s3⟩, s4, s5⟩ := st
    exact ⟨s0, k _ (by simp [fpM]) _ s1, k _ (by simp [fpM]) _ s2, ⟨x, y, k _ (by simp [fpM]) _ s3⟩, s4.at fun o q => k N (by simp [fpM]) o q, s5.at fun o q => k (N + 1) (by simp [fpM]) o q⟩
  · intro X hP hw hK hc i pins s σ H E I hf st hg
    subst hP hw hK
    obtain ⟨s0, s1, s2, ⟨x0, y0, s3⟩, s4, s5⟩ := st
    obtain ⟨ilt, us, vs, x, y, qa, qb, hx, hy⟩ := hg
    obtain ⟨its, rv, p, _⟩ := I.tuple qa
    obtain ⟨its2, rv2, p2, _⟩ := I.list qb
    obtain ⟨u, hu, ru⟩ := rv.get hx
    obtain ⟨u2, hu2, ru2⟩ := rv2.get hy
    have lt1 : i < its.toArray.size := by rw [List.size_toArray]; exact (List.getElem?_eq_some_iff.mp hu).1
    have lt2 : i < its2.toArray.size := by rw [List.size_toArray]; exact (List.getElem?_eq_some_iff.mp hu2).1
    have D1 := Draws.tuple (prog := X.prog) (w := X.w) (A := X.A.in1) (I.ok.hd hc) N a neA its.toArray
    have D2 := Draws.list (prog := X.prog) (w := X.w) (A := X.A.in1) (I.ok.hd hc) (N + 1) b neB its2.toArray
    have zlt : N + 4 < s.heap.objs.size := Heap.lt_size s1
    refine wpAny_pyNext_zipD2_item sep D1 D2 s1 s2 s3 ⟨s4, p⟩ ⟨s5, p2.isList⟩ lt1 lt2 fun x1 x2 h' tk e1 e2 z' TO' n1 n2 hT hsz hk => ?_
    have e1 : x1 = u := by
      have := e1.symm.trans (show its.toArray[i]? = some u by simpa using hu)
      cases this
      rfl
    have e2 : x2 = u2 := by
      have := e2.symm.trans (show its2.toArray[i]? = some u2 by simpa using hu2)
      cases this
      rfl
    subst e1 e2
    refine ⟨_, rfl, wpAny_letOwnedTupleGo_zip (s := { s with heap := h', toks := tk }) z' fun g zg sb => ?_⟩
    have hT2 : g.get? s.heap.objs.size = some { cls := .type "tuple", data := .seq #[x1, x2] } := (sb.2 _ (Nat.ne_of_gt zlt)).trans hT
    have new : ObjOk X.prog X.w (upd H s.heap.objs.size (.tup [x, y])) g s.heap.objs.size (.tup [x, y]) := ⟨by show 2 ≤ sizeLine; decide, [x1, x2], .cons ru (.cons ru2 .nil), ⟨_, hT2, rfl, _, rfl⟩⟩
    have J : Inv X pins σ (upd H s.heap.objs.size (.tup [x, y])) { s with heap := g, toks := tk } := by
      refine I.turnedNew (t' := tk) (ch := fpM N) (fun c o hcn q => ?_) hf (Nat.le_refl _) new
      obtain ⟨c1, c2, c3, c4, c5⟩ := fpM_not hcn
      exact (sb.2 c c1).trans (hk c o c1 c3 c4 c5 q)
    refine ⟨.ref s.heap.objs.size, _, J, rfl, ⟨_, x, y, rfl, I.hok.fresh (Nat.le_refl _), rfl, fun l hl => by rw [I.tuple_inj hl qa]; exact hx, fun l hl => by rw [I.list_inj hl qb]; exact hy⟩, ⟨ilt, zg, ?_, ⟨x1, x2, ?_⟩, ?_, ?_⟩, fun c hcm => ?_⟩
    · exact (sb.2 _ sep.TIz).trans (hk _ _ sep.TIz sep.TITO sep.TIi1 sep.TIi2 s2)
    · exact (sb.2 _ sep.TOz).trans TO'
    · exact n1.1.at fun o q => (sb.2 _ sep.zi1.symm).trans q
    · exact n2.1.at fun o q => (sb.2 _ sep.zi2.symm).trans q
    · have bd : ∀ k : Nat, k ≤ 4 → (N + k : Nat) < s.heap.objs.size := fun k hk => Nat.lt_of_le_of_lt (Nat.add_le_add_left hk N) zlt
      have hlt : c < s.heap.objs.size := by
        rcases fpM_mem hcm with q | q | q | q | q
        · rw [q]; exact bd 4 (by decide)
        · rw [q]; exact bd 2 (by decide)
        · rw [q]; exact bd 3 (by decide)
        · rw [q]; exact bd 0 (by decide)
        · rw [q]; exact bd 1 (by decide)
      rw [upd_ne (Nat.ne_of_lt hlt)]
      exact (hf c hcm).1
  · intro X hP hw hK hc i pins s σ H E I hf st hg
    subst hP hw hK
    obtain ⟨s0, s1, s2, ⟨x0, y0, s3⟩, s4, s5⟩ := st
    obtain ⟨hn, us, vs, qa, qb, en⟩ := hg
    obtain ⟨its, rv, p, _⟩ := I.tuple qa
    obtain ⟨its2, rv2, p2, _⟩ := I.list qb
    have l1 : its.toArray.size = us.length := by rw [List.size_toArray, rv.length]
    have l2 : its2.toArray.size = vs.length := by rw [List.size_toArray, rv2.length]
    have D1 := Draws.tuple (prog := X.prog) (w := X.w) (A := X.A.in1) (I.ok.hd hc) N a neA its.toArray
    have D2 := Draws.list (prog := X.prog) (w := X.w) (A := X.A.in1) (I.ok.hd hc) (N + 1) b neB its2.toArray
    refine wpAny_pyNext_zipD2_end sep D1 D2 s1 s2 s3 ⟨s4, p⟩ ⟨s5, p2.isList⟩ (by omega) (by omega) (by omega) fun h' tk hk => ⟨rfl, I.turnedL (t' := tk) (ch := fpM N) (fun c o hcn q => ?_) hf⟩
    obtain ⟨c1, c2, c3, c4, c5⟩ := fpM_not hcn
    exact hk c o c1 c3 c4 c5 q
def iZipM (K : PySem.W.Frag) (ta : TA) : TI := fun σ H R => ta σ H fun ws H1 => ∃ a b us vs, ws = [.ref a, .ref b] ∧ SqT K H1 a us ∧ SqL K H1 b vs ∧ R (ItzM K a b (min us.length vs.length)) H1
theorem pi_zipM {X : Cx} {e e2 : Expr} {ta : TA} {p pos tpos : Pos} {elts : List Expr} {kk : Nat} (hg : Gl X "zip") (hm : X.mg "zip" = none) (ha : PA X [e, e2] ta)
    (he : starEach [e, e2] X.env = (false, eval e X.env) :: starEach [e2] X.env := by rfl) (hq : (backTo pos (starEach [e2] X.env)).any (·.1) = false := by rfl) :
    PI X (.Tuple elts kk tpos) (.Call (.Name "zip" p) [e, e2] [] pos) (iZipM X.K ta) := by
  refine ⟨fun pins s σ H R I h => Call_ (ld_blt I hg hm PyProof.Rows.boot_zip (PyProof.Rows.callWith_type1 (thn (ha.run pos pins s σ H _ I h) fun ws s1 ⟨xs, H1, I1, r1, q1⟩ => ?_) he hq))⟩
  obtain ⟨a, b, us, vs, rfl, qa, qb, q⟩ := q1
  cases r1 with | cons ra rr => ?_
  cases rr with | cons rb rr => ?_
  cases rr
  cases ra
  cases rb
  obtain ⟨its, rv, p1, _⟩ := I1.tuple qa
  obtain ⟨its2, rv2, p2, _⟩ := I1.list qb
  obtain ⟨o1, ho1, _⟩ := id p1
  have fr : ∀ c ∈ fpM s1.heap.objs.size, FpOk X pins H1 c := fun c hcm => by
    have hle : s1.heap.objs.size ≤ c := by
      rcases fpM_mem hcm with z | z | z | z | z
      · rw [z]; exact Nat.le_add_right _ 4
      · rw [z]; exact Nat.le_add_right _ 2
      · rw [z]; exact Nat.le_add_right _ 3
      · rw [z]; exact Nat.le_refl _
      · rw [z]; exact Nat.le_add_right _ 1
    exact I1.fpOk hle (I1.hok.fresh hle)
  refine zip_begins2 (begins_tuple a its.toArray) (begins_list b its2.toArray) p1 p2.isList fun g hz hTI hTO g1 g2 hsz hk => wpAny_pyIter_zip hz ?_
  have J : Inv X pins σ H1 { s1 with heap := g } := I1.kept (t' := s1.toks) hk
  have st0 : stM s1.heap.objs.size a b (min us.length vs.length) 0 g := ⟨Nat.zero_le _, hz, hTI, ⟨_, _, hTO⟩, ⟨_, g1, rfl, rfl⟩, ⟨_, g2, rfl, rfl⟩⟩
  have tz := turn_zipM (P := X.prog) (w := X.w) (K := X.K) (elts := elts) (kk := kk) (tpos := tpos) (n := min us.length vs.length) (Heap.lt_size ho1) p2.lt
  exact ⟨s1.heap.objs.size + 4, fpM s1.heap.objs.size, _, _, H1, rfl, J, tz, st0, fr, q⟩
end Cc

set_option Elab.async false
set_option linter.all false
set_option maxRecDepth 100000
set_option maxHeartbeats 4000000
/-! The pure layer: zip of a tuple and a list, slices of tuples, divmod, a def that serves two kinds of arguments. -/
namespace Cc
open PySem PySem.Spec PyProof.Rows L2
def iZpM (a b : EE) : II := fun ρ RA Xx => a ρ (fun x ρ1 => b ρ1 (fun y ρ2 => match x, y with
  | .d (.tuple ds), .d (.list es) => RA (zipA ds es) ρ2
  | _, _ => False) Xx) Xx
def dT : A → (List PyData → Prop) → Prop
  | .d (.tuple b), P => P b
  | _, _ => False
/-- all of it -/
def fullSl (n : Nat) (lo hi : Option Int) : Prop := HT.sIx n 0 lo = 0 ∧ HT.sIx n n hi = n
def eSlT (a : EE) (lo hi : Option EE) : EE := fun ρ R Xx => a ρ (fun x ρ1 => dT x fun u => dO lo ρ1 (fun l ρ2 => dO hi ρ2 (fun h ρ3 => ¬ fullSl u.length l h ∧ R (.d (.tuple (cutA u l h))) ρ3) Xx) Xx) Xx
def pDivmod : PL
  | [.d (.int i), .d (.int j)], R => CDivP i j ∧ R (.tuple [.int (i / j), .int (i % j)])
  | _, _ => False
section
variable {Γ : Gx} {X : Cx} {W : WX} {f : Fr} {F H F' H' : Hp} {σ σ' : L2.St} {ρ ρ' : List Sl} {x : A} {v : V} {d : PyData} {e e1 e2 e3 tg : Expr} {a b c : EE} {i j : Nat} {es : List Expr} {pos : Pos} {st : Stmt} {sts sts' : List Stmt} {k k' : SS} {gs : List Nat}
theorem dT_of {P : List PyData → Prop} (h : dT x P) : ∃ b, x = .d (.tuple b) ∧ P b := by
  cases x with
  | d y => cases y <;> first | exact ⟨_, rfl, h⟩ | exact h.elim
  | exc => exact h.elim
  | spr => exact h.elim
  | scr => exact h.elim
theorem jok_zpM {a b : Addr} {xs ys : List V} {ds es : List PyData} (h : SqT Γ.K F a xs) (hd : DqAll Γ.K F xs ds) (h' : F b = some (.lst ys)) (hd' : DqAll Γ.K F ys es) : JOk Γ F (ItzM Γ.K a b (min xs.length ys.length)) (zipA ds es) where
  go i H s hi := by
    rw [zipA_len, ← hd.len, ← hd'.len] at hi
    exact ⟨hi, xs, ys, xs[i], ys[i], Same.tup s h, .of (s _ _ h'), List.getElem?_eq_getElem _, List.getElem?_eq_getElem _⟩
  stop i H s hi := by
    rw [zipA_len, ← hd.len, ← hd'.len] at hi
    exact ⟨hi, xs, ys, Same.tup s h, .of (s _ _ h'), rfl⟩
  yld i H v H' s hil y := by
    obtain ⟨T, x, x', rfl, nT, rfl, y, y'⟩ := y
    obtain ⟨d, hx, hv⟩ := hd.getV (y xs (Same.tup s h))
    obtain ⟨u, hx', hv'⟩ := hd'.getV (y' ys (.of (s _ _ h')))
    refine ⟨_, zipA_get hx hx', .inr ⟨T, _, nT, rfl, trivial, fun F' sF nF => ?_⟩⟩
    exact .tup (.of upd_same) (.cons (Dq.same (sF.trans (same_updF nF)) d hv) (.cons (Dq.same (sF.trans (same_updF nF)) u hv') .nil))
theorem di_zpM (hpe : ∀ {t u : TE}, PE X e1 t → PE X e2 u → PI X tg e (iZipM Γ.K (tCons t (tCons u tNil)))) {t u : TE} (h : DE Γ X W e1 t a) (h' : DE Γ X W e2 u b) : DI Γ X W tg e (iZipM Γ.K (tCons t (tCons u tNil))) (iZpM a b) := by
  obtain ⟨p, d⟩ := h
  obtain ⟨p', d'⟩ := h'
  refine ⟨hpe p p', fun f F H σ ρ G R Xx E q o ox => ?_⟩
  refine d f F H σ ρ _ _ Xx E q (fun x ρ1 F1 H1 v1 q1 E1 s1 r1 => ?_) ox
  refine d' f F1 H1 σ ρ1 _ _ Xx E1 q1 (fun y ρ2 F2 H2 v2 q2 E2 s2 r2 => ?_) ox
  split at q2
  · cases r1 with
    | tup hs ha =>
      cases r2 with
      | lst hs' ha' => exact ⟨_, _, _, _, rfl, Same.tup (s2.trans E2.s1) hs, .of (E2.s1 _ _ hs'), o _ _ _ _ _ q2 E2 (s1.trans s2) (jok_zpM (Same.tup s2 hs) (DqAll.same s2 _ ha) hs' ha')⟩
  · exact q2.elim
theorem slTK {K : PySem.W.Frag} (h : X.K = K) : L2.SlR X (rSlT K) := h ▸ sl_tup
theorem de_slT {l h : Option Expr} {lo hi : Option EE} (hpe : ∀ {ta : TE} {tl th : TO}, PE X e1 ta → PO X l tl → PO X h th → PE X e (tSl (rSlT Γ.K) ta tl th)) {ta : TE} (h1 : DE Γ X W e1 ta a) {tl : TO} (h2 : DO Γ X W l tl lo) {th : TO} (h3 : DO Γ X W h th hi) : DE Γ X W e (tSl (rSlT Γ.K) ta tl th) (eSlT a lo hi) := by
  obtain ⟨p1, d1⟩ := h1
  obtain ⟨p2, d2⟩ := h2
  obtain ⟨p3, d3⟩ := h3
  refine ⟨hpe p1 p2 p3, fun f F H σ ρ Q R Xx E q o ox => ?_⟩
  refine d1 f F H σ ρ _ _ Xx E q (fun x ρ1 F1 H1 v1 q1 E1 s1 r1 => ?_) ox
  obtain ⟨us, rfl, q1'⟩ := dT_of q1
  refine d2 f F1 H1 σ ρ1 _ _ Xx E1 q1' (fun lo' ρ2 F2 H2 q2 E2 s2 => ?_) ox
  refine d3 f F2 H2 σ ρ2 _ _ Xx E2 q2 (fun hi' ρ3 F3 H3 q3 E3 s3 => ?_) ox
  cases r1 with
  | tup hs ha =>
    have s23 := s2.trans s3
    have ln := ha.len
    refine ⟨_, _, rfl, Same.tup (s23.trans E3.s1) hs, by rw [ln]; exact q3.1, fun p np => ?_⟩
    have nF := E3.fnone np
    exact o _ _ _ _ _ q3.2 (E3.alloc np) ((s1.trans s23).trans (same_updF nF)) (.tup (.of upd_same) (DqAll.same (same_updF nF) _ ((DqAll.same s23 us ha).cut _ _)))
theorem cd_divmod : CallD Γ (fun xs H Q => ∃ i j, xs = [V.int i, .int j] ∧ CDivP i j ∧ ∀ p, H p = none → Q (.ref p) (upd H p (.tup [.int (i / j), .int (i % j)]))) pDivmod := fun f F H σ ρ vs xs Q R E r p o => by
  unfold pDivmod at p
  split at p
  · obtain ⟨u, w, rfl, r1, r2⟩ := rp2 r
    cases r1; cases r2
    refine ⟨_, _, rfl, p.1, fun l nl => ?_⟩
    have nF := E.fnone nl
    exact o _ _ _ _ p.2 (E.alloc nl) (same_updF nF) (.tup (.of upd_same) (.cons (.int _) (.cons (.int _) .nil)))
  · exact p.elim
theorem y_iZpM {RA : List A → List Sl → Prop} {Xx : XX} : iZpM a b ρ RA Xx ↔ a ρ (fun x ρ1 => b ρ1 (fun y ρ2 => match x, y with
  | .d (.tuple ds), .d (.list es) => RA (zipA ds es) ρ2
  | _, _ => False) Xx) Xx := Iff.rfl
theorem y_dT {ds : List PyData} {Q : List PyData → Prop} : dT (.d (.tuple ds)) Q ↔ Q ds := Iff.rfl
theorem y_slT {lo hi : Option EE} {R : A → List Sl → Prop} {Xx : XX} : eSlT a lo hi ρ R Xx ↔ a ρ (fun x ρ1 => dT x fun u => dO lo ρ1 (fun l ρ2 => dO hi ρ2 (fun h ρ3 => ¬ fullSl u.length l h ∧ R (.d (.tuple (cutA u l h))) ρ3) Xx) Xx) Xx := Iff.rfl
theorem y_divmod {i j : Int} {Q : PyData → Prop} : pDivmod [.d (.int i), .d (.int j)] Q ↔ CDivP i j ∧ Q (.tuple [.int (i / j), .int (i % j)]) := Iff.rfl
end
/-! a def that raises nothing, for two kinds of arguments -/
section
variable {Γ : Gx} {P : Program} {w : World} {mg : Str → Option Value} {base : Heap} {k : Nat} {x : Str} {st : Stmt} {N ps : List Str} {φ ψ : Phi} {rg : Bool}
theorem sp_or {vs : List V} {H : Hp} {Q : VK} {E : XK} (h : spP Γ rg (fun n xs R Xx => φ n xs R Xx ∨ ψ n xs R Xx) vs H Q E) : spP Γ rg φ vs H Q E ∨ spP Γ rg ψ vs H Q E := by
  obtain ⟨R, r, F, n, xs, us, RR, Xx, e, hr, s, hR, hcl, hat, hno, q, o, ox⟩ := h
  rcases q with q | q
  · exact .inl ⟨R, r, F, n, xs, us, RR, Xx, e, hr, s, hR, hcl, hat, hno, q, o, ox⟩
  · exact .inr ⟨R, r, F, n, xs, us, RR, Xx, e, hr, s, hR, hcl, hat, hno, q, o, ox⟩
theorem mkPP2 (T : Tx Γ.K mg x st) (S : FnScope N ps (defScope st))
    (bi : ∀ (kV doc pm : Value) (an : Option Addr) (cdv ct : Value) (us : List Value), us.length = ps.length → bindArgs (PySem.W.fnOf x x (defArgs st) (defBody st) (defScope st) .none kV doc pm an cdv ct) ⟨us, []⟩ = pure (ps.zip us))
    (len : ∀ n xs R Xx, φ n xs R Xx ∨ ψ n xs R Xx → (if rg = true then 1 else 0) + xs.length = ps.length) (hX : ∀ n xs R Xx, φ n xs R Xx → φ n xs R fun _ _ _ => False) (hX2 : ∀ n xs R Xx, ψ n xs R Xx → ψ n xs R fun _ _ _ => False)
    (hb : ∀ (f : Addr) (cdv : Value) (A : Around) (outer : List Env) (s : Shared) (H : Hp) (E : XK), A.guards = some [] → Room k (A.deeper (envOfC x (defScope st) s.heap.objs.size f cdv)) →
      ∃ t κ, DSs Γ (cxOf CX0 P w Γ.K mg base N x (defScope st) f cdv A outer s H E).nox (fun _ _ _ _ => False) (defBody st) t κ ∧ ∀ n xs R, φ n xs R (fun _ _ _ => False) → κ (initS rg n N xs) (ends0 rg R))
    (hb2 : ∀ (f : Addr) (cdv : Value) (A : Around) (outer : List Env) (s : Shared) (H : Hp) (E : XK), A.guards = some [] → Room k (A.deeper (envOfC x (defScope st) s.heap.objs.size f cdv)) →
      ∃ t κ, DSs Γ (cxOf CX0 P w Γ.K mg base N x (defScope st) f cdv A outer s H E).nox (fun _ _ _ _ => False) (defBody st) t κ ∧ ∀ n xs R, ψ n xs R (fun _ _ _ => False) → κ (initS rg n N xs) (ends0 rg R)) :
    Pr P w Γ.K mg base CX0 (k + 1) x ps (spP Γ rg fun n xs R Xx => φ n xs R Xx ∨ ψ n xs R Xx) :=
  mkP T S bi (sp_len len) fun f cdv A outer s H vs Q E hG hr h => by
    rcases sp_or h with h | h
    · obtain ⟨t, κ, d, q⟩ := hb f cdv A outer s H E hG hr
      exact ⟨t, d.1, body0 (X := cxOf CX0 P w Γ.K mg base N x (defScope st) f cdv A outer s H E) h d.2 q hX⟩
    · obtain ⟨t, κ, d, q⟩ := hb2 f cdv A outer s H E hG hr
      exact ⟨t, d.1, body0 (X := cxOf CX0 P w Γ.K mg base N x (defScope st) f cdv A outer s H E) h d.2 q hX2⟩
/-- the same of a def that may raise -/
theorem mkPPX2 (T : Tx Γ.K mg x st) (S : FnScope N ps (defScope st))
    (bi : ∀ (kV doc pm : Value) (an : Option Addr) (cdv ct : Value) (us : List Value), us.length = ps.length → bindArgs (PySem.W.fnOf x x (defArgs st) (defBody st) (defScope st) .none kV doc pm an cdv ct) ⟨us, []⟩ = pure (ps.zip us))
    (len : ∀ n xs R Xx, φ n xs R Xx ∨ ψ n xs R Xx → (if rg = true then 1 else 0) + xs.length = ps.length)
    (hb : ∀ (f : Addr) (cdv : Value) (A : Around) (outer : List Env) (s : Shared) (H : Hp) (E : XK), A.guards = some [] → Room k (A.deeper (envOfC x (defScope st) s.heap.objs.size f cdv)) →
      ∃ t κ, DSs Γ (cxOf (L2N.CX P w) P w Γ.K mg base N x (defScope st) f cdv A outer s H E) (fun cls dx _ H => E cls dx H) (defBody st) t κ ∧ ∀ n xs R Xx, φ n xs R Xx → κ (initS rg n N xs) (endsX rg R Xx))
    (hb2 : ∀ (f : Addr) (cdv : Value) (A : Around) (outer : List Env) (s : Shared) (H : Hp) (E : XK), A.guards = some [] → Room k (A.deeper (envOfC x (defScope st) s.heap.objs.size f cdv)) →
      ∃ t κ, DSs Γ (cxOf (L2N.CX P w) P w Γ.K mg base N x (defScope st) f cdv A outer s H E) (fun cls dx _ H => E cls dx H) (defBody st) t κ ∧ ∀ n xs R Xx, ψ n xs R Xx → κ (initS rg n N xs) (endsX rg R Xx)) :
    Pr P w Γ.K mg base (L2N.CX P w) (k + 1) x ps (spP Γ rg fun n xs R Xx => φ n xs R Xx ∨ ψ n xs R Xx) :=
  mkPX T S bi (sp_len len) fun f cdv A outer s H vs Q E hG hr h => by
    rcases sp_or h with h | h
    · obtain ⟨t, κ, d, q⟩ := hb f cdv A outer s H E hG hr
      exact ⟨t, d.1, bodyX h d.2 q⟩
    · obtain ⟨t, κ, d, q⟩ := hb2 f cdv A outer s H E hG hr
      exact ⟨t, d.1, bodyX h d.2 q⟩
end
/-! try, its parts read together -/
section
variable {Γ : Gx} {X : Cx} {W : WX} {st : Stmt} {body suite : List Stmt} {k k' : SS} {i : Nat}
/-- some end of exceptions takes all -/
def TryX (X : Cx) : Prop := ∃ pn xe, (∀ W', L2N.Takes (X.tr pn xe) W') ∧ PassesOwn (model X.prog X.w) X.A X.env xe
theorem tryX {P : Program} {w : World} {K : PySem.W.Frag} {mg : Str → Option Value} {base : Heap} {N : List Str} {qual : Str} {scope : Scope} {f : Addr} {cd : Value} {A : Around} {outer : List Env} {s : Shared} {H : Hp} {E : XK} :
    TryX (cxOf CX0 P w K mg base N qual scope f cd A outer s H E).nox :=
  ⟨[], (cxOf (L2N.CX P w) P w K mg base N qual scope f cd A outer s H fun _ _ _ => True).xe, fun W' =>
    (show L2N.Takes (cxOf (L2N.CX P w) P w K mg base N qual scope f cd A outer s H fun _ _ _ => True) (fun cls dx _ H => (fun _ _ _ => True : XK) cls dx H) from L2N.takes_of rfl rfl rfl rfl).imp fun _ _ _ _ _ => trivial,
    passes_of (X := cxOf (L2N.CX P w) P w K mg base N qual scope f cd A outer s H fun _ _ _ => True) rfl⟩
theorem ds_tryT {yes : Nat → Bool} {cl : Value} {tb : WX → TS} {ts : TS} (hy : ∀ c, PySem.W.exmOne Γ.K (.ref (Γ.C c)) cl = some (yes c)) (hT : TryX X)
    (hpe : (∀ (W : WX) (pn : List (Addr × Obj)) (xe : Value → Shared → Prop), L2N.Takes (X.tr pn xe) W → PassesOwn (model X.prog X.w) X.A X.env xe → PSs (X.tr pn xe) body (tb W)) → (∀ (a : Addr) (pn : List (Addr × Obj)), PSs (X.suite a pn) suite ts) →
      PS X st (fun D σ H => tb (wTrk Γ.K cl i ts W D) D σ H))
    (hb : ∀ (W : WX) (pn : List (Addr × Obj)) (xe : Value → Shared → Prop), L2N.Takes (X.tr pn xe) W → PassesOwn (model X.prog X.w) X.A X.env xe → DSs Γ (X.tr pn xe) W body (tb W) k) (hs : ∀ (a : Addr) (pn : List (Addr × Obj)), DSs Γ (X.suite a pn) (fun _ _ _ _ => False) suite ts k') :
    DS Γ X W st (fun D σ H => tb (wTrk Γ.K cl i ts W D) D σ H) (sTry yes i k k') := by
  obtain ⟨pn, xe, h1, h2⟩ := hT
  exact ds_try hy (hpe (fun W pn xe tk po => (hb W pn xe tk po).1) fun a pn => (hs a pn).1) (fun W' => (hb W' pn xe (h1 W') h2).2) (hs 0 []).2
theorem y_try {yes : Nat → Bool} {ρ : List Sl} {P : EndsP} : sTry yes i k k' ρ P ↔ k ρ { P with ex := fun c d ρ1 => if yes c = true then k' (ρ1.set i (.a (.exc c d))) { P with nx := fun ρ2 => P.nx (ρ2.set i .un), bk := fun ρ2 => P.bk (ρ2.set i .un), ct := fun ρ2 => P.ct (ρ2.set i .un), ex := fun _ _ _ => False } else P.ex c d ρ1 } := Iff.rfl
theorem y_val {R : A → List Sl → Prop} {Xx : XX} {ρ : List Sl} : eVal i ρ R Xx ↔ match ρ[i]? with
  | some (.a (.exc _ d)) => R (.d d) ρ
  | _ => False := Iff.rfl
end
/-! two names at once, one of them an own list -/
section
variable {Γ : Gx} {X : Cx} {W : WX} {st : Stmt} {e1 e2 : Expr} {a : EE} {l : LL} {i j : Nat} {v : V} {d : PyData}
def sParO10 (i j : Nat) (l : LL) (d : PyData) : SS := fun ρ P => l ρ (fun ds ρ1 => P.nx ((ρ1.set i (.own ds)).set j (.a (.d d)))) P.ex
def sParO01 (i j : Nat) (a : EE) (l : LL) : SS := fun ρ P => a ρ (fun x ρ1 => l ρ1 (fun ds ρ2 => P.nx ((ρ2.set i (.a x)).set j (.own ds))) P.ex) P.ex
theorem ds_parO10 (hv : ∀ F, Dq Γ.K F v d) (hpe : ∀ {t : TE}, PE X e1 t → PS X st (tPar i j (tCons t (tCons (tC v) tNil)))) {t : TE} (h : DL Γ X W e1 t l) : DS Γ X W st (tPar i j (tCons t (tCons (tC v) tNil))) (sParO10 i j l d) := by
  obtain ⟨p, dn⟩ := h
  refine ⟨hpe p, fun f F H σ ρ P D E q o => ?_⟩
  refine dn f F H σ ρ _ _ P.ex E q (fun ds ρ1 F1 H1 b xs q1 E1 s1 w => ?_) (o.ex σ)
  exact ⟨_, _, rfl, o.nx _ _ _ _ q1 ((E1.setO w.hH w.hD w.hF (.inl w.h0) w.hO w.hR).setA (hv F1)) s1⟩
theorem ds_parO01 (hij : i ≠ j) (hpe : ∀ {t u : TE}, PE X e1 t → PE X e2 u → PS X st (tPar i j (tCons t (tCons u tNil)))) {t : TE} (h : DE Γ X W e1 t a) {u : TE} (h' : DL Γ X W e2 u l) : DS Γ X W st (tPar i j (tCons t (tCons u tNil))) (sParO01 i j a l) := by
  obtain ⟨p, dn⟩ := h
  obtain ⟨p', dn'⟩ := h'
  refine ⟨hpe p p', fun f F H σ ρ P D E q o => ?_⟩
  refine dn f F H σ ρ _ _ P.ex E q (fun x ρ1 F1 H1 v1 q1 E1 s1 r1 => ?_) (o.ex σ)
  refine dn' f F1 H1 σ ρ1 _ _ P.ex E1 q1 (fun ds ρ2 F2 H2 b xs q2 E2 s2 w => ?_) (o.ex σ)
  have E3 := E2.setO (i := j) w.hH w.hD w.hF (.inl w.h0) w.hO w.hR
  have E4 := E3.setA (i := i) (r1.same s2)
  refine ⟨_, _, rfl, ?_⟩
  rw [List.set_comm _ _ hij]
  rw [List.set_comm _ _ hij] at q2
  exact o.nx _ _ _ _ q2 E4 (s1.trans s2)
theorem y_par10 {ρ : List Sl} {P : EndsP} : sParO10 i j l d ρ P ↔ l ρ (fun ds ρ1 => P.nx ((ρ1.set i (.own ds)).set j (.a (.d d)))) P.ex := Iff.rfl
theorem y_par01 {ρ : List Sl} {P : EndsP} : sParO01 i j a l ρ P ↔ a ρ (fun x ρ1 => l ρ1 (fun ds ρ2 => P.nx ((ρ2.set i (.a x)).set j (.own ds))) P.ex) P.ex := Iff.rfl
end
/-! an own list compared with data, and still one's own -/
section
variable {Γ : Gx} {X : Cx} {W : WX} {e e1 e2 : Expr} {b : EE} {i : Nat}
def cmpO (p : P2) (i : Nat) (b : EE) : EE := fun ρ R Xx => (∃ ds, ρ[i]? = some (.own ds)) ∧ b ρ (fun y ρ1 => dD y fun u => match ρ1[i]? with
  | some (.own ds) => p (.list ds) u fun d => R (.d d) ρ1
  | _ => False) Xx
theorem own_dp {f : Fr} {F H : Hp} {σ : L2.St} {ρ : List Sl} {ds : List PyData} {a : Addr} (E : Ent Γ f F H σ ρ) (h : ρ[i]? = some (.own ds)) (hv : σ[i]? = some (some (.ref a))) : Dp Γ.K H (.ref a) (.list ds) := by
  obtain ⟨a', xs, hv', hH, hD, _, _⟩ := E.sl i _ h
  rw [hv] at hv'
  cases hv'
  exact .lst (SqL.of hH) (DqAll.dp ds (DqAll.same E.s1 ds hD))
theorem den_eqO {tb : TE} (d : DenE Γ W tb b) : DenE Γ W (tOp (rEqD Γ.K) (tVar i) tb) (cmpO pEqD i b) := fun f F H σ ρ Q R Xx E q o ox => by
  obtain ⟨⟨ds, hi⟩, q⟩ := q
  obtain ⟨a, xs, hv, _⟩ := E.sl i _ hi
  refine ⟨_, hv, ?_⟩
  refine d f F H σ ρ _ _ Xx E q (fun y ρ1 F1 H1 v1 q1 E1 s1 r1 => ?_) ox
  obtain ⟨u, rfl, q2⟩ := dD_of q1
  split at q2
  · rename_i ds' h'
    exact ⟨_, u, own_dp E1 h' hv, Dp.same E1.s1 u (Dq.dp u r1), q2.1, q2.2.1, o _ _ _ _ _ q2.2.2 E1 s1 (.bl _)⟩
  · exact q2.elim
theorem den_neO {tb : TE} (d : DenE Γ W tb b) : DenE Γ W (tOp (rNeD Γ.K) (tVar i) tb) (cmpO pNeD i b) := fun f F H σ ρ Q R Xx E q o ox => by
  obtain ⟨⟨ds, hi⟩, q⟩ := q
  obtain ⟨a, xs, hv, _⟩ := E.sl i _ hi
  refine ⟨_, hv, ?_⟩
  refine d f F H σ ρ _ _ Xx E q (fun y ρ1 F1 H1 v1 q1 E1 s1 r1 => ?_) ox
  obtain ⟨u, rfl, q2⟩ := dD_of q1
  split at q2
  · rename_i ds' h'
    exact ⟨_, u, own_dp E1 h' hv, Dp.same E1.s1 u (Dq.dp u r1), q2.1, q2.2.1, o _ _ _ _ _ q2.2.2 E1 s1 (.bl _)⟩
  · exact q2.elim
theorem dt_eqO (hpe : ∀ {tb : TE}, PE X e2 tb → PT X e (tTest (tOp (rEqD Γ.K) (tVar i) tb))) {tb : TE} (h : DE Γ X W e2 tb b) : DT Γ X W e (tTest (tOp (rEqD Γ.K) (tVar i) tb)) (bOf (cmpO pEqD i b)) := ⟨hpe h.1, den_test (den_eqO h.2)⟩
theorem dt_neO (hpe : ∀ {tb : TE}, PE X e2 tb → PT X e (tTest (tOp (rNeD Γ.K) (tVar i) tb))) {tb : TE} (h : DE Γ X W e2 tb b) : DT Γ X W e (tTest (tOp (rNeD Γ.K) (tVar i) tb)) (bOf (cmpO pNeD i b)) := ⟨hpe h.1, den_test (den_neO h.2)⟩
theorem de_eqO (hpe : ∀ {tb : TE}, PE X e2 tb → PE X e (tOp (rEqD Γ.K) (tVar i) tb)) {tb : TE} (h : DE Γ X W e2 tb b) : DE Γ X W e (tOp (rEqD Γ.K) (tVar i) tb) (cmpO pEqD i b) := ⟨hpe h.1, den_eqO h.2⟩
theorem de_neO (hpe : ∀ {tb : TE}, PE X e2 tb → PE X e (tOp (rNeD Γ.K) (tVar i) tb)) {tb : TE} (h : DE Γ X W e2 tb b) : DE Γ X W e (tOp (rNeD Γ.K) (tVar i) tb) (cmpO pNeD i b) := ⟨hpe h.1, den_neO h.2⟩
theorem y_cmpO {p : P2} {ρ : List Sl} {R : A → List Sl → Prop} {Xx : XX} : cmpO p i b ρ R Xx ↔ (∃ ds, ρ[i]? = some (.own ds)) ∧ b ρ (fun y ρ1 => dD y fun u => match ρ1[i]? with
  | some (.own ds) => p (.list ds) u fun d => R (.d d) ρ1
  | _ => False) Xx := Iff.rfl
end
section
variable {Γ : Gx} {X : Cx} {W : WX} {e e1 e2 e3 : Expr} {a b c : EE}
/-- a chained comparison as a test -/
theorem dt_chain {r r' : R2} {p p' : P2} (hp : OpD Γ r p) (hp' : OpD Γ r' p') (hpt : ∀ {ta tb tc : TE}, PE X e1 ta → PE X e2 tb → PE X e3 tc → PT X e (tTest (tChain r r' ta tb tc))) (hpe : ∀ {ta tb tc : TE}, PE X e1 ta → PE X e2 tb → PE X e3 tc → PE X e (tChain r r' ta tb tc))
    {ta : TE} (h1 : DE Γ X W e1 ta a) {tb : TE} (h2 : DE Γ X W e2 tb b) {tc : TE} (h3 : DE Γ X W e3 tc c) : DT Γ X W e (tTest (tChain r r' ta tb tc)) (bOf (eChain p p' a b c)) := ⟨hpt h1.1 h2.1 h3.1, den_test (de_chain hp hp' hpe h1 h2 h3).2⟩
end
/-! helps -/
section
theorem y_cut {k k' : SS} {ρ : List Sl} {P : EndsP} (h : ∀ NX : List Sl → Prop, (∀ ρ', k' ρ' P → NX ρ') → k ρ ⟨NX, P.rt, P.bk, P.ct, P.ex⟩) : sSeq k k' ρ P := y_seq.mpr (h (fun ρ' => k' ρ' P) fun _ h => h)
theorem loopQ {lo : Int} {n : Nat} {g : GG} {b : SS} {P : EndsP} {ρ : List Sl} (Inv : Nat → List Sl → Prop) (h0 : Inv 0 ρ) (hs : ∀ BK (i : Nat) ρ1, i < n → Inv i ρ1 → g (.d (.int (lo + i))) ρ1 fun ρ2 => b ρ2 ⟨Inv (i + 1), P.rt, BK, Inv (i + 1), P.ex⟩) (hd : ∀ ρ1, Inv n ρ1 → P.nx ρ1) : LoopP (rngA lo n) g b P ρ :=
  loopR Inv h0 (fun i ρ1 hi h => hs P.nx i ρ1 hi h) hd
theorem fm_some {α β : Type} (f : α → β) : ∀ r : List α, (r.filterMap fun p => some (f p)) = r.map f
  | [] => rfl
  | p :: r => by rw [List.filterMap_cons, List.map_cons, fm_some f r]
theorem fm_if {α β : Type} (t : α → Bool) (f : α → β) : ∀ r : List α, (r.filterMap fun p => if t p = true then some (f p) else none) = (r.filter t).map f
  | [] => rfl
  | p :: r => by
    rw [List.filterMap_cons, List.filter_cons]
    cases h : t p
    · rw [if_neg (by decide), if_neg (by decide)]
      exact fm_if t f r
    · rw [if_pos rfl, if_pos rfl, List.map_cons, fm_if t f r]
theorem two_mono' {a b : Nat} (h : a ≤ b) : (2 : Int) ^ a ≤ 2 ^ b := by
  have : (2 : Nat) ^ a ≤ 2 ^ b := Nat.pow_le_pow_right (by decide) h
  exact_mod_cast this
theorem ixN_here {n j : Nat} (h : j < n) : ixN n (0 + (j : Nat)) = some j := by
  rw [Int.zero_add]
  unfold ixN
  simp [h]
theorem atI_any {α : Type} {xs : List α} {i : Int} (h0 : -(xs.length : Int) ≤ i) (h1 : i < xs.length) : ∃ x, x ∈ xs ∧ atI xs i = some x := by
  unfold atI ixN
  by_cases h : 0 ≤ i
  · have hi : i.toNat < xs.length := by omega
    refine ⟨xs[i.toNat], List.getElem_mem hi, ?_⟩
    simp [h, hi, h1]
  · have hi : (i + xs.length).toNat < xs.length := by omega
    refine ⟨xs[(i + xs.length).toNat], List.getElem_mem hi, ?_⟩
    simp [h, hi, h0]
theorem atI_map {α β : Type} {f : α → β} {xs : List α} {i : Int} {x : α} (h : atI xs i = some x) : atI (xs.map f) i = some (f x) := by
  unfold atI at h ⊢
  rw [List.length_map]
  cases e : ixN xs.length i with
  | none => rw [e] at h; cases h
  | some j =>
    rw [e] at h
    show (xs.map f)[j]? = _
    rw [List.getElem?_map, show xs[j]? = some x from h]
    rfl
theorem at4 {α : Type} {a b c d e : α} {l : List α} : atI (a :: b :: c :: d :: e :: l) 4 = some e := atI_nat (j := 4) rfl
theorem cut_1 {xs : List PyData} : cutA xs (some 1) none = xs.drop 1 := by
  cases xs with
  | nil => rfl
  | cons x xs =>
    unfold cutA
    simp [HT.sIx]
theorem szS {n m : Nat} (h : n ≤ m) (hm : m ≤ 100000) : szL n := by
  unfold szL
  rw [sizeLine_eq]
  omega
theorem ints_lay0 : ∀ fs : List Int, PyData.canLayAll0 (fs.map PyData.int) = true
  | [] => rfl
  | _ :: fs => by
    show (true && PyData.canLayAll0 (fs.map PyData.int)) = true
    rw [ints_lay0 fs]
    rfl
theorem ints_deep0 : ∀ fs : List Int, PyData.depthAll (fs.map PyData.int) = 0
  | [] => rfl
  | _ :: fs => by
    show max 0 (PyData.depthAll (fs.map PyData.int)) = 0
    rw [ints_deep0 fs]
    rfl
theorem shT0 (fs : List Int) : SeqAt.shaped (.tuple (fs.map PyData.int)) = true := by
  unfold SeqAt.shaped
  simp only [PyData.canLay0, PyData.depth, ints_lay0, ints_deep0]
  simp
theorem shL0 (fs : List Int) : SeqAt.shaped (.list (fs.map PyData.int)) = true := by
  unfold SeqAt.shaped
  simp only [PyData.canLay0, PyData.depth, ints_lay0, ints_deep0]
  simp
theorem eqvT0 (fs : List Int) : PyData.eqv (.tuple (fs.map PyData.int)) (.tuple []) = fs.isEmpty := by cases fs <;> rfl
theorem eqvL0 (fs : List Int) : PyData.eqv (.list (fs.map PyData.int)) (.list []) = fs.isEmpty := by cases fs <;> rfl
theorem shE : SeqAt.shaped (.list []) = true := by decide +kernel
theorem shE' : SeqAt.shaped (.tuple []) = true := by decide +kernel
end
end Cc

set_option Elab.async false
set_option linter.all false
set_option maxRecDepth 100000
set_option maxHeartbeats 4000000
/-! The pure layer: texts. -/
namespace Cc
open PySem PySem.Spec PyProof.Rows L2
abbrev PM := A → List A → (PyData → Prop) → Prop
def rAddS : R2 := fun x y H Q => ∃ i j, x = .str i ∧ y = .str j ∧ i.length + j.length ≤ sizeLine ∧ Q (.str (i ++ j)) H
def pAddS : P2
  | .str a, .str b, R => a.length + b.length ≤ sizeLine ∧ R (.str (a ++ b))
  | _, _, _ => False
def strI (i : Int) : Str := toString i
def pStr : PL
  | [.d (.int i)], R => i.natAbs.log2 < 1920 ∧ R (.str (strI i))
  | _, _ => False
def pIntB : PL
  | [.d (.int i)], R => R (.int i)
  | [.d (.bool k)], R => R (.int (if k then 1 else 0))
  | _, _ => False
def pIntS : PL
  | [.d (.str z)], R => ∃ n, PySem.intText? z = some n ∧ z.length ≤ 640 ∧ R (.int n)
  | _, _ => False
def pMinL : PL
  | [.d (.list ds)], R => ∃ ns : List Int, ds = ns.map PyData.int ∧ 0 < ns.length ∧ ∀ m, m ∈ ns → (∀ y, y ∈ ns → m ≤ y) → R (.int m)
  | _, _ => False
def pLenS : PL
  | [.d (.str z)], R => z.length ≤ sizeLine ∧ R (.int z.length)
  | _, _ => False
def pM0 (C : Str → Prop) (g : Str → PyData) : PM
  | .d (.str z), [], R => C z ∧ R (g z)
  | _, _, _ => False
def pM1 (g : Str → Str → PyData) : PM
  | .d (.str z), [.d (.str y)], R => R (g z y)
  | _, _, _ => False
def pMI (C : Str → Int → Prop) (g : Str → Int → PyData) : PM
  | .d (.str z), [.d (.int i)], R => C z i ∧ R (g z i)
  | _, _, _ => False
def pJoin : PM
  | .d (.str a), [.d (.list ds)], R => ∃ ys : List Str, ds = ys.map PyData.str ∧ (ys.map (·.length)).sum + ys.length * a.length ≤ 16777216 ∧ R (.str (Txt.join a ys))
  | _, _, _ => False
def isS : A → Prop
  | .d (.str _) => True
  | _ => False
def eM (p : PM) (a : EE) (as : AA) : EE := fun ρ R Xx => a ρ (fun x ρ1 => isS x ∧ as ρ1 (fun xs ρ2 => p x xs fun d => R (.d d) ρ2) Xx) Xx
def eM0 (p : PM) (a : EE) : EE := fun ρ R Xx => a ρ (fun x ρ1 => isS x ∧ p x [] fun d => R (.d d) ρ1) Xx
def dZ : A → (Str → Prop) → Prop
  | .d (.str b), P => P b
  | _, _ => False
def lSplit (a b : EE) : LL := fun ρ R Xx => a ρ (fun x ρ1 => isS x ∧ b ρ1 (fun y ρ2 => dZ x fun u => dZ y fun w => (w.length == 0) = false ∧ u.length + 2 ≤ sizeLine ∧ R ((Txt.split u w).map PyData.str) ρ2) Xx) Xx
def eSlS (a : EE) (lo hi : Option EE) : EE := fun ρ R Xx => a ρ (fun x ρ1 => dZ x fun u => dO lo ρ1 (fun l ρ2 => dO hi ρ2 (fun h ρ3 => u.length ≤ sizeLine ∧ R (.d (.str (cutS u l h))) ρ3) Xx) Xx) Xx
def pInD : P2 := fun d e R => match e with
  | .list ds => SeqAt.shaped d = true ∧ SeqAt.shaped (.list ds) = true ∧ R (.bool (ds.any fun z => PyData.eqv z d))
  | _ => False
section
variable {Γ : Gx} {X : Cx} {W : WX} {f : Fr} {F H F' H' : Hp} {σ σ' : L2.St} {ρ ρ' : List Sl} {x : A} {v : V} {d : PyData} {e e1 e2 e3 tg : Expr} {a b c : EE} {i j : Nat} {es : List Expr} {pos : Pos} {st : Stmt} {sts sts' : List Stmt} {k k' : SS} {gs : List Nat}
theorem dZ_of {P : Str → Prop} (h : dZ x P) : ∃ b, x = .d (.str b) ∧ P b := by
  cases x with
  | d y => cases y <;> first | exact ⟨_, rfl, h⟩ | exact h.elim
  | exc => exact h.elim
  | spr => exact h.elim
  | scr => exact h.elim
theorem isS_of (h : isS x) : ∃ b, x = .d (.str b) := by
  cases x with
  | d y => cases y <;> first | exact ⟨_, rfl⟩ | exact h.elim
  | exc => exact h.elim
  | spr => exact h.elim
  | scr => exact h.elim
theorem opd_addS : OpD Γ rAddS pAddS := fun f F H σ ρ x y u w Q R E h1 h2 q o => by
  unfold pAddS at q
  split at q
  · cases h1; cases h2
    exact ⟨_, _, rfl, rfl, q.1, o _ _ F H q.2 E (Same.refl _) (.str _)⟩
  · exact q.elim
theorem opd_inD : OpD Γ (rInD Γ.K) pInD := fun f F H σ ρ x y u w Q R E h1 h2 q o => by
  unfold pInD at q
  split at q
  · exact ⟨u, _, Dp.same E.s1 u (Dq.dp u h1), Dp.same E.s1 _ (Dq.dp _ h2), q.1, q.2.1, o _ _ F H q.2.2 E (Same.refl _) (.bl _)⟩
  · exact q.elim
theorem cd_str : CallD Γ (fun xs H Q => ∃ i, xs = [V.int i] ∧ i.natAbs.log2 < 1920 ∧ Q (.str (toString i)) H) pStr := fun f F H σ ρ vs xs Q R E r p o => by
  unfold pStr at p
  split at p
  · obtain ⟨u, rfl, r1⟩ := rp1 r
    cases r1
    exact ⟨_, rfl, p.1, o _ _ _ _ p.2 E (Same.refl _) (.str _)⟩
  · exact p.elim
theorem cd_intB : CallD Γ (fun xs H Q => (∃ i, xs = [V.int i] ∧ Q (.int i) H) ∨ ∃ k, xs = [V.bl k] ∧ Q (.int (if k then 1 else 0)) H) pIntB := fun f F H σ ρ vs xs Q R E r p o => by
  unfold pIntB at p
  split at p
  · obtain ⟨u, rfl, r1⟩ := rp1 r
    cases r1
    exact .inl ⟨_, rfl, o _ _ _ _ p E (Same.refl _) (.int _)⟩
  · obtain ⟨u, rfl, r1⟩ := rp1 r
    cases r1
    exact .inr ⟨_, rfl, o _ _ _ _ p E (Same.refl _) (.int _)⟩
  · exact p.elim
theorem cd_intS : CallD Γ (fun xs H Q => ∃ a n, xs = [V.str a] ∧ PySem.intText? a = some n ∧ a.length ≤ 640 ∧ Q (.int n) H) pIntS := fun f F H σ ρ vs xs Q R E r p o => by
  unfold pIntS at p
  split at p
  · obtain ⟨u, rfl, r1⟩ := rp1 r
    obtain ⟨n, p1, p2, p3⟩ := p
    cases r1
    exact ⟨_, n, rfl, p1, p2, o _ _ _ _ p3 E (Same.refl _) (.int _)⟩
  · exact p.elim
theorem cd_minL : CallD Γ (rMin Γ.K) pMinL := fun f F H σ ρ vs xs Q R E r p o => by
  unfold pMinL at p
  split at p
  · obtain ⟨u, rfl, r1⟩ := rp1 r
    obtain ⟨ns, rfl, hp, p⟩ := p
    cases r1 with
    | lst hs ha =>
      have e := ha.ints
      subst e
      exact ⟨_, ns, rfl, .of (E.s1 _ _ hs), hp, fun m hm hle => o _ _ _ _ (p m hm hle) E (Same.refl _) (.int _)⟩
  · exact p.elim
theorem cd_lenS : CallD Γ (fun xs H Q => ∃ z, xs = [V.str z] ∧ z.length ≤ sizeLine ∧ Q (.int z.length) H) pLenS := fun f F H σ ρ vs xs Q R E r p o => by
  unfold pLenS at p
  split at p
  · obtain ⟨u, rfl, r1⟩ := rp1 r
    cases r1
    exact ⟨_, rfl, p.1, o _ _ _ _ p.2 E (Same.refl _) (.int _)⟩
  · exact p.elim
/-- a method by values -/
def MtD (Γ : Gx) (r : V → List V → Hp → VK → Prop) (p : PM) : Prop := ∀ f F H σ ρ v vs x xs Q R, Ent Γ f F H σ ρ → Rp Γ F v x → RpAll Γ F vs xs → p x xs R → (∀ d v F' H', R d → Ent Γ f F' H' σ ρ → Same F F' → Dq Γ.K F' v d → Q v H') → r v vs H Q
theorem isS_ty (h : isS x) (r : Rp Γ F v x) : tyV Γ.K "str" v H := by
  obtain ⟨z, rfl⟩ := isS_of h
  cases r
  rfl
theorem de_m {r : V → List V → Hp → VK → Prop} {p : PM} {as : AA} (hp : MtD Γ r p) (hpe : ∀ {to : TE} {ta : TA}, PE X e1 to → PA X es ta → PE X e (tBM Γ.K "str" r to ta)) {to : TE} (h1 : DE Γ X W e1 to a) {ta : TA} (h2 : DA Γ X W es ta as) : DE Γ X W e (tBM Γ.K "str" r to ta) (eM p a as) := by
  obtain ⟨p1, d1⟩ := h1
  obtain ⟨p2, d2⟩ := h2
  refine ⟨hpe p1 p2, fun f F H σ ρ Q R Xx E q o ox => ?_⟩
  refine d1 f F H σ ρ _ _ Xx E q (fun x ρ1 F1 H1 v1 q1 E1 s1 r1 => ?_) ox
  refine ⟨isS_ty q1.1 r1, ?_⟩
  refine d2 f F1 H1 σ ρ1 _ _ Xx E1 q1.2 (fun xs ρ2 F2 H2 vs q2 E2 s2 r2 => ?_) ox
  exact hp f F2 H2 σ ρ2 v1 vs x xs Q _ E2 (r1.same s2) r2 q2 fun d v F' H' rd E' s' hd => o _ _ _ _ _ rd E' ((s1.trans s2).trans s') hd
theorem de_m0 {r : V → List V → Hp → VK → Prop} {p : PM} (hp : MtD Γ r p) (hpe : ∀ {to : TE}, PE X e1 to → PE X e (tBM0 Γ.K "str" r to)) {to : TE} (h1 : DE Γ X W e1 to a) : DE Γ X W e (tBM0 Γ.K "str" r to) (eM0 p a) := by
  obtain ⟨p1, d1⟩ := h1
  refine ⟨hpe p1, fun f F H σ ρ Q R Xx E q o ox => ?_⟩
  refine d1 f F H σ ρ _ _ Xx E q (fun x ρ1 F1 H1 v1 q1 E1 s1 r1 => ?_) ox
  refine ⟨isS_ty q1.1 r1, ?_⟩
  exact hp f F1 H1 σ ρ1 v1 [] x [] Q _ E1 r1 trivial q1.2 fun d v F' H' rd E' s' hd => o _ _ _ _ _ rd E' (s1.trans s') hd
theorem md_0 {C : Str → Prop} {g : Str → Bool} : MtD Γ (fun x xs H Q => ∃ a, x = .str a ∧ xs = [] ∧ C a ∧ Q (.bl (g a)) H) (pM0 C fun z => .bool (g z)) := fun f F H σ ρ v vs x xs Q R E rv r p o => by
  unfold pM0 at p
  split at p
  · cases rv
    cases vs with
    | nil => exact ⟨_, rfl, rfl, p.1, o _ _ _ _ p.2 E (Same.refl _) (.bl _)⟩
    | cons => exact r.elim
  · exact p.elim
theorem md_1 {g : Str → Str → Bool} : MtD Γ (fun x xs H Q => ∃ a b, x = .str a ∧ xs = [.str b] ∧ Q (.bl (g a b)) H) (pM1 fun z y => .bool (g z y)) := fun f F H σ ρ v vs x xs Q R E rv r p o => by
  unfold pM1 at p
  split at p
  · obtain ⟨u, rfl, r1⟩ := rp1 r
    cases rv; cases r1
    exact ⟨_, _, rfl, rfl, o _ _ _ _ p E (Same.refl _) (.bl _)⟩
  · exact p.elim
theorem md_zfill : MtD Γ (fun x xs H Q => ∃ (a : Str) (i : Int), x = .str a ∧ xs = [.int i] ∧ PadOk i = true ∧ Q (.str (Txt.zfill a i)) H) (pMI (fun _ i => PadOk i = true) fun z i => .str (Txt.zfill z i)) := fun f F H σ ρ v vs x xs Q R E rv r p o => by
  unfold pMI at p
  split at p
  · obtain ⟨u, rfl, r1⟩ := rp1 r
    cases rv; cases r1
    exact ⟨_, _, rfl, rfl, p.1, o _ _ _ _ p.2 E (Same.refl _) (.str _)⟩
  · exact p.elim
theorem dq_strs {F : Hp} : ∀ {ys : List Str} {vs : List V}, DqAll Γ.K F vs (ys.map PyData.str) → vs = ys.map V.str
  | [], _, h => by cases h; rfl
  | y :: ys, _, h => by
    cases h with
    | cons h1 h2 =>
      cases h1
      rw [dq_strs h2]
      rfl
theorem strs_dq {F : Hp} : ∀ ys : List Str, DqAll Γ.K F (ys.map V.str) (ys.map PyData.str)
  | [] => .nil
  | _ :: ys => .cons (.str _) (strs_dq ys)
theorem md_join : MtD Γ (fun x xs H Q => ∃ a p, ∃ ys : List Str, x = .str a ∧ xs = [.ref p] ∧ (SqL Γ.K H p (ys.map V.str) ∨ SqT Γ.K H p (ys.map V.str)) ∧ (ys.map (·.length)).sum + ys.length * a.length ≤ 16777216 ∧ Q (.str (Txt.join a ys)) H) pJoin := fun f F H σ ρ v vs x xs Q R E rv r p o => by
  unfold pJoin at p
  split at p
  · obtain ⟨u, rfl, r1⟩ := rp1 r
    obtain ⟨ys, rfl, p1, p2⟩ := p
    cases rv
    cases r1 with
    | lst hs ha =>
      have e := dq_strs ha
      subst e
      exact ⟨_, _, ys, rfl, rfl, .inl (.of (E.s1 _ _ hs)), p1, o _ _ _ _ p2 E (Same.refl _) (.str _)⟩
  · exact p.elim
theorem dl_split (hpe : ∀ {to te : TE}, PE X e1 to → PE X e2 te → PE X e (tBM Γ.K "str" (fun x xs H Q => ∃ a b, x = .str a ∧ xs = [.str b] ∧ (b.length == 0) = false ∧ a.length + 2 ≤ sizeLine ∧ rNewStrs (Txt.split a b) H Q) to (tCons te tNil))) {to : TE} (h1 : DE Γ X W e1 to a) {te : TE} (h2 : DE Γ X W e2 te b) :
    DL Γ X W e (tBM Γ.K "str" (fun x xs H Q => ∃ a b, x = .str a ∧ xs = [.str b] ∧ (b.length == 0) = false ∧ a.length + 2 ≤ sizeLine ∧ rNewStrs (Txt.split a b) H Q) to (tCons te tNil)) (lSplit a b) := by
  obtain ⟨p1, d1⟩ := h1
  obtain ⟨p2, d2⟩ := h2
  refine ⟨hpe p1 p2, fun f F H σ ρ Q R Xx E q o ox => ?_⟩
  refine d1 f F H σ ρ _ _ Xx E q (fun x ρ1 F1 H1 v1 q1 E1 s1 r1 => ?_) ox
  refine ⟨isS_ty q1.1 r1, ?_⟩
  refine d2 f F1 H1 σ ρ1 _ _ Xx E1 q1.2 (fun y ρ2 F2 H2 v2 q2 E2 s2 r2 => ?_) ox
  obtain ⟨u, rfl, q3⟩ := dZ_of q2
  obtain ⟨w, rfl, q4⟩ := dZ_of q3
  cases r1; cases r2
  refine ⟨_, _, rfl, rfl, q4.1, q4.2.1, fun p np => ?_⟩
  exact o _ _ _ _ _ _ q4.2.2 (E2.raw np) (s1.trans s2) (own_new E2 (strs_dq _) np)
theorem de_slS {l h : Option Expr} {lo hi : Option EE} (hpe : ∀ {ta : TE} {tl th : TO}, PE X e1 ta → PO X l tl → PO X h th → PE X e (tSl rSlS ta tl th)) {ta : TE} (h1 : DE Γ X W e1 ta a) {tl : TO} (h2 : DO Γ X W l tl lo) {th : TO} (h3 : DO Γ X W h th hi) : DE Γ X W e (tSl rSlS ta tl th) (eSlS a lo hi) := by
  obtain ⟨p1, d1⟩ := h1
  obtain ⟨p2, d2⟩ := h2
  obtain ⟨p3, d3⟩ := h3
  refine ⟨hpe p1 p2 p3, fun f F H σ ρ Q R Xx E q o ox => ?_⟩
  refine d1 f F H σ ρ _ _ Xx E q (fun x ρ1 F1 H1 v1 q1 E1 s1 r1 => ?_) ox
  obtain ⟨us, rfl, q1'⟩ := dZ_of q1
  refine d2 f F1 H1 σ ρ1 _ _ Xx E1 q1' (fun lo' ρ2 F2 H2 q2 E2 s2 => ?_) ox
  refine d3 f F2 H2 σ ρ2 _ _ Xx E2 q2 (fun hi' ρ3 F3 H3 q3 E3 s3 => ?_) ox
  cases r1
  exact ⟨_, rfl, q3.1, o _ _ _ _ _ q3.2 E3 ((s1.trans s2).trans s3) (.str _)⟩
/-- by keyword, raising nothing -/
theorem de_callK0 {φ : Phi} {as : AA} {kws : List Keyword} {gV : List V → List V} {gA : List A → List A} (hg : ∀ {vs : List V} {xs : List A} {F : Hp}, RpAll Γ F vs xs → RpAll Γ F (gV vs) (gA xs)) (hpe : ∀ {ta : TA}, PK X kws ta → PE X e (tCallKS (spP Γ false φ) gV (fun _ => E0) ta)) {ta : TA} (h : PK X kws ta ∧ DenA Γ W ta as) :
    DE Γ X W e (tCallKS (spP Γ false φ) gV (fun _ => E0) ta) (eCall0 (fun n xs => φ n (gA xs)) as) := by
  obtain ⟨p, dn⟩ := h
  refine ⟨hpe p, fun f F H σ ρ Q R Xx E q o ox => ?_⟩
  refine dn f F H σ ρ _ _ Xx E q (fun xs ρ1 F1 H1 us q1 E1 s1 r1 => ?_) ox
  exact sp_at E1 (hg r1) q1 (fun x v F' H' rr E' s' h => o x ρ1 F' H' v (rr.elim id fun ⟨_, z⟩ => z) E' (s1.trans s') h) fun c d n' v dx F' H' z => z.elim
end
theorem room65 {k : Nat} {A : Around} (r : Room k A) : A.units + 65 < cLine := by have := r.un; omega
/-! a def that raises nothing, called by keyword too -/
section
variable {Γ : Gx} {P : Program} {w : World} {mg : Str → Option Value} {base : Heap} {k : Nat} {x : Str} {st : Stmt} {N ps : List Str} {φ : Phi} {rg : Bool}
theorem mkPPK (T : Tx Γ.K mg x st) (S : FnScope N ps (defScope st))
    (len : ∀ n xs R Xx, φ n xs R Xx → (if rg = true then 1 else 0) + xs.length = ps.length) (hX : ∀ n xs R Xx, φ n xs R Xx → φ n xs R fun _ _ _ => False)
    (hbody : ∀ (f : Addr) (cdv : Value) (A : Around) (outer : List Env) (s : Shared) (H : Hp) (E : XK), A.guards = some [] → Room k (A.deeper (envOfC x (defScope st) s.heap.objs.size f cdv)) →
      ∃ t κ, DSs Γ (cxOf CX0 P w Γ.K mg base N x (defScope st) f cdv A outer s H E).nox (fun _ _ _ _ => False) (defBody st) t κ ∧ ∀ n xs R, φ n xs R (fun _ _ _ => False) → κ (initS rg n N xs) (ends0 rg R)) :
    PrK P w Γ.K mg base CX0 (k + 1) x st ps (spP Γ rg φ) :=
  mkK T S (sp_len len) fun f cdv A outer s H vs Q E hG hr h => by
    obtain ⟨t, κ, d, q⟩ := hbody f cdv A outer s H E hG hr
    exact ⟨t, d.1, body0 (X := cxOf CX0 P w Γ.K mg base N x (defScope st) f cdv A outer s H E) h d.2 q hX⟩
theorem mkPPXK (T : Tx Γ.K mg x st) (S : FnScope N ps (defScope st))
    (len : ∀ n xs R Xx, φ n xs R Xx → (if rg = true then 1 else 0) + xs.length = ps.length)
    (hbody : ∀ (f : Addr) (cdv : Value) (A : Around) (outer : List Env) (s : Shared) (H : Hp) (E : XK), A.guards = some [] → Room k (A.deeper (envOfC x (defScope st) s.heap.objs.size f cdv)) →
      ∃ t κ, DSs Γ (cxOf (L2N.CX P w) P w Γ.K mg base N x (defScope st) f cdv A outer s H E) (fun cls dx _ H => E cls dx H) (defBody st) t κ ∧ ∀ n xs R Xx, φ n xs R Xx → κ (initS rg n N xs) (endsX rg R Xx)) :
    PrK P w Γ.K mg base (L2N.CX P w) (k + 1) x st ps (spP Γ rg φ) :=
  mkKX T S (sp_len len) fun f cdv A outer s H vs Q E hG hr h => by
    obtain ⟨t, κ, d, q⟩ := hbody f cdv A outer s H E hG hr
    exact ⟨t, d.1, bodyX h d.2 q⟩
end
/-! readings -/
section
variable {ρ : List Sl} {R : A → List Sl → Prop} {RL : List PyData → List Sl → Prop} {Xx : XX} {a b : EE} {as : AA} {x : A} {z y : Str} {i : Int}
theorem y_addS {Q : PyData → Prop} : pAddS (.str z) (.str y) Q ↔ z.length + y.length ≤ sizeLine ∧ Q (.str (z ++ y)) := Iff.rfl
theorem y_str {Q : PyData → Prop} : pStr [.d (.int i)] Q ↔ i.natAbs.log2 < 1920 ∧ Q (.str (strI i)) := Iff.rfl
theorem y_intB {k : Bool} {Q : PyData → Prop} : pIntB [.d (.bool k)] Q ↔ Q (.int (if k then 1 else 0)) := Iff.rfl
theorem y_intI {Q : PyData → Prop} : pIntB [.d (.int i)] Q ↔ Q (.int i) := Iff.rfl
theorem y_intS {Q : PyData → Prop} : pIntS [.d (.str z)] Q ↔ ∃ n, PySem.intText? z = some n ∧ z.length ≤ 640 ∧ Q (.int n) := Iff.rfl
theorem y_minL {ds : List PyData} {Q : PyData → Prop} : pMinL [.d (.list ds)] Q ↔ ∃ ns : List Int, ds = ns.map PyData.int ∧ 0 < ns.length ∧ ∀ m, m ∈ ns → (∀ y, y ∈ ns → m ≤ y) → Q (.int m) := Iff.rfl
theorem y_lenZ {Q : PyData → Prop} : pLenS [.d (.str z)] Q ↔ z.length ≤ sizeLine ∧ Q (.int z.length) := Iff.rfl
theorem y_m {p : PM} : eM p a as ρ R Xx ↔ a ρ (fun x ρ1 => isS x ∧ as ρ1 (fun xs ρ2 => p x xs fun d => R (.d d) ρ2) Xx) Xx := Iff.rfl
theorem y_m0 {p : PM} : eM0 p a ρ R Xx ↔ a ρ (fun x ρ1 => isS x ∧ p x [] fun d => R (.d d) ρ1) Xx := Iff.rfl
theorem y_isS : isS (.d (.str z)) ↔ True := Iff.rfl
theorem y_pM0 {C : Str → Prop} {g : Str → PyData} {Q : PyData → Prop} : pM0 C g (.d (.str z)) [] Q ↔ C z ∧ Q (g z) := Iff.rfl
theorem y_pM1 {g : Str → Str → PyData} {Q : PyData → Prop} : pM1 g (.d (.str z)) [.d (.str y)] Q ↔ Q (g z y) := Iff.rfl
theorem y_pMI {C : Str → Int → Prop} {g : Str → Int → PyData} {Q : PyData → Prop} : pMI C g (.d (.str z)) [.d (.int i)] Q ↔ C z i ∧ Q (g z i) := Iff.rfl
theorem y_joinS {ds : List PyData} {Q : PyData → Prop} : pJoin (.d (.str z)) [.d (.list ds)] Q ↔ ∃ ys : List Str, ds = ys.map PyData.str ∧ (ys.map (·.length)).sum + ys.length * z.length ≤ 16777216 ∧ Q (.str (Txt.join z ys)) := Iff.rfl
theorem y_dZ {Q : Str → Prop} : dZ (.d (.str z)) Q ↔ Q z := Iff.rfl
theorem y_split : lSplit a b ρ RL Xx ↔ a ρ (fun x ρ1 => isS x ∧ b ρ1 (fun y ρ2 => dZ x fun u => dZ y fun w => (w.length == 0) = false ∧ u.length + 2 ≤ sizeLine ∧ RL ((Txt.split u w).map PyData.str) ρ2) Xx) Xx := Iff.rfl
theorem y_slS {lo hi : Option EE} : eSlS a lo hi ρ R Xx ↔ a ρ (fun x ρ1 => dZ x fun u => dO lo ρ1 (fun l ρ2 => dO hi ρ2 (fun h ρ3 => u.length ≤ sizeLine ∧ R (.d (.str (cutS u l h))) ρ3) Xx) Xx) Xx := Iff.rfl
theorem y_inD {ds : List PyData} {d : PyData} {Q : PyData → Prop} : pInD d (.list ds) Q ↔ SeqAt.shaped d = true ∧ SeqAt.shaped (.list ds) = true ∧ Q (.bool (ds.any fun z => PyData.eqv z d)) := Iff.rfl
end
end Cc

set_option Elab.async false
set_option linter.all false
set_option maxRecDepth 100000
set_option maxHeartbeats 4000000
/-! The pure layer: a list within a list that a call has just made is appended to; texts walked; a sign in a text; a text some times; isinstance of a tuple of classes. -/
namespace Cc
open PySem PySem.Spec PyProof.Rows L2
def flatA : Cc.A → Prop
  | .d x => flatD x = true
  | _ => False
/-- x = f(..); if t1: b1; if t2: x[0].append(e): f's answer is its own -/
def sFresh (i : Nat) (φ : Phi) (as : AA) (t1 t2 : BB) (b1 : SS) (e : EE) : SS := fun ρ P =>
  (i < ρ.length ∧ ∀ (j : Nat) (s : Sl), ρ[j]? = some s → s = .un ∨ ∃ x, s = .a x) ∧
  as ρ (fun xs ρ1 => ρ1 = ρ ∧ (∀ x ∈ xs, flatA x) ∧ φ 0 xs (fun x _ => t1 (ρ.set i (.a x)) (fun c ρ2 => if c = true then b1 ρ2 { P with nx := fun _ => False } else
    t2 ρ2 (fun c2 ρ3 => if c2 = true then ∃ ds us, x = .d (.list (.list ds :: us)) ∧ e ρ3 (fun y ρ4 => dD y fun _ => szL (ds.length + 1) ∧ P.nx (ρ.set i .un)) P.ex else P.nx ρ3) P.ex) P.ex) (fun _ _ _ => False)) P.ex
section
variable {Γ : Gx} {X : Cx} {W : WX} {f : Fr} {F H F' H' : Hp} {σ σ' : L2.St} {ρ ρ' : List Sl} {x : Cc.A} {v : V} {d : PyData} {e e1 e2 e3 tg : Expr} {a b c : EE} {i j : Nat} {es : List Expr} {pos : Pos} {st : Stmt} {sts sts' : List Stmt} {k k' : SS} {gs : List Nat}
theorem rp_flat : ∀ {vs : List V} {xs : List Cc.A}, RpAll Γ F vs xs → (∀ x ∈ xs, flatA x) → RpAll Γ F' vs xs
  | [], [], _, _ => trivial
  | v :: vs, x :: xs, ⟨h1, h2⟩, hf => by
    refine ⟨?_, rp_flat h2 fun y hy => hf y (List.mem_cons_of_mem _ hy)⟩
    have h := hf x (List.mem_cons_self ..)
    cases x with
    | d u =>
      have h : flatD u = true := h
      cases u with
      | none => cases h1; exact .non
      | bool b => cases h1; exact .bl _
      | int i => cases h1; exact .int _
      | str z => cases h1; exact .str _
      | list _ => cases h
      | tuple _ => cases h
      | dict _ => cases h
    | exc => exact h.elim
    | spr => exact h.elim
    | scr => exact h.elim
  | [], _ :: _, h, _ => h.elim
  | _ :: _, [], h, _ => h.elim
theorem dss_fresh {φ : Phi} {as : AA} {c1 c2 ea : Expr} {b1s : List Stmt} {t1 t2 : BB} {b1 : SS} {ε : EE}
    (hpe : ∀ {ta : TA} {tt1 : TT} {tb1 : TS} {tt2 : TT} {te : TE}, PA X es ta → PT X c1 tt1 → PSs X b1s tb1 → PT X c2 tt2 → PE X ea te →
      PSs X sts (tSeq (tAsg (tCall (spP Γ false φ) [] E0 ta) (gName i)) (tSeq (tIfS tt1 tb1 tNext) (tIfS tt2 (tDrop (tBM Γ.K "list" rAppend (tOp (rIx Γ.K) (tVar i) (tC (.int 0))) (tCons te tNil))) tNext))))
    {ta : TA} (ha : DA Γ X W es ta as) {tt1 : TT} (h1 : DT Γ X W c1 tt1 t1) {tb1 : TS} (hb : DSs Γ X W b1s tb1 b1) {tt2 : TT} (h2 : DT Γ X W c2 tt2 t2) {te : TE} (he : DE Γ X W ea te ε) :
    DSs Γ X W sts (tSeq (tAsg (tCall (spP Γ false φ) [] E0 ta) (gName i)) (tSeq (tIfS tt1 tb1 tNext) (tIfS tt2 (tDrop (tBM Γ.K "list" rAppend (tOp (rIx Γ.K) (tVar i) (tC (.int 0))) (tCons te tNil))) tNext))) (sFresh i φ as t1 t2 b1 ε) := by
  refine ⟨hpe ha.1 h1.1 hb.1 h2.1 he.1, fun f F H σ ρ P D E q o => ?_⟩
  obtain ⟨⟨hi, plain⟩, q⟩ := q
  refine ha.2 f F H σ ρ _ _ P.ex E q (fun xs ρ1 F1 H1 us q1 E1 s1 r1 => ?_) (o.ex σ)
  obtain ⟨rfl, hflat, q1⟩ := q1
  show spP Γ false φ (us ++ []) H1 _ E0
  rw [List.append_nil]
  refine ⟨fun _ => False, 0, fun _ => none, 0, xs, us, _, _, rfl, rp_flat r1 hflat, (fun _ _ z => nomatch z), (fun _ z => z.elim), (fun _ _ z => nomatch z), (fun z => Bool.noConfusion z), (fun _ _ z => z), q1, fun x n' v Ft H2 qx st hv => ?_, fun _ _ _ _ _ _ _ z => z.elim⟩
  have qx : t1 (ρ1.set i (.a x)) (fun c ρ2 => if c = true then b1 ρ2 { P with nx := fun _ => False } else
    t2 ρ2 (fun c2 ρ3 => if c2 = true then ∃ ds us, x = .d (.list (.list ds :: us)) ∧ ε ρ3 (fun y ρ4 => dD y fun _ => szL (ds.length + 1) ∧ P.nx (ρ1.set i .un)) P.ex else P.nx ρ3) P.ex) P.ex := qx
  let U : Hp := fun b => match F1 b with | some o => some o | none => Ft b
  have newT : ∀ b o, Ft b = some o → H1 b = none := fun b o e => (st.new b o e).elim (fun z => nomatch z) id
  have sU : Same F1 U := fun b o e => by show (match F1 b with | some o => some o | none => Ft b) = some o; rw [e]
  have tU : Same Ft U := fun b o e => by
    show (match F1 b with | some o => some o | none => Ft b) = some o
    cases h : F1 b with
    | none => exact e
    | some u => have := E1.s1 _ _ h; rw [newT b o e] at this; cases this
  have ofU : ∀ b o, U b = some o → F1 b = some o ∨ Ft b = some o := fun b o e => by
    have e : (match F1 b with | some o => some o | none => Ft b) = some o := e
    cases h : F1 b with
    | none => rw [h] at e; exact .inr e
    | some u => rw [h] at e; exact .inl e
  have stU : Stp Γ false (fun _ => False) 0 F1 H1 U H2 n' := ⟨sU, fun b o e => (ofU b o e).elim (fun h => st.chg _ _ (E1.s1 _ _ h) (fun z => z)) (fun h => st.s1 _ _ h), fun b o e => (ofU b o e).elim .inl (fun h => .inr (newT b o h)), st.chg, st.liv, (fun z => Bool.noConfusion z), fun b o e => (ofU b o e).elim (fun h => (E1.cl b o h).same sU) (fun h => (st.cl b o h).same tU)⟩
  have E2 : Ent Γ f U H2 σ ρ1 := E1.stp0 (fun _ z => z) stU
  have E3 := E2.setA (i := i) (hv.same tU)
  refine h1.2 f U H2 _ _ _ _ P.ex E3 qx (fun c ρ2 F3 H3 q3 E4 s4 => ?_) (o.ex _)
  cases c with
  | true =>
    rw [if_pos rfl]
    have o' := o.sub ((s1.trans sU).trans s4)
    exact hb.2 f F3 H3 _ ρ2 { P with nx := fun _ => False } _ E4 q3 ⟨fun _ _ _ _ z => z.elim, o'.rt, o'.bk, o'.ct, o'.ex⟩
  | false =>
    refine h2.2 f F3 H3 _ ρ2 _ _ P.ex E4 q3 (fun c2 ρ3 F4 H4 q4 E5 s5 => ?_) (o.ex _)
    cases c2 with
    | false => exact o.nx _ _ _ _ q4 E5 (((s1.trans sU).trans s4).trans s5)
    | true =>
      obtain ⟨ds, us', rfl, q4⟩ := q4
      cases hv with
      | @lst bo _ _ hs hall =>
        cases hall with
        | cons hin hrest =>
          cases hin with
          | @lst bi xi _ hsi halli =>
            have tF4 : Same Ft F4 := (tU.trans s4).trans s5
            have hil : i < σ.length := by rw [E1.len]; exact hi
            have hget : (σ.set i (some (.ref bo)))[i]? = some (some (.ref bo)) := by rw [List.getElem?_set, if_pos rfl, if_pos hil]
            have tH4 : Same Ft H4 := tF4.trans E5.s1
            refine ⟨.ref bo, hget, .inl ⟨_, _, _, _, rfl, rfl, .of (tH4 _ _ hs), at0, x_tyL (.of (tH4 _ _ hsi)), ?_⟩⟩
            refine he.2 f F4 H4 _ ρ3 _ _ P.ex E5 q4 (fun y ρ4 F5 H5 w q5 E6 s6 r6 => ?_) (o.ex _)
            obtain ⟨du, rfl, hz, q5⟩ := dD_of q5
            have tF5 : Same Ft F5 := tF4.trans s6
            have hH5 := E6.s1 _ _ (tF5 _ _ hsi)
            refine ⟨_, _, _, rfl, rfl, hH5, by rw [halli.len]; exact hz, ?_⟩
            have n1 : H1 bi = none := newT _ _ hsi
            have f1 : F1 bi = none := E1.fnone n1
            have h0 : f.H0 bi = none := E1.liv _ n1
            have s15 : Same F1 F5 := ((sU.trans s4).trans s5).trans s6
            have noown : ∀ (j : Nat) (ds : List PyData), (ρ1.set i .un)[j]? = some (Sl.own ds) → False := fun j ds h => by
              rw [List.getElem?_set] at h
              by_cases hj : i = j
              · rw [if_pos hj] at h
                split at h <;> cases h
              · rw [if_neg hj] at h
                rcases plain j _ h with z | ⟨_, z⟩ <;> cases z
            refine o.nx _ (ρ1.set i .un) F1 _ q5 ⟨E1.s0, fun b u e => ?_, E1.new, fun b u e m => ?_, fun b e => ?_, by rw [List.length_set, List.length_set]; exact E1.len, fun j s hj => ?_, fun j k a ds es z => (noown _ _ z).elim, E1.rm, E1.rF, fun b hb => ?_, fun b hb ⟨j, ds, z, _⟩ => noown _ _ z, E1.ml, E1.cl⟩ s1
            · rw [upd_ne (ne_of_none e f1)]; exact E6.s1 _ _ (s15 _ _ e)
            · rw [upd_ne (ne_of_none e h0)]; exact E6.chg b u e m
            · by_cases hb : b = bi
              · rw [hb, upd_same] at e; cases e
              · rw [upd_ne hb] at e; exact E6.liv b e
            · rw [List.getElem?_set] at hj ⊢
              by_cases hij : i = j
              · rw [if_pos hij] at hj
                split at hj
                · cases hj; trivial
                · first | cases hj; trivial | cases hj
              · rw [if_neg hij] at hj ⊢
                have old := E1.sl j s hj
                rcases plain j s hj with rfl | ⟨y, rfl⟩
                · trivial
                · exact old
            · by_cases hbb : b = bi
              · rw [hbb, upd_same]; exact nofun
              · rw [upd_ne hbb]; exact E6.rl b hb
theorem y_fresh {φ : Phi} {as : AA} {t1 t2 : BB} {b1 : SS} {ε : EE} {P : EndsP} : sFresh i φ as t1 t2 b1 ε ρ P ↔ (i < ρ.length ∧ ∀ (j : Nat) (s : Sl), ρ[j]? = some s → s = .un ∨ ∃ x, s = .a x) ∧
  as ρ (fun xs ρ1 => ρ1 = ρ ∧ (∀ x ∈ xs, flatA x) ∧ φ 0 xs (fun x _ => t1 (ρ.set i (.a x)) (fun c ρ2 => if c = true then b1 ρ2 { P with nx := fun _ => False } else
    t2 ρ2 (fun c2 ρ3 => if c2 = true then ∃ ds us, x = .d (.list (.list ds :: us)) ∧ ε ρ3 (fun y ρ4 => dD y fun _ => szL (ds.length + 1) ∧ P.nx (ρ.set i .un)) P.ex else P.nx ρ3) P.ex) P.ex) (fun _ _ _ => False)) P.ex := Iff.rfl
/-! a text, walked -/
def sgA (z : Str) : List Cc.A := z.cps.toList.map fun c => Cc.A.d (.str ⟨#[c]⟩)
def iTx (a : EE) : II := fun ρ R Xx => a ρ (fun x ρ1 => dZ x fun z => R (sgA z) ρ1) Xx
theorem jok_str {z : Str} : JOk Γ F (Its z) (sgA z) where
  go i H s hi := by
    unfold sgA at hi
    rw [List.length_map] at hi
    exact hi
  stop i H s hi := by
    unfold sgA at hi
    rw [List.length_map] at hi
    exact hi
  yld i H v H' s hil y := by
    obtain ⟨rfl, c, hc, rfl⟩ := y
    refine ⟨.d (.str ⟨#[c]⟩), ?_, .inl ⟨rfl, .str _⟩⟩
    unfold sgA
    rw [List.getElem?_map, Array.getElem?_toList, hc]
    rfl
theorem di_str (hpe : ∀ {t : TE}, PE X e1 t → PI X tg e (iStr t)) {t : TE} (h : DE Γ X W e1 t a) : DI Γ X W tg e (iStr t) (iTx a) := by
  obtain ⟨p, d⟩ := h
  refine ⟨hpe p, fun f F H σ ρ G R Xx E q o ox => ?_⟩
  refine d f F H σ ρ _ _ Xx E q (fun x ρ1 F1 H1 v1 q1 E1 s1 r1 => ?_) ox
  obtain ⟨z, rfl, q2⟩ := dZ_of q1
  cases r1
  exact ⟨z, rfl, o _ _ _ _ _ q2 E1 s1 jok_str⟩
theorem y_iTx {RA : List Cc.A → List Sl → Prop} {Xx : XX} : iTx a ρ RA Xx ↔ a ρ (fun x ρ1 => dZ x fun z => RA (sgA z) ρ1) Xx := Iff.rfl
/-! a sign in a text -/
def pSign (neg : Bool) : P2
  | .str y, .str z, R => ∃ c, y = ⟨#[c]⟩ ∧ R (.bool (if neg then !decide (c ∈ z.cps.toList) else decide (c ∈ z.cps.toList)))
  | _, _, _ => False
theorem opd_notSign : OpD Γ (fun x y H Q => ∃ (c : Nat) (z : Str), x = .str ⟨#[c]⟩ ∧ y = .str z ∧ Q (.bl (!decide (c ∈ z.cps.toList))) H) (pSign true) := fun f F H σ ρ x y u w Q R E h1 h2 q o => by
  unfold pSign at q
  split at q
  · obtain ⟨c, rfl, q⟩ := q
    cases h1; cases h2
    exact ⟨c, _, rfl, rfl, o _ _ F H q E (Same.refl _) (.bl _)⟩
  · exact q.elim
theorem y_sign {neg : Bool} {y z : Str} {Q : PyData → Prop} : pSign neg (.str y) (.str z) Q ↔ ∃ c, y = ⟨#[c]⟩ ∧ Q (.bool (if neg then !decide (c ∈ z.cps.toList) else decide (c ∈ z.cps.toList))) := Iff.rfl
/-! a text some times -/
def repS (z : Str) (n : Int) : Str := if n < 1 then Str.empty else if (n == 1 || z.length == 0) = true then z else ⟨(List.replicate n.toNat z.cps).foldl (· ++ ·) #[]⟩
def rRepT : R2 := fun x y H Q => ∃ (z : Str) (n : Int), x = .str z ∧ y = .int n ∧ 0 ≤ n ∧ n ≤ 1000 ∧ z.length ≤ 1000 ∧ Q (.str (repS z n)) H
theorem op_repT : OpR X (binaryOp .Mult) rRepT := by
  intro pins s σ H x y v u Q I rx ry h
  obtain ⟨z, n, rfl, rfl, n0, n1, zl, q⟩ := h
  obtain ⟨t, rfl⟩ := rx
  obtain ⟨t', rfl⟩ := ry
  have bz : ∀ m : Nat, m ≤ 1000 → z.length * m ≤ 1000000 := fun m hm => Nat.mul_le_mul zl hm
  refine PySem.P.mul_str ?_ (fun h1 h2 => ?_) (fun h1 h2 => ?_) ?_
  · rw [decide_eq_false (by omega), decide_eq_false (by omega)]; rfl
  · have hn : 0 < n := by omega
    have : (1000 : Int) ≤ (2 ^ 63 - 1) / n := (Int.le_ediv_iff_mul_le hn).mpr (by omega)
    omega
  · have := bz n.toNat (by omega)
    unfold Builtin.Str.tooLong
    simp only [sizeLine_eq, decide_eq_false_iff_not]
    omega
  · unfold repS at q
    by_cases h1 : n < 1
    · rw [if_pos h1] at q ⊢
      exact ⟨by decide, .str Str.empty, H, I.tok _, ⟨_, rfl⟩, q⟩
    · rw [if_neg h1] at q ⊢
      by_cases h2 : (n == 1 || z.length == 0) = true
      · rw [if_pos h2] at q ⊢
        exact ⟨.str z, H, I, ⟨t, rfl⟩, q⟩
      · rw [if_neg h2] at q ⊢
        refine ⟨?_, .str _, H, I.tok _, ⟨_, rfl⟩, q⟩
        show ((List.replicate n.toNat z.cps).foldl (· ++ ·) #[]).size ≤ sizeLine
        rw [rep_size, sizeLine_eq]
        have := bz n.toNat (by omega)
        have e : z.cps.size = z.length := rfl
        rw [e, Nat.mul_comm n.toNat]
        show 0 + _ ≤ _
        omega
def pRepT : P2
  | .str z, .int n, R => 0 ≤ n ∧ n ≤ 1000 ∧ z.length ≤ 1000 ∧ R (.str (repS z n))
  | _, _, _ => False
theorem opd_repT : OpD Γ rRepT pRepT := fun f F H σ ρ x y u w Q R E h1 h2 q o => by
  unfold pRepT at q
  split at q
  · cases h1; cases h2
    exact ⟨_, _, rfl, rfl, q.1, q.2.1, q.2.2.1, o _ _ F H q.2.2.2 E (Same.refl _) (.str _)⟩
  · exact q.elim
theorem y_repT {z : Str} {n : Int} {Q : PyData → Prop} : pRepT (.str z) (.int n) Q ↔ 0 ≤ n ∧ n ≤ 1000 ∧ z.length ≤ 1000 ∧ Q (.str (repS z n)) := Iff.rfl
end
end Cc

set_option Elab.async false
set_option linter.all false
set_option maxRecDepth 100000
set_option maxHeartbeats 4000000
/-! The pure layer: list(range(n)), a fresh list. -/
namespace Cc
open PySem PySem.Spec PyProof.Rows L2
theorem dqA_ints {K : PySem.W.Frag} {F : Hp} : ∀ ns : List Int, DqAll K F (ns.map V.int) (ns.map PyData.int)
  | [] => .nil
  | _ :: ns => .cons (.int _) (dqA_ints ns)
def lRng (a : EE) : LL := fun ρ R Xx => a ρ (fun x ρ1 => dI x fun n => (0 ≤ n ∧ n ≤ 16777216) ∧ R (((List.range n.toNat).map fun i => ((i : Nat) : Int)).map PyData.int) ρ1) Xx
section
variable {Γ : Gx} {X : Cx} {W : WX} {e e1 : Expr} {a : EE}
theorem dl_rng (hpe : ∀ {ta : TE}, PE X e1 ta → PE X e (tLstRg (tRg1 ta))) {ta : TE} (h1 : DE Γ X W e1 ta a) : DL Γ X W e (tLstRg (tRg1 ta)) (lRng a) := by
  obtain ⟨p1, d1⟩ := h1
  refine ⟨hpe p1, fun f F H σ ρ Q R Xx E q o ox => ?_⟩
  refine d1 f F H σ ρ _ _ Xx E q (fun x ρ1 F1 H1 v1 q1 E1 s1 r1 => ?_) ox
  obtain ⟨n, rfl, ⟨n0, n1⟩, q1'⟩ := dI_of q1
  cases r1
  refine ⟨n, rfl, RgOk.of_le (Int.le_refl _) n1 (by omega) n0, fun l nl => ?_⟩
  have e : rgV 0 n = ((List.range n.toNat).map fun i => ((i : Nat) : Int)).map V.int := by
    unfold rgV
    rw [Int.sub_zero, List.map_map]
    exact List.map_congr_left fun i _ => by show V.int (0 + (i : Int)) = V.int i; rw [Int.zero_add]
  rw [e]
  exact o _ _ _ _ _ _ q1' (E1.raw nl) s1 (own_new E1 (dqA_ints _) nl)
theorem y_lRng {ρ : List Sl} {R : List PyData → List Sl → Prop} {Xx : XX} : lRng a ρ R Xx ↔ a ρ (fun x ρ1 => dI x fun n => (0 ≤ n ∧ n ≤ 16777216) ∧ R (((List.range n.toNat).map fun i => ((i : Nat) : Int)).map PyData.int) ρ1) Xx := Iff.rfl
end
end Cc

set_option Elab.async false
set_option linter.all false
set_option maxRecDepth 100000
set_option maxHeartbeats 4000000
/-! The pure layer: isinstance of data, the class a built-in type. -/
namespace Cc
open PySem PySem.Spec PyProof.Rows L2
def tyD : PyData → String
  | .none => "NoneType"
  | .bool _ => "bool"
  | .int _ => "int"
  | .str _ => "str"
  | .list _ => "list"
  | .tuple _ => "tuple"
  | .dict _ => "dict"
/-- the built-in types asked for here -/
inductive Ty5 : String → Prop
  | list : Ty5 "list"
  | tuple : Ty5 "tuple"
  | int : Ty5 "int"
  | bool : Ty5 "bool"
  | str : Ty5 "str"
def subT (t u : String) : Bool := t == u || (t == "bool" && u == "int")
theorem kit_built {K : PySem.W.Frag} {t u : String} {b : Bool} (h : ((Value.type t == Value.type u) = true → b = true)) (hm : PySem.W.kitMeta u = true) (hs : (fastBuiltinMro t).map (·.contains (Value.type u)) = some b) : PySem.W.kitOne K (.type t) (.type u) = some b := by
  unfold PySem.W.kitOne
  by_cases e : (Value.type t == Value.type u) = true
  · rw [if_pos e, h e]
  · rw [if_neg e]
    show (if PySem.W.kitMeta u = true then PySem.W.subIn K (.type t) (.type u) else none) = _
    rw [if_pos hm]
    exact hs
theorem kit_data {K : PySem.W.Frag} {d : PyData} {u : String} (hu : Ty5 u) (nd : ∀ x, d ≠ .dict x) : PySem.W.kitOne K (.type (tyD d)) (.type u) = some (subT (tyD d) u) := by
  cases d with
  | dict x => exact absurd rfl (nd x)
  | _ => dsimp only [tyD]; cases hu <;> exact kit_built (by decide +kernel) (by decide +kernel) (by decide +kernel)
section
variable {Γ : Gx} {X : Cx} {W : WX} {e e1 e2 : Expr} {a : EE}
theorem dq_ty {K : PySem.W.Frag} {F H : Hp} {v : V} {d : PyData} (s : Same F H) (h : Dq K F v d) : TyX K H v (.type (tyD d)) ∧ ∀ x, d ≠ .dict x := by
  cases h with
  | non => exact ⟨.base .non, fun _ h => (nomatch h)⟩
  | bl b => exact ⟨.base (.bl b), fun _ h => (nomatch h)⟩
  | int i => exact ⟨.base (.int i), fun _ h => (nomatch h)⟩
  | str x => exact ⟨.base (.str x), fun _ h => (nomatch h)⟩
  | lst hs ha => exact ⟨.base (.lst (s _ _ hs)), fun _ h => (nomatch h)⟩
  | tup hs ha =>
    refine ⟨?_, fun _ h => (nomatch h)⟩
    rcases hs with (h | ⟨u, h⟩) | ⟨o, its, n, h1, h2, _⟩
    · exact .base (.tup (s _ _ h))
    · exact .fTuple (s _ _ h)
    · exact .kTuple h1 h2
def eIsi (u : String) (a : EE) : EE := fun ρ R Xx => a ρ (fun x ρ1 => dD x fun d => R (.d (.bool (subT (tyD d) u))) ρ1) Xx
theorem de_isi {u : String} (hu : Ty5 u) (hpe : ∀ {ta : TE}, PE X e1 ta → PE X e (tCB (rIsi Γ.K) (tCons ta (tCons (tC (.ty u)) tNil)))) {ta : TE} (h1 : DE Γ X W e1 ta a) : DE Γ X W e (tCB (rIsi Γ.K) (tCons ta (tCons (tC (.ty u)) tNil))) (eIsi u a) := by
  obtain ⟨p1, d1⟩ := h1
  refine ⟨hpe p1, fun f F H σ ρ Q R Xx E q o ox => ?_⟩
  refine d1 f F H σ ρ _ _ Xx E q (fun x ρ1 F1 H1 v1 q1 E1 s1 r1 => ?_) ox
  obtain ⟨d, rfl, q1'⟩ := dD_of q1
  obtain ⟨ty, nd⟩ := dq_ty E1.s1 r1
  exact ⟨v1, .ty u, _, .type u, _, rfl, .ty u, ty, kit_data hu nd, o _ _ _ _ _ q1' E1 s1 (.bl _)⟩
theorem y_isi {u : String} {ρ : List Sl} {R : Cc.A → List Sl → Prop} {Xx : XX} : eIsi u a ρ R Xx ↔ a ρ (fun x ρ1 => dD x fun d => R (.d (.bool (subT (tyD d) u))) ρ1) Xx := Iff.rfl
end
end Cc

set_option Elab.async false
set_option linter.all false
set_option maxRecDepth 100000
set_option maxHeartbeats 4000000
/-! The pure layer: three names at once, own lists among them. -/
namespace Cc
open PySem PySem.Spec PyProof.Rows L2
/-- a frame that keeps one more object -/
def Fr.keep (f : Fr) (p : Addr) (o : HO) : Fr := { f with H0 := upd f.H0 p o }
section
variable {Γ : Gx} {f : Fr} {F H F' H' : Hp} {σ σ' : L2.St} {ρ ρ' : List Sl} {p : Addr} {o : HO} {xs : List V} {ds : List PyData}
theorem Ent.keep (E : Ent Γ f F H σ ρ) (w : Own1 Γ f F H σ ρ p xs ds) : Ent Γ (f.keep p (.lst xs)) F H σ ρ := by
  have hF := w.hF
  have hH := w.hH
  refine ⟨E.s0, E.s1, fun b u e => ?_, fun b u e m => ?_, fun b e => ?_, E.len, fun i s hi => ?_, E.dis, E.rm, E.rF, E.rl, E.ro, fun b m => ?_, E.cl⟩
  · rcases E.new b u e with h | h | h
    · exact .inl h
    · refine .inr (.inl ?_)
      have hne : b ≠ p := fun z => by rw [z, hF] at e; cases e
      show upd f.H0 p _ b = none
      rw [upd_ne hne]
      exact h
    · exact .inr (.inr h)
  · have e : upd f.H0 p (.lst xs) b = some u := e
    by_cases hb : b = p
    · rw [hb, upd_same] at e
      rw [hb, ← e]
      exact hH
    · rw [upd_ne hb] at e
      exact E.chg b u e m
  · have hne : b ≠ p := fun z => by rw [z, hH] at e; cases e
    show upd f.H0 p _ b = none
    rw [upd_ne hne]
    exact E.liv b e
  · have h := E.sl i s hi
    cases s with
    | un => exact trivial
    | a x => exact h
    | rng n => exact h
    | own es =>
      obtain ⟨a, ys, e1, e2, e3, e4, e5⟩ := h
      refine ⟨a, ys, e1, e2, e3, e4, ?_⟩
      rcases e5 with e5 | e5
      · have hne : a ≠ p := fun z => w.hO ⟨i, es, hi, by rw [← z]; exact e1⟩
        refine .inl ?_
        show upd f.H0 p _ a = none
        rw [upd_ne hne]
        exact e5
      · exact .inr e5
  · show upd f.H0 p _ b ≠ none
    by_cases hb : b = p
    · rw [hb, upd_same]
      exact fun z => nomatch z
    · rw [upd_ne hb]
      exact E.ml b m
theorem Ent.back (E : Ent Γ (f.keep p o) F' H' σ ρ') (h0 : f.H0 p = none) (hm : ∀ b, f.M b → f.H0 b ≠ none) (hF0 : f.F0 p = none) : Ent Γ f F' H' σ ρ' ∧ H' p = some o ∧ F' p = none ∧ ¬ OwnA σ ρ' p ∧ ¬ f.R p := by
  have nM : ¬ f.M p := fun m => hm p m h0
  have K : ∀ b, (f.keep p o).H0 b = none → f.H0 b = none := fun b h => by
    have h : upd f.H0 p o b = none := h
    by_cases hb : b = p
    · rw [hb]; exact h0
    · rw [upd_ne hb] at h; exact h
  have hp : (f.keep p o).H0 p = some o := upd_same
  refine ⟨⟨E.s0, E.s1, fun b u e => ?_, fun b u e m => ?_, fun b e => K b (E.liv b e), E.len, fun i s hi => ?_, E.dis, E.rm, E.rF, E.rl, E.ro, hm, E.cl⟩, E.chg p o hp nM, ?_, ?_, fun z => nM (E.rm p z)⟩
  · rcases E.new b u e with h | h | h
    · exact .inl h
    · exact .inr (.inl (K b h))
    · exact .inr (.inr h)
  · have hne : b ≠ p := fun z => by rw [z, h0] at e; cases e
    exact E.chg b u (by show upd f.H0 p o b = _; rw [upd_ne hne]; exact e) m
  · have h := E.sl i s hi
    cases s with
    | un => exact trivial
    | a x => exact h
    | rng n => exact h
    | own es =>
      obtain ⟨a, ys, e1, e2, e3, e4, e5⟩ := h
      refine ⟨a, ys, e1, e2, e3, e4, ?_⟩
      rcases e5 with e5 | e5
      · exact .inl (K a e5)
      · exact .inr e5
  · cases e : F' p with
    | none => rfl
    | some u =>
      rcases E.new p u e with h | h | h
      · have h : f.F0 p = some u := h
        rw [hF0] at h
        cases h
      · rw [hp] at h
        cases h
      · exact absurd h nM
  · rintro ⟨i, es, h1, h2⟩
    obtain ⟨a, ys, e1, e2, e3, e4, e5⟩ := E.sl i _ h1
    rw [h2] at e1
    cases e1
    rcases e5 with e5 | e5
    · rw [hp] at e5
      cases e5
    · exact nM e5
theorem Own1.f0 (E : Ent Γ f F H σ ρ) (w : Own1 Γ f F H σ ρ p xs ds) : f.F0 p = none := by
  cases e : f.F0 p with
  | none => rfl
  | some u => exact absurd w.hF (fun z => by rw [E.s0 _ _ e] at z; cases z)
theorem OutX.keep {W : WX} {Xx : XX} (ox : OutX Γ f W σ Xx) (h0 : f.H0 p = none) (hm : ∀ b, f.M b → f.H0 b ≠ none) (hF0 : f.F0 p = none) : OutX Γ (f.keep p o) W σ Xx := fun c d ρ' F' H' dx v hx E h1 h2 => ox c d ρ' F' H' dx v hx (E.back h0 hm hF0).1 h1 h2
end
section
variable {Γ : Gx} {X : Cx} {W : WX} {st : Stmt} {e1 e2 e3 : Expr} {a : EE} {l l' : LL} {i j k : Nat} {v : V} {d : PyData}
/-- two own lists and data -/
def sPar3a (i j k : Nat) (l l' : LL) (a : EE) : SS := fun ρ P => l ρ (fun ds ρ1 => l' ρ1 (fun es ρ2 => a ρ2 (fun x ρ3 => P.nx (((ρ3.set i (.own ds)).set j (.own es)).set k (.a x))) P.ex) P.ex) P.ex
theorem ds_par3a (hpe : ∀ {t u s : TE}, PE X e1 t → PE X e2 u → PE X e3 s → PS X st (tPar3 i j k (tCons t (tCons u (tCons s tNil))))) {t : TE} (h : DL Γ X W e1 t l) {u : TE} (h' : DL Γ X W e2 u l') {s : TE} (h'' : DE Γ X W e3 s a) :
    DS Γ X W st (tPar3 i j k (tCons t (tCons u (tCons s tNil)))) (sPar3a i j k l l' a) := by
  obtain ⟨p, dn⟩ := h
  obtain ⟨p', dn'⟩ := h'
  obtain ⟨p'', dn''⟩ := h''
  refine ⟨hpe p p' p'', fun f F H σ ρ P D E q o => ?_⟩
  refine dn f F H σ ρ _ _ P.ex E q (fun ds ρ1 F1 H1 b xs q1 E1 s1 w => ?_) (o.ex σ)
  have f0 := w.f0 E1
  have E1' := E1.keep w
  refine dn' _ F1 H1 σ ρ1 _ _ P.ex E1' q1 (fun es ρ2 F2 H2 b2 ys q2 E2 s2 w2 => ?_) ((o.ex σ).keep w.h0 E1.ml f0)
  have f02 := w2.f0 E2
  have E2' := E2.keep w2
  refine dn'' _ F2 H2 σ ρ2 _ _ P.ex E2' q2 (fun x ρ3 F3 H3 z q3 E3 s3 r3 => ?_) (((o.ex σ).keep w.h0 E1.ml f0).keep w2.h0 E2.ml f02)
  obtain ⟨E4, a1, a2, a3, a4⟩ := E3.back w2.h0 E2.ml f02
  obtain ⟨E5, b1, b2', b3, b4⟩ := E4.back w.h0 E1.ml f0
  have hne : b2 ≠ b := fun e => by
    have h : upd f.H0 b (.lst xs) b2 = none := w2.h0
    rw [e, upd_same] at h
    cases h
  have h02 : f.H0 b2 = none := by
    have h : upd f.H0 b (.lst xs) b2 = none := w2.h0
    rwa [upd_ne hne] at h
  have E6 := E5.setO (i := i) b1 (DqAll.same (s2.trans s3) ds w.hD) b2' (.inl w.h0) b3 b4
  have E7 := E6.setO (i := j) a1 (DqAll.same s3 es w2.hD) a2 (.inl h02) (fun ⟨n, fs, h1, h2⟩ => ?_) a4
  · exact ⟨_, _, _, rfl, o.nx _ _ _ _ q3 (E7.setA (i := k) r3) ((s1.trans s2).trans s3)⟩
  · by_cases hn : n = i
    · rw [hn] at h2
      rw [List.getElem?_set] at h2
      rw [if_pos rfl] at h2
      split at h2
      · cases h2
        exact hne rfl
      · cases h2
    · rw [List.getElem?_set_ne (fun z => hn z.symm)] at h1 h2
      exact a3 ⟨n, fs, h1, h2⟩
/-- an own list, a constant and data -/
def sPar3b (i j k : Nat) (l : LL) (d : PyData) (a : EE) : SS := fun ρ P => l ρ (fun ds ρ1 => a ρ1 (fun x ρ3 => P.nx (((ρ3.set i (.own ds)).set j (.a (.d d))).set k (.a x))) P.ex) P.ex
theorem ds_par3b (hv : ∀ F, Dq Γ.K F v d) (hpe : ∀ {t s : TE}, PE X e1 t → PE X e3 s → PS X st (tPar3 i j k (tCons t (tCons (tC v) (tCons s tNil))))) {t : TE} (h : DL Γ X W e1 t l) {s : TE} (h'' : DE Γ X W e3 s a) :
    DS Γ X W st (tPar3 i j k (tCons t (tCons (tC v) (tCons s tNil)))) (sPar3b i j k l d a) := by
  obtain ⟨p, dn⟩ := h
  obtain ⟨p'', dn''⟩ := h''
  refine ⟨hpe p p'', fun f F H σ ρ P D E q o => ?_⟩
  refine dn f F H σ ρ _ _ P.ex E q (fun ds ρ1 F1 H1 b xs q1 E1 s1 w => ?_) (o.ex σ)
  have f0 := w.f0 E1
  have E1' := E1.keep w
  refine dn'' _ F1 H1 σ ρ1 _ _ P.ex E1' q1 (fun x ρ3 F3 H3 z q3 E3 s3 r3 => ?_) ((o.ex σ).keep w.h0 E1.ml f0)
  obtain ⟨E5, b1, b2', b3, b4⟩ := E3.back w.h0 E1.ml f0
  have E6 := E5.setO (i := i) b1 (DqAll.same s3 ds w.hD) b2' (.inl w.h0) b3 b4
  exact ⟨_, _, _, rfl, o.nx _ _ _ _ q3 ((E6.setA (i := j) (x := .d d) (hv F3)).setA (i := k) r3) (s1.trans s3)⟩
theorem y_par3a {ρ : List Sl} {P : EndsP} : sPar3a i j k l l' a ρ P ↔ l ρ (fun ds ρ1 => l' ρ1 (fun es ρ2 => a ρ2 (fun x ρ3 => P.nx (((ρ3.set i (.own ds)).set j (.own es)).set k (.a x))) P.ex) P.ex) P.ex := Iff.rfl
theorem y_par3b {ρ : List Sl} {P : EndsP} : sPar3b i j k l d a ρ P ↔ l ρ (fun ds ρ1 => a ρ1 (fun x ρ3 => P.nx (((ρ3.set i (.own ds)).set j (.a (.d d))).set k (.a x))) P.ex) P.ex := Iff.rfl
end
end Cc

set_option Elab.async false
set_option linter.all false
set_option maxRecDepth 100000
set_option maxHeartbeats 4000000
/-! A generator's for: the loop's turns, with yields in its body. -/
namespace Cc
open PySem PySem.Spec PyProof.Rows
open Sem (wp)
section
variable {M : Model} {A : Around} {R : GenEnd} {Y : Protocol} {n : Nat} {s₀ : Shared} {c : Code} {fs : List Frame} {s : Shared} {env : Env}
  {K : Flow → Sem Fin} {H : Value → Sem Fin} {gd : Bool → Bool} {lv : List Value → List Value}
theorem seg_For {target iter : Expr} {body orelse : List Stmt} {pos : Pos}
    (h : wpAny M (A.over c fs) (eval iter env) (fun x s₁ => wpAny M (A.over c fs) (pyIter x) (fun it s₂ => ∀ p, Seg M A R Y n s₀ (.forLoop target it body orelse env) (M.den (.forLoop target it body orelse env))
      (.ret (fun r => ((match r with | .ok f => (.pure f : Sem Flow) | .error e => .raise e).onRaise fun (x : Value) => do
        if (← field x 1) == Value.none then unsupported "frame.own-activation:exception-without-traceback"
        setFlight x env.frame).wrap K H gd lv) none (gd false) (lv []) c p [] :: fs) s₂) (fun e s' => Seg M A R Y n s₀ c (H e) fs s') s₁) (fun e s' => Seg M A R Y n s₀ c (H e) fs s') s)
    (hs : ∀ x, foldedSetIterable iter env x = pure x) :
    Seg M A R Y n s₀ c ((exec (.For target iter body orelse pos) env).wrap K H gd lv) fs s := by
  rw [exec_For]
  rw [Sem.bind_eq_wrap', Sem.wrap_wrap]
  refine seg_wrap (wpAny_standAt ?_)
  rw [Sem.bind_eq_wrap', Sem.wrap_wrap]
  refine seg_wrap (wpAny_mono h (fun x s₁ h₁ => ?_) fun e s' he => he)
  rw [hs x, Sem.bind_eq_wrap', Sem.wrap_wrap]
  refine seg_wrap (wpAny_pure ?_)
  rw [Sem.bind_eq_wrap', Sem.wrap_wrap]
  refine seg_wrap (wpAny_standAt ?_)
  rw [Sem.bind_eq_wrap', Sem.wrap_wrap]
  refine seg_wrap (wpAny_holding (wpAny_mono h₁ (fun it s₂ h₂ => ?_) fun e s' he => he))
  exact seg_call h₂
end
section
variable {prog : Program} {w : World} {A : Around} {R : GenEnd} {Y : Protocol} {n : Nat} {s₀ : Shared} {fs : List Frame} {s : Shared} {env : Env}
theorem seg_forLoop {target : Expr} {it : Value} {body orelse : List Stmt} {EE : Value → Shared → Prop}
    (hE : ∀ x s', EE x s' → Seg (model prog w) A R Y n s₀ (.forLoop target it body orelse env) ((do noteFrame x env; theTreesLotGoes x : Sem Unit).wrap (fun _ => .raise x) .raise id id) fs s')
    (h : wpAny (model prog w) (A.over (.forLoop target it body orelse env) fs) (pyNext it) (fun r s₁ => match r with
      | none => Seg (model prog w) A R Y n s₀ (.forLoop target it body orelse env) (.pure (.again (.block orelse env))) fs s₁
      | some v => wpAny (model prog w) (A.over (.forLoop target it body orelse env) fs) (letOwnedTupleGo target it v) (fun _ s₁' => wpAny (model prog w) (A.over (.forLoop target it body orelse env) fs) (assign target env v) (fun _ s₂ =>
          Seg (model prog w) A R Y n s₀ (.forLoop target it body orelse env) ((execs body env).wrap (fun f => match f with
            | .next | .cont => .pure (.again (.forLoop target it body orelse env))
            | .brk => .pure (.done .next)
            | .ret v => .pure (.done (.ret v))) (fun e => (do noteFrame e env; theTreesLotGoes e : Sem Unit).wrap (fun _ => .raise e) .raise id id) id id) fs s₂) EE s₁') EE s₁) EE s) :
    Seg (model prog w) A R Y n s₀ (.forLoop target it body orelse env) ((model prog w).den (.forLoop target it body orelse env)) fs s := by
  show Seg _ A R Y n s₀ _ ((forTurn target it body orelse env).onRaise (fun x => do noteFrame x env; theTreesLotGoes x)) fs s
  have fin : ∀ x s', EE x s' → Seg (model prog w) A R Y n s₀ (.forLoop target it body orelse env) ((do noteFrame x env; theTreesLotGoes x : Sem Unit).bind fun _ => .raise x) fs s' := fun x s' hx => by
    have := hE x s' hx
    rw [← Sem.bind_eq_wrap] at this
    exact this
  unfold forTurn
  rw [Sem.onRaise_eq_wrap, Sem.bind_eq_wrap', Sem.wrap_wrap]
  refine seg_wrap (wpAny_standAt ?_)
  rw [Sem.bind_eq_wrap', Sem.wrap_wrap]
  refine seg_wrap (wpAny_onRaise (wpAny_mono h (fun r s₁ h₁ => ?_) fun x s' hx => wpAny_standAt ?_))
  · cases r with
    | none => exact h₁
    | some v =>
      show Seg _ A R Y n s₀ _ (Sem.wrap _ _ _ _ (letOwnedTupleGo target it v >>= _)) fs s₁
      rw [Sem.bind_eq_wrap', Sem.wrap_wrap]
      refine seg_wrap (wpAny_mono h₁ (fun _ s₁' h₁' => ?_) fun x s' hx => ?_)
      · rw [Sem.bind_eq_wrap', Sem.wrap_wrap]
        refine seg_wrap (wpAny_mono h₁' (fun _ s₂ h₂ => ?_) fun x s' hx => ?_)
        · rw [Sem.bind_eq_wrap', Sem.wrap_wrap]
          rw [Sem.wrap_congr (execs body env) _ _ (K' := fun f => match f with
            | .next | .cont => .pure (.again (.forLoop target it body orelse env))
            | .brk => .pure (.done .next)
            | .ret v => .pure (.done (.ret v))) (H' := (fun e => (do noteFrame e env; theTreesLotGoes e : Sem Unit).wrap (fun _ => .raise e) .raise id id))
            (fun f => by cases f <;> rfl)
            (fun e => by first | exact Sem.bind_eq_wrap _ _ | (show (do noteFrame e env; theTreesLotGoes e : Sem Unit).bind (fun _ => .raise e) = _; rw [Sem.bind_eq_wrap]))]
          exact h₂
        · exact fin _ _ hx
      · exact fin _ _ hx
  · exact fin _ _ hx
end

open L2
section
variable {X : Cx}
def tGFor (wi : TI) (g : TG) (tb : TGn) : TGn := fun D ys σ H => wi σ H fun J H1 => ∃ W : Nat → Nat → List V → L2.St → Hp → Prop, (∃ m, W 0 m ys σ H1) ∧ ∀ i m ys σ H, W i m ys σ H →
  (J.stop i H ∧ D.nx ys σ H) ∨ (J.go i H ∧ ∃ N : List V → L2.St → Hp → Prop, (∀ ys' σ' H', N ys' σ' H' → ∃ m', m' < m ∧ W (i + 1) m' ys' σ' H') ∧ ∀ x H', J.yld i H x H' → g x σ H' fun σ2 H2 => tb { D with nx := N, ct := N, bk := D.nx } ys σ2 H2)
theorem fpOk_pins {pins pins' : List (Addr × Obj)} {H : Hp} {b : Addr} (h : FpOk X pins H b) (e : ∀ p ∈ pins', ∃ q ∈ pins, q.1 = p.1) : FpOk X pins' H b := by
  obtain ⟨a1, a2, a3, a4, a5, a6⟩ := h
  refine ⟨a1, a2, a3, a4, a5, fun p hp => ?_⟩
  rcases List.mem_append.mp hp with hp | hp
  · exact a6 p (List.mem_append_left _ hp)
  · obtain ⟨q, hq, eq⟩ := e p hp
    rw [← eq]
    exact a6 q (List.mem_append_right _ hq)
theorem gs_for {tg iter : Expr} {body : List Stmt} {wi : TI} {g : TG} {tb : TGn} {pos : Pos} (hp : PassesOwn (model X.prog X.w) X.A X.env X.xe) (hc : X.calm = true) (hi : PI X tg iter wi) (hg : PG X tg g) (hb : GSs X body tb)
    (hs : ∀ x, foldedSetIterable iter X.env x = pure x := by intro _; rfl) : GS X (.For tg iter body [] pos) (tGFor wi g tb) := by
  refine ⟨fun A S ip R n ys s₀ c fs K J gd lv s σ H D gc hn k hI ht => ?_⟩
  obtain ⟨acc, cc, r, I⟩ := hI
  refine seg_For ?_ hs
  rw [gc.over]
  refine wpAny_mono (hi.run _ s σ H _ I ht) (fun v s1 h1 => wpAny_mono h1 (fun itv s2 h2 p => ?_) fun e s' hx => k.exc n s₀ e s' hx) fun e s' hx => k.exc n s₀ e s' hx
  obtain ⟨it, fp, tn, Jt, H2, e, I2, T, st2, f2, W, ⟨m0, w0⟩, turn⟩ := h2
  subst e
  have stat : ∀ {H' : Hp} {acc' : Array Value} {c' : Nat}, (∀ b ∈ fp, H' b = none) → ∀ b ∈ fp, FpOk X ((S, lstObj acc' c') :: ip) H' b := fun {H' acc' c'} hn b hb => by
    obtain ⟨_, q⟩ := f2 b hb
    refine fpOk_pins (pins := (S, lstObj acc cc) :: ip) ⟨hn b hb, q⟩ fun p hp => ?_
    rcases List.mem_cons.mp hp with rfl | hp
    · exact ⟨_, List.mem_cons_self .., rfl⟩
    · exact ⟨p, List.mem_cons_of_mem _ hp, rfl⟩
  have fpS : ∀ b ∈ fp, b ≠ S := fun b hb z => (f2 b hb).2.2.2.2.2 (S, lstObj acc cc) (List.mem_append_right _ (List.mem_cons_self ..)) z.symm
  have gl := fun (kk : Result → Sem PySem.Fin) => gc_loop (k := kk) (c' := .forLoop tg (.ref it) body [] X.env) (l := lv []) (kp := []) (p := p) gc rfl rfl
  have loop : ∀ (m i n : Nat) (ys : List V) (s₀ s : Shared) (σ : L2.St) (H : Hp), n + ys.length = sizeLine → W i m ys σ H → GI X S ip ys σ H s → tn i s.heap → (∀ b ∈ fp, H b = none) →
      Seg (model X.prog X.w) A R (GY X S) n s₀ (.forLoop tg (.ref it) body [] X.env) ((model X.prog X.w).den (.forLoop tg (.ref it) body [] X.env))
        (.ret (fun r => ((match r with | .ok f => (.pure f : Sem Flow) | .error e => .raise e).onRaise (cameBack X.env)).wrap K J gd lv) none (gd false) (lv []) c p [] :: fs) s := by
    intro m
    induction m using Nat.strongRecOn with
    | ind m ih =>
      intro i n ys s₀ s3 σ3 H3 hn w3 hI3 st3 fr3
      have ee : ∀ (n : Nat) (s₀ : Shared) (x : Value) (s' : Shared), X.xe x s' → Seg (model X.prog X.w) A R (GY X S) n s₀ (.forLoop tg (.ref it) body [] X.env)
          ((do noteFrame x X.env; theTreesLotGoes x : Sem Unit).wrap (fun _ => .raise x) .raise id id)
          (.ret (fun r => ((match r with | .ok f => (.pure f : Sem Flow) | .error e => .raise e).onRaise (cameBack X.env)).wrap K J gd lv) none (gd false) (lv []) c p [] :: fs) s' := fun n s₀ x s' hx => by
        refine seg_wrap ?_
        rw [(gl _).over]
        refine wpAny_bind (wpAny_mono (hp x s' hx) (fun _ s'' hcb => wpAny_theTreesLotGoes ?_) fun y s'' hcb => ?_)
        · exact seg_leaf (.error x) (seg_cameBack gc k hcb)
        · exact seg_leaf (.error y) (seg_cameBack gc k hcb)
      refine seg_forLoop (EE := X.xe) (fun x s' hx => ee n s₀ x s' hx) ?_
      rw [(gl _).over]
      obtain ⟨acc3, cc3, r3, I3⟩ := hI3
      rcases turn i m ys σ3 H3 w3 with ⟨stop, qn⟩ | ⟨go, N, hN, step⟩
      · refine wpAny_mono (T.done X rfl rfl rfl hc i _ s3 σ3 H3 X.xe I3 (stat fr3) st3 stop) (fun r s4 ⟨hr, I4⟩ => ?_) fun x s' hx => hx
        subst hr
        refine seg_again rfl ?_
        exact seg_leaf (.ok .next) (k.ok n ys s₀ s4 .next hn ⟨σ3, H3, ⟨acc3, cc3, r3, I4⟩, qn⟩)
      · refine wpAny_mono (T.item X rfl rfl rfl hc i _ s3 σ3 H3 X.xe I3 (stat fr3) st3 go) (fun r s4 ⟨u, hr, h4⟩ => ?_) fun x s' hx => hx
        subst hr
        refine wpAny_mono h4 (fun _ s5 ⟨x, H5, I5, r5, y5, st5, fr5⟩ => ?_) fun x s' hx => hx
        have I5' := I5.pinned (stat fr5) (T.obj _ _ st5)
        refine wpAny_mono (hg.run _ s5 σ3 H5 x u _ I5' r5 (step x H5 y5)) (fun _ s6 ⟨σ6, H6, I6, q6⟩ => ?_) fun x s' hx => hx
        have gl' : ∀ kk, GC X S (ip ++ pinsAt fp s5.heap) A (.forLoop tg (.ref it) body [] X.env) (.ret kk none (gd false) (lv []) c p [] :: fs) id := fun kk =>
          { gl kk with ip := fun q hq => (List.mem_append.mp hq).elim (gc.ip q) fun z => fpS _ (of_pinsAt z).1 }
        have again : ∀ {n' : Nat} {ys' : List V} {s₀' s7 : Shared} {σ7 : L2.St} {H7 : Hp}, n' + ys'.length = sizeLine → GI X S (ip ++ pinsAt fp s5.heap) ys' σ7 H7 s7 → N ys' σ7 H7 → Seg (model X.prog X.w) A R (GY X S) n' s₀' (.forLoop tg (.ref it) body [] X.env) (.pure (.again (.forLoop tg (.ref it) body [] X.env)))
            (.ret (fun r => ((match r with | .ok f => (.pure f : Sem Flow) | .error e => .raise e).onRaise (cameBack X.env)).wrap K J gd lv) none (gd false) (lv []) c p [] :: fs) s7 := fun {n' ys' s₀' s7 σ7 H7} hn' hI7 n7 => by
          obtain ⟨acc7, cc7, r7, I7⟩ := hI7
          obtain ⟨m', hm, w7⟩ := hN ys' σ7 H7 n7
          have I7u : Inv X ((S, lstObj acc7 cc7) :: ip) σ7 H7 s7 := I7.unpinned (pins := (S, lstObj acc7 cc7) :: ip)
          have at7 : ∀ b ∈ fp, ∀ o, s5.heap.get? b = some o → (b, o) ∈ X.pn ++ ((S, lstObj acc7 cc7) :: (ip ++ pinsAt fp s5.heap)) := fun b hb o e => List.mem_append_right _ (List.mem_cons_of_mem _ (List.mem_append_right _ (mem_pinsAt hb e)))
          refine seg_again rfl (ih m' hm (i + 1) n' ys' s₀' s7 σ7 H7 hn' w7 ⟨acc7, cc7, r7, I7u⟩ (T.keep _ _ _ st5 fun b hb o e => (I7.pin (b, o) (at7 b hb o e)).1) fun b hb => ?_)
          obtain ⟨o, e, d⟩ := T.obj _ _ st5 b hb
          exact (I7.pin (b, o) (at7 b hb o e)).2.1
        have back : ∀ {ys' : List V} {σ7 : L2.St} {H7 : Hp} {s7 : Shared}, GI X S (ip ++ pinsAt fp s5.heap) ys' σ7 H7 s7 → GI X S ip ys' σ7 H7 s7 := fun {ys' σ7 H7 s7} h => by
          obtain ⟨acc7, cc7, r7, I7⟩ := h
          exact ⟨acc7, cc7, r7, I7.unpinned (pins := (S, lstObj acc7 cc7) :: ip)⟩
        refine hb.run A S (ip ++ pinsAt fp s5.heap) R n ys s₀ _ _ _ _ id id s6 σ6 H6 { D with nx := N, ct := N, bk := D.nx } (gl' _) hn ⟨fun n' ys' s₀' s7 f hn' q7 => ?_, fun n' s₀' x s7 hx => ee n' s₀' x s7 hx⟩ ⟨acc3, cc3, r3, I6⟩ q6
        cases f with
        | next => obtain ⟨σ7, H7, I7, n7⟩ := q7; exact again hn' I7 n7
        | cont => obtain ⟨σ7, H7, I7, n7⟩ := q7; exact again hn' I7 n7
        | brk => obtain ⟨σ7, H7, I7, n7⟩ := q7; exact seg_leaf (.ok .next) (k.ok n' ys' s₀' s7 .next hn' ⟨σ7, H7, back I7, n7⟩)
        | ret v => obtain ⟨x7, σ7, H7, I7, r7, n7⟩ := q7; exact seg_leaf (.ok (.ret v)) (k.ok n' ys' s₀' s7 (.ret v) hn' ⟨x7, σ7, H7, back I7, r7, n7⟩)
  exact loop m0 0 n ys s₀ s2 σ H2 hn w0 ⟨acc, cc, r, I2⟩ st2 fun b hb => (f2 b hb).1
end
end Cc

set_option Elab.async false
set_option linter.all false
set_option maxRecDepth 100000
set_option maxHeartbeats 4000000
/-! Promises that hold whatever repr is under way (for a generator's body), a generator def's promise, list(g). -/
namespace Cc
open PySem PySem.Spec PyProof.Rows L2
def PrN (P : Program) (w : World) (K : PySem.W.Frag) (mg : Str → Option Value) (base : Heap) (CX : CXT) (k : Nat) (x : Str) (ps : List Str) (sp : Sp) : Prop :=
  ∃ f fd, FnOk P w K mg base CX k f fd ps sp ∧ mg x = some (.ref f) ∧ PySem.W.keepIn K (.ref f) = true ∧ Binds K fd ps []
section
variable {P : Program} {w : World} {K : PySem.W.Frag} {mg : Str → Option Value} {base : Heap} {k : Nat} {x : Str} {st : Stmt} {N ps : List Str} {sp : Sp}
theorem PrN.pr {CX : CXT} (h : PrN P w K mg base CX k x ps sp) : Pr P w K mg base CX k x ps sp := by
  obtain ⟨f, fd, F, a⟩ := h
  exact ⟨f, fd, FnG.of F, a⟩
theorem mkN (T : Tx K mg x st) (S : FnScope N ps (defScope st))
    (bi : ∀ (kV doc pm : Value) (an : Option Addr) (cdv ct : Value) (us : List Value), us.length = ps.length → bindArgs (PySem.W.fnOf x x (defArgs st) (defBody st) (defScope st) .none kV doc pm an cdv ct) ⟨us, []⟩ = pure (ps.zip us))
    (len : ∀ vs H Q E, sp vs H Q E → vs.length = ps.length)
    (hbody : ∀ (f : Addr) (cdv : Value) (A : Around) (outer : List Env) (s : Shared) (H : Hp) (vs : List V) (Q : VK) (E : XK), True → Room k (A.deeper (envOfC x (defScope st) s.heap.objs.size f cdv)) → sp vs H Q E →
      ∃ t, PSs (cxOf CX0 P w K mg base N x (defScope st) f cdv A outer s H E).nox (defBody st) t ∧ t { nx := fun _ H' => Q .non H', rt := Q } (start N vs) H) :
    PrN P w K mg base CX0 (k + 1) x ps sp := by
  obtain ⟨f, fd, F, g⟩ := T
  obtain ⟨oc, od, kV, doc, pm, an, cdv, ct, osl, e, lk, hcd⟩ := F.ex
  refine ⟨f, fd, ?_, g, F.kp, F.binds bi⟩
  subst e
  refine fn_of lk hcd S len fun A outer s H vs Q E hr h => ?_
  obtain ⟨t, ht, q⟩ := hbody f cdv A outer s H vs Q E trivial hr h
  exact ⟨t, ht.nox, q⟩
end
section
variable {X : Cx} {j k : Nat} {ps : List Str} {sp : Sp} {x : Str} {p pos : Pos} {e : Expr} {es : List Expr} {t : TA}
theorem pe_N {g : Prop} (h : PrN X.prog X.w X.K X.mg X.base CX0 j x ps sp) (hr : Room k X.A) (hG : g) (hg : Gl X x) (ha : PA X (e :: es) t) (hj : j ≤ k := by decide)
    (hdb : (x == ("__debug__" : Str)) = false := by decide) (he : starEach (e :: es) X.env = (false, eval e X.env) :: starEach es X.env := by rfl) (hpl : (backTo pos (starEach es X.env)).any (·.1) = false := by rfl) :
    PE X (.Call (.Name x p) (e :: es) [] pos) (tCall sp [] E0 t) := by
  obtain ⟨f, fd, F, g, kp, b⟩ := h
  exact pe_call (F.mono hj) hr hg g kp b .nil pass0 ha hdb he hpl
end
/-- what a generator def of this name keeps -/
def PrG (P : Program) (w : World) (K : PySem.W.Frag) (mg : Str → Option Value) (base : Heap) (k : Nat) (x : Str) (st : Stmt) (ps : List Str) (sp : SpG) : Prop :=
  ∃ f fd, Fun K x x st f fd ∧ GFn P w K mg base k f fd ps sp ∧ mg x = some (.ref f)
section
variable {P : Program} {w : World} {K : PySem.W.Frag} {mg : Str → Option Value} {base : Heap} {k : Nat} {x : Str} {st : Stmt} {N ps : List Str} {sp : SpG}
theorem mkG (T : Tx K mg x st) (S : GScope N ps (defScope st)) (len : ∀ vs H Q E, sp vs H Q E → vs.length = ps.length)
    (hbody : ∀ (f : Addr) (cdv : Value) (A : Around) (outer : List Env) (s : Shared) (H : Hp) (vs : List V) (Q : List V → Hp → Prop) (E : XK) (pn : List (Addr × Obj)), Room k (A.deeper (envOfC x (defScope st) s.heap.objs.size f cdv)) → sp vs H Q E →
      ∃ t, GSs (gcxOf P w K mg base N x (defScope st) f cdv A outer s H E pn) (defBody st) t ∧ t { nx := fun ys _ H' => Q ys H', rt := fun ys v H' => v = .non ∧ Q ys H' } [] (start N vs) H) :
    PrG P w K mg base (k + 1) x st ps sp := by
  obtain ⟨f, fd, F, g⟩ := T
  obtain ⟨oc, od, kV, doc, pm, an, cdv, ct, osl, e, lk, hcd⟩ := F.ex
  refine ⟨f, fd, F, ?_, g⟩
  subst e
  exact gfn_of lk hcd S len fun A outer s H vs Q E pn hr h => hbody f cdv A outer s H vs Q E pn hr h
end
section
variable {X : Cx} {j k : Nat} {ps : List Str} {sp : SpG} {x : Str} {st : Stmt} {p pos : Pos} {e : Expr} {es : List Expr} {t : TA}
theorem pg_call {E : XK} (h : PrG X.prog X.w X.K X.mg X.base j x st ps sp) (hr : Room k X.A) (hg : Gl X x)
    (bi : ∀ (kV doc pm : Value) (an : Option Addr) (cdv ct : Value) (us : List Value), us.length = ps.length → bindArgs (PySem.W.fnOf x x (defArgs st) (defBody st) (defScope st) .none kV doc pm an cdv ct) ⟨us, []⟩ = pure (ps.zip us))
    (ha : PA X (e :: es) t) (hj : j ≤ k := by decide) (hdb : (x == ("__debug__" : Str)) = false := by decide) (he : starEach (e :: es) X.env = (false, eval e X.env) :: starEach es X.env := by rfl) (hpl : (backTo pos (starEach es X.env)).any (·.1) = false := by rfl) :
    PGen X j (.Call (.Name x p) (e :: es) [] pos) (tCallG sp [] E t) E := by
  obtain ⟨f, fd, F, G, g⟩ := h
  exact pgen_call G (hr.mono hj) hg g F.kp (F.binds bi) .nil ha hdb he hpl
def tCallKG (sp : SpG) (gV : List V → List V) (E : XK) (t : TA) : TGen := fun σ H cont => t σ H fun vs H1 => sp (gV vs) H1 cont E
theorem pg_callK {E : XK} {ks : List Str} {kws : List Keyword} {g : List Value → List Value} {gV : List V → List V} (h : PrG X.prog X.w X.K X.mg X.base j x st ps sp) (hr : Room k X.A) (hg : Gl X x)
    (hb : ∀ (kV doc pm : Value) (an : Option Addr) (cdv ct : Value) (us : List Value), (g us).length = ps.length → bindArgs (PySem.W.fnOf x x (defArgs st) (defBody st) (defScope st) .none kV doc pm an cdv ct) ⟨[], ks.zip us⟩ = pure (ps.zip (g us)))
    (hrel : ∀ {vs : List V} {us : List Value}, Vals vs us → Vals (gV vs) (g us)) (hkw : PK X kws t) (hj : j ≤ k := by decide)
    (hall : (backToKw pos (keywordEach kws X.env)).all (·.1.isSome) = true := by rfl) (hks : (backToKw pos (keywordEach kws X.env)).filterMap (·.1) = ks := by rfl) (hdb : (x == ("__debug__" : Str)) = false := by decide)
    (hpl : ((backTo pos (starEach [] X.env)).any (·.1) || (backToKw pos (keywordEach kws X.env)).any (·.1.isNone)) = false := by rfl) :
    PGen X j (.Call (.Name x p) [] kws pos) (tCallKG sp gV E t) E := by
  obtain ⟨f, fd, F, G, m⟩ := h
  obtain ⟨oc, od, kV, doc, pm, an, cdv, ct, osl, rfl, lk, hcd⟩ := F.ex
  refine ⟨fun pins s σ H cont I h => wpAny_Call_Name_kw (ld_glob I hg m ?_ hdb)⟩
  refine PySem.W.callWith_KW0 (h₀ := X.base) I.ok.mod.kin F.kp hall ?_ hpl
  refine thn (hkw.run pos pins s σ H _ I h) fun us s1 ⟨vs, H1, I1, r, q⟩ => ⟨I1.kIn, ?_⟩
  rw [hks]
  have r2 := hrel r
  have hl : (g us).length = ps.length := r2.length.symm.trans (G.len _ _ _ _ q)
  refine wpAny_call (codeAny_mono (G.run X.A X.stack s1 H1 ⟨[], ks.zip us⟩ (g us) (gV vs) cont E (hr.mono hj) I1.env0 (.of_eq (hb _ _ _ _ _ _ us hl)) r2 q) fun r s' z => ?_)
  match r, z with
  | .error _, z => exact z.elim
  | .ok (.ret u), z => exact ⟨H1, s1, [], I1, .nil, z⟩
  | .ok .next, z => exact z.elim
  | .ok .brk, z => exact z.elim
  | .ok .cont, z => exact z.elim
/-- list(g), g raising nothing -/
theorem pe_list0 {tg : TGen} {nm : Str} (h : PGen X j e tg E0) (hr : Room k X.A) (hg : Gl X nm) (hmg : X.mg nm = none) (hv : bootBuiltins nm = some (.type "list")) (hj : j + 3 ≤ k := by decide) (hnm : nm ≠ "__name__" := by decide) (hdb : (nm == ("__debug__" : Str)) = false := by decide)
    (he : starEach [e] X.env = (false, eval e X.env) :: starEach [] X.env := by rfl) : PE X (.Call (.Name nm p) [e] [] pos) (tListG tg) :=
  pe_listG h (fun pins σ H s e s' I c => by obtain ⟨_, _, _, _, _, _, _, _, _, _, _, _, z⟩ := c; exact z.elim) (fun _ _ _ z => z.elim) (hr.mono hj) hg hmg hv hnm hdb he
end
section
variable {D : GEnds} {ys : List V} {σ : L2.St} {H : Hp}
theorem x_gThen {t u : TGn} : tGThen t u D ys σ H ↔ t { D with nx := fun ys' σ' H' => u D ys' σ' H' } ys σ H := Iff.rfl
theorem x_gPlain {t : TS} : tPlain t D ys σ H ↔ t (D.at ys) σ H := Iff.rfl
theorem x_g0 : tG0 D ys σ H ↔ D.nx ys σ H := Iff.rfl
theorem x_gYield {te : TE} : tGYield te D ys σ H ↔ ys.length < sizeLine ∧ te σ H fun x H1 => D.nx (ys ++ [x]) σ H1 := Iff.rfl
theorem x_gFor {wi : TI} {g : TG} {tb : TGn} : tGFor wi g tb D ys σ H ↔ wi σ H fun J H1 => ∃ W : Nat → Nat → List V → L2.St → Hp → Prop, (∃ m, W 0 m ys σ H1) ∧ ∀ i m ys σ H, W i m ys σ H →
  (J.stop i H ∧ D.nx ys σ H) ∨ (J.go i H ∧ ∃ N : List V → L2.St → Hp → Prop, (∀ ys' σ' H', N ys' σ' H' → ∃ m', m' < m ∧ W (i + 1) m' ys' σ' H') ∧ ∀ x H', J.yld i H x H' → g x σ H' fun σ2 H2 => tb { D with nx := N, ct := N, bk := D.nx } ys σ2 H2) := Iff.rfl
/-- over a list that the body leaves as it is -/
theorem gfor_list {K : PySem.W.Frag} {a : Addr} {xs : List V} {g : TG} {tb : TGn} (Pv : Nat → List V → L2.St → Hp → Prop) (h0 : Pv 0 ys σ H) (hl : ∀ i ys σ H, i ≤ xs.length → Pv i ys σ H → SqL K H a xs)
    (hs : ∀ i x ys σ H, xs[i]? = some x → Pv i ys σ H → g x σ H fun σ2 H2 => tb { D with nx := Pv (i + 1), ct := Pv (i + 1), bk := D.nx } ys σ2 H2) (hd : ∀ ys σ H, Pv xs.length ys σ H → D.nx ys σ H) :
    ∃ W : Nat → Nat → List V → L2.St → Hp → Prop, (∃ m, W 0 m ys σ H) ∧ ∀ i m ys σ H, W i m ys σ H →
      ((Itl K a).stop i H ∧ D.nx ys σ H) ∨ ((Itl K a).go i H ∧ ∃ N : List V → L2.St → Hp → Prop, (∀ ys' σ' H', N ys' σ' H' → ∃ m', m' < m ∧ W (i + 1) m' ys' σ' H') ∧ ∀ x H', (Itl K a).yld i H x H' → g x σ H' fun σ2 H2 => tb { D with nx := N, ct := N, bk := D.nx } ys σ2 H2) := by
  refine ⟨fun i m ys σ H => m = xs.length - i ∧ i ≤ xs.length ∧ Pv i ys σ H, ⟨xs.length, by simp, Nat.zero_le _, h0⟩, ?_⟩
  rintro i m ys σ H ⟨rfl, hi, p⟩
  have q := hl i ys σ H hi p
  by_cases hlt : i < xs.length
  · refine .inr ⟨⟨xs, xs[i], q, by simp [hlt]⟩, Pv (i + 1), fun ys' σ' H' p' => ⟨xs.length - (i + 1), by omega, rfl, hlt, p'⟩, fun x H' y => ?_⟩
    obtain ⟨e, y⟩ := y
    subst e
    exact hs i x ys σ _ (y xs q) p
  · have e : i = xs.length := by omega
    subst e
    exact .inl ⟨⟨xs, q, Nat.le_refl _⟩, hd ys σ H p⟩
end
end Cc

set_option Elab.async false
set_option linter.all false
set_option maxRecDepth 100000
set_option maxHeartbeats 4000000
/-! A def called in an except suite whose exception is tracked; the def raises nothing. -/
namespace Cc
open PySem PySem.Spec PyProof.Rows L2
/-- no exception is handled there -/
abbrev quiet (A : Around) : Around := { A with handled := none }
theorem quiet_back {A : Around} {env : Env} {a : Addr} (h : A.handled = some (.ref a)) : ((quiet A).deeper env).mark (some (.ref a)) = A.deeper env := by
  cases A
  cases h
  rfl
/-- what a def keeps where the exception at a is handled -/
structure FnS (P : Program) (w : World) (K : PySem.W.Frag) (mg : Str → Option Value) (base : Heap) (k : Nat) (f : Addr) (fd : FuncData) (ps : List Str) (sp : Sp) : Prop where
  long : ∀ vs H Q E, sp vs H Q E → vs.length = ps.length
  goes : ∀ (A : Around) (a : Addr), A.handled = some (.ref a) → Room k (quiet A) → ∀ (outer : List Env) (s : Shared) (H : Hp), Env0 P w K mg base A outer s H → ∀ (args : Args) (us : List Value) (vs : List V) (Q : VK),
    BindsTo s fd args (ps.zip us) → Vals vs us → sp vs H Q (fun _ _ _ => False) → codeAny (model P w) A (.call (.ref f) args) (CR CX0 outer P w H s Q fun _ _ _ => False) s
def PrS (P : Program) (w : World) (K : PySem.W.Frag) (mg : Str → Option Value) (base : Heap) (k : Nat) (x : Str) (ps : List Str) (sp : Sp) : Prop :=
  ∃ f fd, FnS P w K mg base k f fd ps sp ∧ mg x = some (.ref f) ∧ PySem.W.keepIn K (.ref f) = true ∧ Binds K fd ps []
section
variable {P : Program} {w : World} {K : PySem.W.Frag} {mg : Str → Option Value} {base : Heap} {k : Nat} {f : Addr} {fd : FuncData} {N ps : List Str} {sp : Sp}
theorem env_quiet {A : Around} {outer : List Env} {s : Shared} {H : Hp} (e : Env0 P w K mg base A outer s H) : Env0 P w K mg base (quiet A) outer s H :=
  ⟨e.frames, e.mod, e.bs, e.bsz, e.funs, e.frf, e.hok, e.bare⟩
theorem defS {x qual : Str} {st : Stmt} (F : Fun K x qual st f fd) (S : FnScope N ps (defScope st)) (len : ∀ vs H Q E, sp vs H Q E → vs.length = ps.length)
    (hbody : ∀ (cdv : Value) (A : Around) (outer : List Env) (s : Shared) (H : Hp) (vs : List V) (Q : VK) (a : Addr), sp vs H Q (fun _ _ _ => False) →
      ∃ t, PSs ((cxOf CX0 P w K mg base N qual (defScope st) f cdv A outer s H fun _ _ _ => False).suite a []) (defBody st) t ∧ t { nx := fun _ H' => Q .non H', rt := Q } (start N vs) H) :
    FnS P w K mg base (k + 1) f fd ps sp := by
  obtain ⟨oc, od, kV, doc, pm, an, cdv, ct, osl, rfl, lk, hcd⟩ := F.ex
  refine ⟨len, fun A a ha hr outer s H e1 args us vs Q hb rv hs => ?_⟩
  have e0 := env_quiet e1
  have hl := len _ _ _ _ hs
  have inK : K.In s.heap := e0.mod.kin.keeps fun b o e => (e0.bs b o e).1
  have hdp : A.depth < recursionLimit := hr.depth
  refine codeAny_call_function hdp (inK _ _ lk) rfl S.co S.gen rfl (PySem.W.codeRec_of inK hcd) (hb _ _ _ _ ?_)
  have kinds : ∀ y ∈ ps.zip us, (defScope st).names.lookup y.1 = some .local ∨ ((defScope st).names.lookup y.1 = some .cell ∧ ((cellsFrom (s.heap.objs.size + 1) (defScope st).names []).lookup y.1).isSome = true) := by
    intro y hy
    obtain ⟨n, v⟩ := y
    cases S.par n (List.of_mem_zip hy).1 with
    | inl q => exact .inl q
    | inr q => exact .inr ⟨q, PySem.W.cellsFrom_some _ _ _ (.inl q)⟩
  refine wpAny_newFunctionEnv_cells S.kind kinds fun env he s1 x => ?_
  cases he
  have lim : s.heap.NoLimit := e0.mod.nolimit.keeps fun b o e => (e0.bs b o e).1
  refine ⟨lim.keeps x.toInCall.keep, codeAny_func ?_⟩
  obtain ⟨t, ht, hq⟩ := hbody cdv (quiet A) outer s H vs Q a hs
  have J : Inv (cxOf CX0 P w K mg base N qual (defScope st) f cdv (quiet A) outer s H fun _ _ _ => False) [] (start N vs) H s1 := inv_start S rfl e0 hl rv x
  have run := ht.run [] s1 (start N vs) H _ (inSuite a J) hq
  rw [show ((cxOf CX0 P w K mg base N qual (defScope st) f cdv (quiet A) outer s H fun _ _ _ => False).suite a []).A = A.deeper (envOfC qual (defScope st) s.heap.objs.size f cdv) from quiet_back ha] at run
  refine wpAny_mono run (fun fl s' hs => ?_) fun _ _ h => h.elim
  cases fl with
  | next =>
    obtain ⟨σ', H', J, q⟩ := hs
    exact ce_of (v := V.non) (u := Value.none) J rfl rfl rfl rfl rfl rfl rfl q
  | ret u =>
    obtain ⟨v, σ', H', J, rv', q⟩ := hs
    exact ce_of J rfl rfl rfl rfl rfl rfl rv' q
  | brk =>
    obtain ⟨_, _, _, q⟩ := hs
    exact False.elim q
  | cont =>
    obtain ⟨_, _, _, q⟩ := hs
    exact False.elim q
theorem mkS {x : Str} {st : Stmt} (T : Tx K mg x st) (S : FnScope N ps (defScope st))
    (bi : ∀ (kV doc pm : Value) (an : Option Addr) (cdv ct : Value) (us : List Value), us.length = ps.length → bindArgs (PySem.W.fnOf x x (defArgs st) (defBody st) (defScope st) .none kV doc pm an cdv ct) ⟨us, []⟩ = pure (ps.zip us))
    (len : ∀ vs H Q E, sp vs H Q E → vs.length = ps.length)
    (hbody : ∀ (f : Addr) (cdv : Value) (A : Around) (outer : List Env) (s : Shared) (H : Hp) (vs : List V) (Q : VK) (a : Addr), sp vs H Q (fun _ _ _ => False) →
      ∃ t, PSs ((cxOf CX0 P w K mg base N x (defScope st) f cdv A outer s H fun _ _ _ => False).suite a []) (defBody st) t ∧ t { nx := fun _ H' => Q .non H', rt := Q } (start N vs) H) :
    PrS P w K mg base (k + 1) x ps sp := by
  obtain ⟨f, fd, F, g⟩ := T
  exact ⟨f, fd, defS F S len (hbody f), g, F.kp, F.binds bi⟩
end
section
variable {X : Cx} {j k : Nat} {ps : List Str} {sp : Sp} {x : Str} {p pos : Pos} {e : Expr} {es : List Expr} {t : TA} {a : Addr}
theorem run_S {f : Addr} {fd : FuncData} {pins : List (Addr × Obj)} {σ : L2.St} {H : Hp} {s : Shared} {Q : VK} {us : List Value} {vs : List V} (F : FnS X.prog X.w X.K X.mg X.base k f fd ps sp) (hh : X.A.handled = some (.ref a)) (hr : Room k (quiet X.A)) (hb : Binds X.K fd ps [])
    (I : Inv X pins σ H s) (r : Vals vs us) (h : sp vs H Q fun _ _ _ => False) : wpAny (model X.prog X.w) X.A (call (.ref f) us) (EP X pins σ Q) X.xe s := by
  have many : us.length = ps.length := r.length.symm.trans (F.long _ _ _ _ h)
  have b := hb s us I.kIn (by rw [List.append_nil]; exact many)
  rw [List.append_nil] at b
  refine wpAny_call (codeAny_mono (F.goes X.A a hh hr X.stack s H I.env0 ⟨us, []⟩ us vs Q b r h) fun r s' hq => ?_)
  match r, hq with
  | .error e, hq => exact hq.elim
  | .ok (.ret u), hq => exact I.after hq
  | .ok .next, hq => exact hq.elim
  | .ok .brk, hq => exact hq.elim
  | .ok .cont, hq => exact hq.elim
/-- f(e, ..) in the suite -/
theorem pe_S (h : PrS X.prog X.w X.K X.mg X.base j x ps sp) (hr : Room k (quiet X.A)) (hh : X.A.handled = some (.ref a)) (hg : Gl X x) (ha : PA X (e :: es) t) (hj : j ≤ k := by decide)
    (hdb : (x == ("__debug__" : Str)) = false := by decide) (he : starEach (e :: es) X.env = (false, eval e X.env) :: starEach es X.env := by rfl) (hpl : (backTo pos (starEach es X.env)).any (·.1) = false := by rfl) :
    PE X (.Call (.Name x p) (e :: es) [] pos) (tCall sp [] E0 t) := by
  obtain ⟨f, fd, F, hm, hk, hb⟩ := h
  refine ⟨fun pins s σ H Q I h => wpAny_Call_Name_kw (ld_glob I hg hm (PySem.W.callWith_K (h₀ := X.base) I.ok.mod.kin hk (thn (ha.run pos pins s σ H _ I h) fun us s1 ⟨vs, H1, I1, r, q⟩ => ⟨I1.kIn, ?_⟩) he hpl) hdb)⟩
  have q : sp (vs ++ []) H1 Q fun _ _ _ => False := q
  rw [List.append_nil] at q
  exact run_S F hh (hr.mono hj) hb I1 r q
theorem pe_S6 (h : PrS X.prog X.w X.K X.mg X.base j x ps sp) (hr : Room 6 (quiet X.A)) (hh : ∃ a, X.A.handled = some (.ref a)) (hg : Gl X x) (ha : PA X (e :: es) t) (hj : j ≤ 6 := by decide)
    (hdb : (x == ("__debug__" : Str)) = false := by decide) (he : starEach (e :: es) X.env = (false, eval e X.env) :: starEach es X.env := by rfl) (hpl : (backTo pos (starEach es X.env)).any (·.1) = false := by rfl) :
    PE X (.Call (.Name x p) (e :: es) [] pos) (tCall sp [] E0 t) := hh.elim fun _ hh => pe_S h hr hh hg ha hj hdb he hpl
/-- the field of an exception, where the context's K is told -/
theorem pe_valueK {K : PySem.W.Frag} {te : TE} (hK : X.K = K) (he : PE X e te) (hb : attributeBase e "value" X.env (eval e X.env) = eval e X.env := by rfl) : PE X (.Attribute e "value" pos) (tValue K te) := hK ▸ pe_value he hb
end
end Cc

set_option Elab.async false
set_option linter.all false
set_option maxRecDepth 100000
set_option maxHeartbeats 4000000
/-! A generator that is asked for its first number alone: for x in f(..): break. -/
namespace Cc
open PySem PySem.Spec PyProof.Rows L2 GenW
/-- the generator's object as it was made -/
abbrev stood (H : Hp) (b : Addr) (o : Obj) : Hp := upd H b (.frz o (.own 0))
def ends1 (P : Program) (w : World) (outer : List Env) (H : Hp) (s : Shared) (E : XK) (b : Addr) (n : Nat) : GenEnd := fun _ _ r s2 => ∃ e, r = .error e ∧ L2N.CX P w outer H s E e s2 ∧ s2.heap.IsGen b n
def first1 (P : Program) (w : World) (outer : List Env) (H : Hp) (s : Shared) (Q : V → Hp → Prop) : Protocol := fun _ _ v s2 _ => ∃ x H2, RelV x v ∧ s2.os = s.os ∧ AllBare s2.gens ∧ Un (frs outer) [] H H2 s.heap s2.heap ∧ HOk P w H2 s2.heap ∧ Q x H2
/-- a generator has been made that has not begun; Q: of its first number, E: of what it raises before that -/
def Made1 (P : Program) (w : World) (k : Nat) (outer : List Env) (H : Hp) (s : Shared) (Q : V → Hp → Prop) (E : XK) (u : Value) (s1 : Shared) : Prop :=
  ∃ (b : Addr) (n : Nat) (c : Code), u = .ref b ∧ s1.heap.IsGen b n ∧ s1.gens[n]? = some (.fresh c) ∧ s1.heap.NoLimit ∧ s1.os = s.os ∧ AllBare s1.gens ∧ Un (frs outer) [] H H s.heap s1.heap ∧ HOk P w H s1.heap ∧
    ∀ (B : Around) (s2 : Shared), B.guards = some [] → Room k B → B.frames = some outer → (∀ d o, s1.heap.get? d = some o → s2.heap.get? d = some o) → s2.os = s.os → AllBare s2.gens →
      Seg (model P w) B (ends1 P w outer H s E b n) (first1 P w outer H s Q) 1 s2 c ((model P w).den c) [] s2
abbrev Sp1 := List V → Hp → (V → Hp → Prop) → XK → Prop
def Fn1 (P : Program) (w : World) (K : PySem.W.Frag) (mg : Str → Option Value) (base : Heap) (k : Nat) (f : Addr) (fd : FuncData) (ps : List Str) (sp : Sp1) : Prop :=
  ∀ (A : Around) (outer : List Env) (s : Shared) (H : Hp) (args : Args) (us : List Value) (vs : List V) (Q : V → Hp → Prop) (E : XK), Room k A → Env0 P w K mg base A outer s H → BindsTo s fd args (ps.zip us) → Vals vs us → us.length = ps.length → sp vs H Q E →
    codeAny (model P w) A (.call (.ref f) args) (fun r s1 => match r with | .ok (.ret u) => Made1 P w k outer H s Q E u s1 | _ => False) s
section
variable {P : Program} {w : World} {K : PySem.W.Frag} {mg : Str → Option Value} {base : Heap} {k : Nat} {f : Addr} {nm ql : Str} {prm : Arguments} {b0 b1 : Stmt} {bs : List Stmt} {sc : Scope} {dV kV doc pm cdv ct oc : Value} {an od : Option Addr} {osl : Array (Option Value)} {N ps : List Str} {sp : Sp1} {ey : Expr} {yp yp' : Pos}
/-- the body: a statement, then the first yield -/
theorem fn1_of (lk : K.lookup f = some ⟨oc, od, .func (PySem.W.fnOf nm ql prm (b0 :: .Expr (.Yield (some ey) yp) yp' :: bs) sc dV kV doc pm an cdv ct), osl⟩) (hcd : PySem.W.codeIn K cdv ql = true) (S : GScope N ps sc)
    (hb : ∀ (A : Around) (outer : List Env) (s : Shared) (H H1 : Hp) (vs : List V) (Q : V → Hp → Prop) (E : XK) (b : Addr) (o : Obj), A.guards = some [] → Room k (A.deeper (envOfC ql sc s.heap.objs.size f cdv)) → H b = none → H1 = stood H b o → sp vs H Q E →
      ∃ t te, PS (cxOf (L2N.CX P w) P w K mg base N ql sc f cdv A outer s H fun c d H2 => E c d H2 ∧ H2 b = some (.frz o (.own 0))) b0 t ∧ PE (cxOf (L2N.CX P w) P w K mg base N ql sc f cdv A outer s H fun c d H2 => E c d H2 ∧ H2 b = some (.frz o (.own 0))) ey te ∧
        t { nx := fun σ H2 => te σ H2 fun x H3 => Q x H3, rt := fun _ _ => False } (start N vs) H1) :
    Fn1 P w K mg base (k + 1) f (PySem.W.fnOf nm ql prm (b0 :: .Expr (.Yield (some ey) yp) yp' :: bs) sc dV kV doc pm an cdv ct) ps sp := by
  intro A outer s H args us vs Q E hr e0 hbd r hlu hsp
  have hl : vs.length = ps.length := r.length.trans hlu
  have kin : K.In s.heap := e0.mod.kin.keeps fun d o e => (e0.bs d o e).1
  have lim : s.heap.NoLimit := e0.mod.nolimit.keeps fun d o e => (e0.bs d o e).1
  refine codeAny_call_generator hr.depth (kin _ _ lk) rfl S.co S.gen rfl (PySem.W.codeRec_of kin hcd) (hbd _ _ _ _ ?_)
  refine wpAny_newFunctionEnv_cells S.kind (fun y hy => ?_) fun env he s1 x => ?_
  · exact (S.par y.1 (List.of_mem_zip hy).1).imp id fun q => ⟨q, PySem.W.cellsFrom_some _ _ _ (.inl q)⟩
  subst he
  have keep1 : ∀ d o, s.heap.get? d = some o → s1.heap.get? d = some o := x.toInCall.keep
  refine ⟨lim.keeps keep1, ?_⟩
  have same1 := x.done
  have main : ∀ (go : Obj) (v1 v2 : Value) (tk : Nat), go.cls = .type "generator" → go.data = .fields #[.int s1.gens.size 0, v1, v2] → go.slots = #[] → (∀ h : Heap, (h.push go).get? h.objs.size = some go) →
      Made1 P w (k + 1) outer H s Q E (.ref s1.heap.objs.size) { s1 with gens := s1.gens.push (.fresh (.func (b0 :: .Expr (.Yield (some ey) yp) yp' :: bs) (envOfC ql sc s.heap.objs.size f cdv))), toks := tk, heap := s1.heap.push go } := by
    intro go v1 v2 tk g1 g2 g3 g4
    obtain ⟨h1, tk1, es, hk1⟩ := same1
    have osE : s1.os = s.os := by rw [es]
    have gnE : s1.gens = s.gens := by rw [es]
    have isg : ∀ h : Heap, h.get? s1.heap.objs.size = some go → h.IsGen s1.heap.objs.size s1.gens.size := fun h e => ⟨go, v1, v2, e, g1, g2, g3⟩
    have pu : ∀ d o, s1.heap.get? d = some o → (s1.heap.push go).get? d = some o := fun d o e => Heap.get?_push_of_some _ e
    have hokp : HOk P w H (s1.heap.push go) := e0.hok.kept fun d o e => pu d o (keep1 d o e)
    refine ⟨s1.heap.objs.size, s1.gens.size, _, rfl, isg _ (g4 _), Array.getElem?_push_size .., (lim.keeps keep1).keeps pu, osE, AllBare.push (by rw [gnE]; exact e0.bare) rfl, Un.kept fun d o e => pu d o (keep1 d o e), hokp, ?_⟩
    intro B s2 gB rB fB k2 os2 ba2
    have eB : Env0 P w K mg base B outer s H := ⟨fB, e0.mod, e0.bs, e0.bsz, e0.funs, e0.frf, e0.hok, e0.bare⟩
    have Hb : H s1.heap.objs.size = none := by
      cases e : H s1.heap.objs.size with
      | none => rfl
      | some o =>
        have := ObjOk.lt (hokp _ _ e)
        have h2 := ObjOk.lt ((e0.hok.kept keep1) _ _ e)
        exact absurd h2 (Nat.lt_irrefl _)
    have gen2 : s2.heap.get? s1.heap.objs.size = some go := k2 _ _ (g4 _)
    obtain ⟨t, te, p0, p1, q⟩ := hb B outer s H (stood H s1.heap.objs.size go) vs Q E s1.heap.objs.size go gB (rB.deeper _) Hb rfl hsp
    have sub : ∀ d o, s1.heap.get? d = some o → s2.heap.get? d = some o := fun d o e => k2 d o (pu d o e)
    have I1 : Inv (cxOf (L2N.CX P w) P w K mg base N ql sc f cdv B outer s H fun c d H2 => E c d H2 ∧ H2 s1.heap.objs.size = some (.frz go (.own 0))) [] (start N vs) H s1 := by
      have J := inv_startG (f := f) (cd := cdv) (qual := ql) (E := E) S rB.hd eB hl r x
      exact ⟨J.ok.1 |> fun _ => ⟨J.ok.mod, J.ok.kind, J.ok.glob, J.ok.blt, J.ok.above, J.ok.inj, J.ok.has, J.ok.cab, J.ok.hd, J.ok.frames, J.ok.stk, J.ok.exf, J.ok.bs, J.ok.bsz, J.ok.noex, J.ok.exfs, J.ok.funs, J.ok.frf⟩, J.os, J.bare, J.base, J.loc, J.cell, J.free, J.freeC, J.pin, J.hok, J.len⟩
    have ne : ∀ d o, s1.heap.get? d = some o → d ≠ s1.heap.objs.size := fun d o e z => absurd (Heap.lt_size e) (by rw [z]; exact Nat.lt_irrefl _)
    have I2 : Inv (cxOf (L2N.CX P w) P w K mg base N ql sc f cdv B outer s H fun c d H2 => E c d H2 ∧ H2 s1.heap.objs.size = some (.frz go (.own 0))) [] (start N vs) (stood H s1.heap.objs.size go) s2 := by
      refine I1.call' (ch := []) (os2.trans osE.symm) ⟨fun d o e _ _ _ => sub d o e, fun d o e _ _ _ => ⟨o.slots, sub d o e⟩, fun d o e n _ => by show upd H _ _ d = none; rw [upd_ne (ne d o e)]; exact n, fun d o e _ => ⟨o, sub d o e⟩, fun d xs e => ?_, fun d o u e => ?_, fun d ps e => ⟨#[], ?_⟩⟩ (fun d o e => ?_) ba2 fun d z => (nomatch z)
      · show upd H _ _ d = _; rw [upd_ne fun z => by rw [z, Hb] at e; cases e]; exact e
      · show upd H _ _ d = _; rw [upd_ne fun z => by rw [z, Hb] at e; cases e]; exact e
      · show upd H _ _ d = _; rw [upd_ne fun z => by rw [z, Hb] at e; cases e]; simpa using e
      · by_cases z : d = s1.heap.objs.size
        · subst z
          have e : upd H s1.heap.objs.size (.frz go (.own 0)) s1.heap.objs.size = some o := e
          rw [upd_same] at e
          cases e
          exact ⟨gen2, _, gen2⟩
        · have e : upd H s1.heap.objs.size (.frz go (.own 0)) d = some o := e
          rw [upd_ne z] at e
          have := (e0.hok.kept fun d o e => sub d o (keep1 d o e)) d o e
          exact this.stay (fun _ _ _ z => z) (fun c z => by show upd H _ _ c = _; rw [upd_ne fun y => by rw [y, Hb] at z; cases z]; exact z) fun c xs z => by show upd H _ _ c = _; rw [upd_ne fun y => by rw [y, Hb] at z; cases z]; exact z
    -- what leaves the frame
    have out : ∀ e s3, (cxOf (L2N.CX P w) P w K mg base N ql sc f cdv B outer s H fun c d H2 => E c d H2 ∧ H2 s1.heap.objs.size = some (.frz go (.own 0))).xe e s3 →
        Seg (model P w) B (ends1 P w outer H s E s1.heap.objs.size s1.gens.size) (first1 P w outer H s Q) 1 s2 (.func (b0 :: .Expr (.Yield (some ey) yp) yp' :: bs) (envOfC ql sc s.heap.objs.size f cdv)) ((leaving (envOfC ql sc s.heap.objs.size f cdv) e).wrap (fun _ => .raise e) .raise id id) [] s3 := fun e s3 hx => by
      refine seg_wrap ?_
      rw [over_func]
      have last : ∀ e s4, L2N.CX P w outer H s (fun c d H2 => E c d H2 ∧ H2 s1.heap.objs.size = some (.frz go (.own 0))) e s4 → ends1 P w outer H s E s1.heap.objs.size s1.gens.size 1 s2 (.error e) s4 := fun e s4 hc => by
        obtain ⟨a, Bh, H2, cls, d, rfl, fl, hok2, ub, na, os4, ba4, hE, hg⟩ := hc
        exact ⟨_, rfl, ⟨a, Bh, H2, cls, d, rfl, fl, hok2, ub, na, os4, ba4, hE⟩, isg _ (fl.1 _ _ (hok2 _ _ hg).1)⟩
      exact wpAny_mono hx (fun _ s4 hc => seg_end (.error e) (last _ _ hc)) fun e2 s4 hc => seg_end (.error e2) (last _ _ hc)
    refine seg_func (seg_execs_cons (seg_wrap ?_))
    rw [over_func]
    refine wpAny_mono (p0.run [] s2 _ _ _ I2 q) (fun fl s3 h3 => ?_) fun e s3 hx => out e s3 hx
    cases fl with
    | brk => obtain ⟨_, _, _, z⟩ := h3; exact z.elim
    | cont => obtain ⟨_, _, _, z⟩ := h3; exact z.elim
    | ret v => obtain ⟨_, _, _, _, _, z⟩ := h3; exact z.elim
    | next =>
      obtain ⟨σ3, H3, I3, q3⟩ := h3
      have hint : interactive (envOfC ql sc s.heap.objs.size f cdv) = false := by
        show (sc.kind == .module && _) = false
        rw [S.kind]
        rfl
      refine seg_execs_cons (seg_Expr_Yield rfl rfl rfl ?_ S.co hint)
      rw [over_func]
      refine wpAny_mono (p1.run [] s3 σ3 H3 _ I3 q3) (fun v s4 h4 kap _ => ?_) fun e s4 hx => out e s4 hx
      obtain ⟨y, H4, I4, r4, q4⟩ := h4
      exact ⟨y, H4, r4, I4.os, I4.bare, I4.base, I4.hok, q4⟩
  exact main _ _ _ _ rfl rfl rfl fun h => Heap.get?_push_size _ rfl
end
/-- what a generator def of this name keeps up to its first number -/
def Pr1 (P : Program) (w : World) (K : PySem.W.Frag) (mg : Str → Option Value) (base : Heap) (k : Nat) (x : Str) (st : Stmt) (ps : List Str) (sp : Sp1) : Prop :=
  ∃ f fd, Fun K x x st f fd ∧ Fn1 P w K mg base k f fd ps sp ∧ (∀ vs H Q E, sp vs H Q E → vs.length = ps.length) ∧ mg x = some (.ref f)
section
variable {P : Program} {w : World} {K : PySem.W.Frag} {mg : Str → Option Value} {base : Heap} {k : Nat} {x : Str} {st : Stmt} {N ps : List Str} {sp : Sp1} {b0 : Stmt} {bs : List Stmt} {ey : Expr} {yp yp' : Pos}
theorem mk1 (T : Tx K mg x st) (S : GScope N ps (defScope st)) (eb : defBody st = b0 :: .Expr (.Yield (some ey) yp) yp' :: bs) (len : ∀ vs H Q E, sp vs H Q E → vs.length = ps.length)
    (hb : ∀ (f : Addr) (cdv : Value) (A : Around) (outer : List Env) (s : Shared) (H H1 : Hp) (vs : List V) (Q : V → Hp → Prop) (E : XK) (b : Addr) (o : Obj), A.guards = some [] → Room k (A.deeper (envOfC x (defScope st) s.heap.objs.size f cdv)) → H b = none → H1 = stood H b o → sp vs H Q E →
      ∃ t te, PS (cxOf (L2N.CX P w) P w K mg base N x (defScope st) f cdv A outer s H fun c d H2 => E c d H2 ∧ H2 b = some (.frz o (.own 0))) b0 t ∧ PE (cxOf (L2N.CX P w) P w K mg base N x (defScope st) f cdv A outer s H fun c d H2 => E c d H2 ∧ H2 b = some (.frz o (.own 0))) ey te ∧
        t { nx := fun σ H2 => te σ H2 fun x H3 => Q x H3, rt := fun _ _ => False } (start N vs) H1) : Pr1 P w K mg base (k + 1) x st ps sp := by
  obtain ⟨f, fd, F, g⟩ := T
  obtain ⟨oc, od, kV, doc, pm, an, cdv, ct, osl, e, lk, hcd⟩ := F.ex
  refine ⟨f, fd, F, ?_, len, g⟩
  subst e
  rw [eb] at lk ⊢
  exact fn1_of lk hcd S fun A outer s H H1 vs Q E b o hg hr hn h1 h => hb f cdv A outer s H H1 vs Q E b o hg hr hn h1 h
end
section
variable {X : Cx} {W : WX} {j k : Nat} {ps : List Str} {sp : Sp1} {x y : Str} {st : Stmt} {p cp py pos : Pos} {e : Expr} {es : List Expr} {ta : TA} {g : TG} {body : List Stmt} {tb : TS}
def tFirst (K : PySem.W.Frag) (W : WX) (sp : Sp1) (ta : TA) (g : TG) (tb : TS) : TS := fun D σ H => ta σ H fun vs H1 => sp vs H1 (fun z H2 => g z σ H2 fun σ2 H3 => tb { D with nx := fun _ _ => False, ct := fun _ _ => False, bk := D.nx } σ2 H3) fun c d H2 => W c d σ H2 ∧ PySem.W.subIn K c (.type "StopIteration") = some false
theorem notStopN {P : Program} {w : World} {K : PySem.W.Frag} {outer : List Env} {H : Hp} {s s2 : Shared} {E : XK} {u : Value} (hE : ∀ c d H2, E c d H2 → PySem.W.subIn K c (.type "StopIteration") = some false) (kin : K.In s2.heap) (c : L2N.CX P w outer H s E u s2) : NotStop (model P w) u s2.heap := by
  obtain ⟨a, B, H2, cls, d, rfl, fl, _, _, _, _, _, q⟩ := c
  obtain ⟨oe, vs, he, hz, _⟩ := fl.there
  have L := PySem.W.looks_subIn (M := model P w) kin (hE cls d H2 q)
  intro A Q E2 s3 hs hq
  have e3 : s3.heap.get? a = some oe := hs.symm ▸ he
  simp only [isInstance]
  refine wpAny_bind (wpAny_typeOf_ref e3 ?_)
  rw [hz.1]
  exact L A Q E2 s3 (fun _ _ z => hs.symm ▸ z) hq
/-- for y in f(..): a body that breaks off at once -/
theorem ps_first (h : Pr1 X.prog X.w X.K X.mg X.base j x st ps sp) (hr : Room k X.A) (hG : X.A.guards = some []) (hg : Gl X x) (hc : X.calm = true) (tk : L2N.Takes X W) (hp : PassesOwn (model X.prog X.w) X.A X.env X.xe)
    (bi : ∀ (kV doc pm : Value) (an : Option Addr) (cdv ct : Value) (us : List Value), us.length = ps.length → bindArgs (PySem.W.fnOf x x (defArgs st) (defBody st) (defScope st) .none kV doc pm an cdv ct) ⟨us, []⟩ = pure (ps.zip us))
    (ha : PA X (e :: es) ta) (hgt : PG X (.Name y py) g) (hb : PSs X body tb) (hj : j + 2 ≤ k := by decide) (hdb : (x == ("__debug__" : Str)) = false := by decide) (he : starEach (e :: es) X.env = (false, eval e X.env) :: starEach es X.env := by rfl) (hpl : (backTo cp (starEach es X.env)).any (·.1) = false := by rfl) :
    PS X (.For (.Name y py) (.Call (.Name x p) (e :: es) [] cp) body [] pos) (tFirst X.K W sp ta g tb) := by
  obtain ⟨f, fd, F, G, len, m⟩ := h
  refine ⟨fun pins s σ H D I q => ?_⟩
  refine wpAny_For (wpAny_Call_Name_kw (ld_glob I hg m ?_ hdb)) fun _ => rfl
  refine PySem.W.callWith_K (h₀ := X.base) I.ok.mod.kin F.kp (thn (ha.run cp pins s σ H _ I q) fun us s1 ⟨vs, H1, I1, r, q1⟩ => ⟨I1.kIn, ?_⟩) he hpl
  have hl : us.length = ps.length := r.length.symm.trans (len _ _ _ _ q1)
  have hbind := F.binds bi
  refine wpAny_call (codeAny_mono (G X.A X.stack s1 H1 ⟨us, []⟩ us vs _ _ (hr.mono (by omega)) I1.env0 (by have := hbind s1 us I1.kIn (by rw [List.append_nil]; exact hl); rw [List.append_nil] at this; exact this) r hl q1) fun r0 s2 z => ?_)
  match r0, z with
  | .error _, z => exact z.elim
  | .ok .next, z => exact z.elim
  | .ok .brk, z => exact z.elim
  | .ok .cont, z => exact z.elim
  | .ok (.ret u), z =>
    obtain ⟨b, n, c, rfl, isg, hgen, lim, os, ba, un, hok, wake⟩ := z
    have I2 : Inv X pins σ H1 s2 := I1.call' (ch := []) os un hok ba fun _ z => nomatch z
    refine wpAny_pyIter_gen isg ?_
    refine codeAny_forLoop_any (fun _ s' => s' = s2) ?_ 0 rfl
    rintro n0 s3 rfl
    have sg := wake X.A.in1 (s3.setGen n .running) hG ⟨hr.hd, by have := hr.dp; show X.A.depth + 3 * j + 5 < _; omega, by have := hr.un; show X.A.units + 1 + 16 * j + 200 < _; omega⟩ I1.ok.frames (fun _ _ z => z) os (allBare_setGen (x := .running) ba rfl)
    let EX : XK := fun c d H2 => W c d σ H2 ∧ PySem.W.subIn X.K c (.type "StopIteration") = some false
    let QX : V → Hp → Prop := fun z H2 => g z σ H2 fun σ2 H3 => tb { D with nx := fun _ _ => False, ct := fun _ _ => False, bk := D.nx } σ2 H3
    have sg2 : Seg (model X.prog X.w) X.A.in1 (fun _ _ r s₁ => ((r = .ok (.ret .none) ∨ r = .ok .next) ∧ False) ∨ ∃ e, r = .error e ∧ (L2N.CX X.prog X.w X.stack H1 s1 EX e s₁ ∧ s₁.heap.IsGen b n)) (first1 X.prog X.w X.stack H1 s1 QX) 1 (s3.setGen n .running) c ((model X.prog X.w).den c) [] (s3.setGen n .running) :=
      seg_imp (R := ends1 X.prog X.w X.stack H1 s1 EX b n) (Y := first1 X.prog X.w X.stack H1 s1 QX) (fun _ _ _ _ hR => Or.inr hR) (fun _ _ _ _ _ _ _ hY => hY) 1 sg
    refine wpAny_passesOwn hp (next_genG (A := X.A) (n := 1) (gs := .fresh c) (F := fun _ _ _ => False) (Er := fun e s4 => L2N.CX X.prog X.w X.stack H1 s1 EX e s4 ∧ s4.heap.IsGen b n) (Y := first1 X.prog X.w X.stack H1 s1 QX) (hr.hd) lim (by have := hr.dp; omega) isg hgen ⟨rfl, sg2⟩ (fun v s4 gs' hbare hv => ?_) (fun _ z => z.elim) fun e s4 he => ?_)
    · obtain ⟨z, H2, rv, os4, ba4, un4, hok4, q4⟩ := hv
      have I4 : Inv X pins σ H2 (s4.setGen n gs') := I1.call' (ch := []) os4 un4 hok4 (allBare_setGen ba4 hbare) fun _ z => nomatch z
      refine wpAny_passesOwn hp ?_
      unfold letOwnedTupleGo
      refine wpAny_pure ?_
      refine wpAny_passesOwn hp (thn (hgt.run _ _ σ H2 z v _ I4 rv q4) fun _ s6 ⟨σ6, H6, I6, q6⟩ => ?_)
      refine wpAny_passesOwn hp (thn (hb.run _ s6 σ6 H6 _ I6 q6) fun fl s7 q7 => ?_)
      cases fl with
      | next => obtain ⟨_, _, _, z⟩ := q7; exact z.elim
      | cont => obtain ⟨_, _, _, z⟩ := q7; exact z.elim
      | brk => exact q7
      | ret v => exact q7
    · obtain ⟨hcx, hge⟩ := he
      have kin4 : X.K.In s4.heap := by
        obtain ⟨a, B, H', cls, d, _, fl, _, ub, _⟩ := id hcx
        refine I1.ok.mod.kin.keeps fun d o ed => fl.1 d o (ub.keep d o (I1.bs d o ed).1 (I1.bs d o ed).2 fun hm => ?_)
        rcases List.mem_cons.mp (I1.stkSub d hm) with z | z
        · have small : d < X.base.objs.size := Heap.lt_size ed
          exact (Nat.lt_irrefl d (Nat.lt_of_lt_of_le small (by rw [z]; exact Nat.le_trans I1.ok.bsz I1.ok.above))).elim
        · exact I1.ok.nofr ed z
      refine ⟨hge, notStopN (fun _ _ _ z => z.2) kin4 hcx, ?_⟩
      obtain ⟨a, B, H', cls, d, z1, fl, z2, ub, z3, z4, z5, z6, _⟩ := hcx
      exact tk _ _ (L2N.XE.of_call (E := fun c d H2 => W c d σ H2) I1 (fun _ _ _ z => z) ⟨a, B, H', cls, d, z1, fl, z2, ub, z3, z4, allBare_setGen z5 rfl, z6⟩)
end
end Cc

set_option Elab.async false
set_option linter.all false
set_option maxRecDepth 100000
set_option maxHeartbeats 2000000
/-! a list's iterator that ends while an exception is handled -/
namespace Cc
open PySem PySem.Spec PyProof.Rows L2 HotX
section
variable {prog : Program} {w : World} {A : Around} {E : Value → Shared → Prop} {s : Shared}
theorem pyNext_list_end_hot {it l x1 : Addr} {i : Nat} {items} {Q : Option Value → Shared → Prop} (hot : HotAt A x1 s.heap)
    (hit : s.heap.IsListIter it l i) (hl : s.heap.IsList l items) (hx : items[i]? = none)
    (hQ : ∀ h', Heap.ExtBut it s.heap h' → Q none { s with heap := h' }) : wpAny (model prog w) A (pyNext (.ref it)) Q E s := by
  obtain ⟨o, ho, hc, hd⟩ := id hit
  obtain ⟨ol, hol, _, nl, hdl⟩ := hl
  obtain ⟨hh, o1, vs1, h1, d1, c1⟩ := hot
  have hne : x1 ≠ it := fun z => by
    subst z
    rw [ho] at h1
    cases h1
    rw [hd] at d1
    cases d1
    simp at c1
  unfold pyNext
  refine wpAny_bind (wpAny_attempt (wpAny_callSpecial?_slot (name := Str.ofString "__next__") hit.typeIs slot_listiter_next
    (wpAny_call_entry slot_listiter_next hit.typeIs entry_listiter_next ?_ (args_listiter_next _))))
  show wpAny _ _ (field (.ref it) 0 >>= _) _ _ s
  refine wpAny_bind (wpAny_field ho hd (x := .ref l) rfl ?_)
  show wpAny _ _ (if (Value.ref l == Value.none) = true then _ else _) _ _ s
  rw [if_neg (show ¬ ((Value.ref l == Value.none) = true) from Bool.false_ne_true)]
  show wpAny _ _ (field (.ref it) 1 >>= _) _ _ s
  refine wpAny_bind (wpAny_field ho hd (x := .int i 0) rfl ?_)
  show wpAny _ _ (seqItems? (.ref l) >>= _) _ _ s
  refine wpAny_bind (wpAny_seqItems hol hdl ?_)
  simp only [Int.toNat_natCast, hx]
  refine wpAny_bind (wpAny_rule (wpAny_bind (wpAny_setField ho hd (by simp) ?_)))
  show wpAny _ _ (newExc (.type "StopIteration") [] >>= _) _ _ _
  refine wpAny_bind ?_
  simp only [newExc, newTuple]
  refine wpAny_bind (wpAny_newObj_type ?_ (by size_fits))
  refine wpAny_bind (m := firstArgMember _ _) (wpAny_of_eq (a := Value.none) (by first | rfl | (simp only [firstArgMember]; rfl)) ?_)
  refine wpAny_newObj_type ?_ (by size_fits)
  have h1' : ∀ f, (s.heap.update it f).get? x1 = some o1 := fun f => by rw [Heap.get?_update_other _ _ hne.symm]; exact h1
  refine raiseNew_hot ⟨hh, o1, vs1, Heap.get?_push_of_some _ (Heap.get?_push_of_some _ (h1' _)), d1, c1⟩ (Nat.ne_of_lt (Heap.lt_size (Heap.get?_push_of_some _ (h1' _)))) (Heap.get?_push_size _ rfl) rfl (by first | (simp; done) | (simp; omega) | (simp only [Array.size_append]; simp; omega)) ?_
  refine wpAny_bind (wpAny_isInstance (T := "StopIteration") (b := true) ⟨_, Heap.get?_update_self _ (Heap.get?_push_size _ rfl) rfl, rfl⟩ isSubtype_stop ?_)
  refine wpAny_pure (hQ _ fun b o hb e => ?_)
  have e' : ∀ f, (s.heap.update it f).get? b = some o := fun f => by rw [Heap.get?_update_other _ _ (Ne.symm hb)]; exact e
  rw [Heap.get?_update_other _ _ (Nat.ne_of_gt (Heap.lt_size (Heap.get?_push_of_some _ (e' _))))]
  exact Heap.get?_push_of_some _ (Heap.get?_push_of_some _ (e' _))
end
section
open L2H
theorem turn_listH {P : Program} {w : World} {K : PySem.W.Frag} {tg : Expr} (a it : Addr) : L2H.TurnH P w K tg (Itl K a) [it] it (fun i h => h.IsListIter it a i) where
  mem := (turn_list (P := P) (w := w) (K := K) (tg := tg) a it).mem
  obj := (turn_list (P := P) (w := w) (K := K) (tg := tg) a it).obj
  keep := (turn_list (P := P) (w := w) (K := K) (tg := tg) a it).keep
  item := by
    intro X hP hw hK hc i pins s σ H E I hf st hg
    subst hP hw hK
    obtain ⟨xs, x, hq, hx⟩ := hg
    obtain ⟨its, rv, p, hz⟩ := I.list hq
    obtain ⟨u, hu, ru⟩ := rv.get hx
    obtain ⟨f0, f1, f2, f3, f4, f5⟩ := hf it (by simp)
    refine wpAny_pyNext_list_item st p.isList (x := u) (by simpa using hu) fun h' st' sb => ?_
    have I1 : Inv X pins σ H { s with heap := h' } := I.turned (t' := s.toks) (fun b o hb e => (sb.2 b hb).trans e) f0 f1 f3 f4 f5
    obtain ⟨o, e, c, d⟩ := id st'
    exact ⟨u, rfl, go_of (s := { s with heap := h' }) e c d (by decide) ⟨x, H, I1, ru, ⟨rfl, fun ys hy => by rw [I.list_inj hy hq]; exact hx⟩, st', fun b hb => (hf b hb).1⟩⟩
  done := by
    intro X hP hw hK hc i pins s σ H E I hf st hg
    subst hP hw hK
    obtain ⟨xs, hq, hx⟩ := hg
    obtain ⟨its, rv, p, hz⟩ := I.list hq
    obtain ⟨f0, f1, f2, f3, f4, f5⟩ := hf it (by simp)
    have hl := rv.length
    obtain ⟨x1, hot⟩ := hc.at I
    exact pyNext_list_end_hot hot st p.isList (by simp; omega) fun h' eb => ⟨rfl, I.turned (t' := s.toks) (fun b o hb e => eb b o hb e) f0 f1 f3 f4 f5⟩
  self := (turn_list (P := P) (w := w) (K := K) (tg := tg) a it).self
end
section
open L2H
theorem pi_listH {X : Cx} {tg l : Expr} {tl : TE} (hl : PE X l tl) : L2H.PIH X tg l (iList X.K tl) := by
  refine ⟨fun pins s σ H R I h => ?_⟩
  refine thn (hl.run pins s σ H _ I h) fun v s1 ⟨x, H1, I1, r1, q1⟩ => ?_
  obtain ⟨a, e, ⟨xs, hq⟩, q⟩ := q1
  subst e
  cases r1
  obtain ⟨its, rv, p, hz⟩ := I1.list hq
  refine wpAny_pyIter_list p.isList ?_
  refine ⟨s1.heap.objs.size, [s1.heap.objs.size], _, _, H1, rfl, I1.kept (t' := s1.toks) fun b o e => Heap.get?_push_of_some _ e, turn_listH a _, ⟨_, Heap.get?_push_size _ rfl, rfl, rfl⟩, fun b hb => ?_, q⟩
  have e : b = s1.heap.objs.size := by simpa using hb
  subst e
  exact I1.fpOk (Nat.le_refl _) (I1.hok.fresh (Nat.le_refl _))
end
/-! ### where the handled exception is tracked -/
/-- an exception stands tracked at a -/
def HotT (H : Hp) (a : Addr) : Prop := ∃ cls d, H a = some (exT a cls d)
theorem HotT.same {H G : Hp} {a : Addr} (h : HotT H a) (e : Same H G) : HotT G a := h.elim fun cls h => h.elim fun d h => ⟨cls, d, e _ _ h⟩
theorem HotT.hot {X : Cx} {pins : List (Addr × Obj)} {σ : L2.St} {H : Hp} {s : Shared} {a : Addr} (h : HotT H a) (hh : X.A.handled = some (.ref a)) (I : Inv X pins σ H s) : HotAt X.A a s.heap := by
  obtain ⟨cls, d, e⟩ := h
  have o : ObjOk X.prog X.w H s.heap a (exT a cls d) := I.hok a _ e
  obtain ⟨⟨oe, vs, g, z, f⟩, _, _⟩ := o
  exact ⟨hh, oe, vs, g, f, z.2.2 vs f⟩
section
variable {prog : Program} {w : World} {A : Around} {E : Value → Shared → Prop} {s : Shared}
theorem tupEnd_hot {it t x1 : Addr} {i : Nat} {its} {Q : Option Value → Shared → Prop} (hot : HotAt A x1 s.heap)
    (st : IsTupIter s.heap it t i) (ht : IsTup s.heap t its) (out : its[i]? = none)
    (q : ∀ g, Heap.ExtBut it s.heap g → Q none { s with heap := g }) : wpAny (model prog w) A (pyNext (.ref it)) Q E s := by
  obtain ⟨oi, gi, ci, di⟩ := id st
  obtain ⟨ot, gt, _, nt, dt⟩ := ht
  obtain ⟨hh, o1, vs1, h1, d1, c1⟩ := hot
  have apart : x1 ≠ it := fun z => by
    subst z
    rw [gi] at h1
    cases h1
    rw [di] at d1
    cases d1
    simp at c1
  unfold pyNext
  refine wpAny_bind (wpAny_attempt (wpAny_callSpecial?_slot (name := Str.ofString "__next__") st.typeIs slot_tupleiter_next (wpAny_call_entry slot_tupleiter_next st.typeIs entry_tupleiter_next ?_ (args_tupleiter_next _))))
  show wpAny _ _ (field (.ref it) 0 >>= _) _ _ _
  refine wpAny_bind (wpAny_field gi di (x := .ref t) rfl ?_)
  show wpAny _ _ (if (Value.ref t == Value.none) = true then _ else _) _ _ _
  rw [if_neg (by simp)]
  show wpAny _ _ (field (.ref it) 1 >>= _) _ _ _
  refine wpAny_bind (wpAny_field gi di (x := .int i 0) rfl ?_)
  show wpAny _ _ (seqItems? (.ref t) >>= _) _ _ _
  refine wpAny_bind (wpAny_seqItems gt dt ?_)
  simp only [Int.toNat_natCast, out]
  refine wpAny_bind (wpAny_rule (wpAny_bind (wpAny_setField gi di (by simp) ?_)))
  show wpAny _ _ (newExc (.type "StopIteration") [] >>= _) _ _ _
  refine wpAny_bind ?_
  simp only [newExc, newTuple]
  refine wpAny_bind (wpAny_newObj_type ?_ (by size_fits))
  refine wpAny_bind (m := firstArgMember _ _) (wpAny_of_eq (a := Value.none) (by first | rfl | (simp only [firstArgMember]; rfl)) ?_)
  refine wpAny_newObj_type ?_ (by size_fits)
  have k1 : ∀ f, (s.heap.update it f).get? x1 = some o1 := fun f => by rw [Heap.get?_update_other _ _ apart.symm]; exact h1
  refine raiseNew_hot ⟨hh, o1, vs1, Heap.get?_push_of_some _ (Heap.get?_push_of_some _ (k1 _)), d1, c1⟩ (Nat.ne_of_lt (Heap.lt_size (Heap.get?_push_of_some _ (k1 _)))) (Heap.get?_push_size _ rfl) rfl (by first | (simp; done) | (simp; omega) | (simp only [Array.size_append]; simp; omega)) ?_
  refine wpAny_bind (wpAny_isInstance (T := "StopIteration") (b := true) ⟨_, Heap.get?_update_self _ (Heap.get?_push_size _ rfl) rfl, rfl⟩ isSubtype_stop ?_)
  refine wpAny_pure (q _ fun b o hb e => ?_)
  have k2 : ∀ f, (s.heap.update it f).get? b = some o := fun f => by rw [Heap.get?_update_other _ _ (Ne.symm hb)]; exact e
  rw [Heap.get?_update_other _ _ (Nat.ne_of_gt (Heap.lt_size (Heap.get?_push_of_some _ (k2 _))))]
  exact Heap.get?_push_of_some _ (Heap.get?_push_of_some _ (k2 _))
theorem unpack_hot {t x1 : Addr} {its : Array Value} {tgs : List (Bool × (Value → Sem Unit))} {Q : Unit → Shared → Prop} (hot : HotAt A x1 s.heap) (ht : IsTup s.heap t its)
    (hn : tgs.length = its.size) (hst : tgs.findIdx? (·.1) = none)
    (q : ∀ g, Heap.ExtBut s.heap.objs.size s.heap g → wpAny (model prog w) A (assignInOrder (tgs.map (·.2)) its.toList) Q E { s with heap := g }) : wpAny (model prog w) A (unpack (.ref t) tgs) Q E s := by
  have away : t ≠ s.heap.objs.size := ht.elim fun o h => Nat.ne_of_lt (Heap.lt_size h.1)
  obtain ⟨hh, o1, vs1, h1, d1, c1⟩ := hot
  have n1 : x1 ≠ s.heap.objs.size := Nat.ne_of_lt (Heap.lt_size h1)
  unfold unpack unpackItems notIterableAtAll
  rw [hn, hst]
  refine wpAny_bind (wpAny_holding (wpAny_bind (wpAny_bind (wpAny_specialOf ht.typeIs slot_tuple_iter.lookup (wpAny_pure ?_)))))
  simp only [Bool.false_eq_true, if_false]
  refine wpAny_bind (wpAny_holding (iter_tuple ht (wpAny_bind (wpAny_holding (draw_tuple away its.size 0 _ _ ⟨_, Heap.get?_push_size _ rfl, rfl, rfl⟩ (ht.push _) (by omega) fun g1 st1 sm1 => ?_)))))
  have all : List.take its.size (List.drop 0 its.toList) = its.toList := by
    rw [List.drop_zero]
    exact List.take_of_length_le (by simp)
  rw [all, if_neg (by simp)]
  have hot1 : HotAt A x1 g1 := ⟨hh, o1, vs1, sm1.extBut _ _ n1 (Heap.get?_push_of_some _ h1), d1, c1⟩
  refine wpAny_bind (wpAny_holding (tupEnd_hot (s := { s with heap := g1 }) hot1 st1 ((ht.push _).extBut sm1.extBut away) (by simp) fun g2 ex2 => ?_))
  simp only [Option.isSome_none, Bool.false_eq_true, if_false]
  exact wpAny_pure (q g2 fun b o hb e => ex2 b o hb (sm1.extBut b o hb (Heap.get?_push_of_some _ e)))
end
section
variable {X : Cx} {a : Addr}
/-- a tuple of names takes a tuple's values -/
def gTupH (K : PySem.W.Frag) (a : Addr) (n : Nat) (t : TGs) : TG := fun v σ H Q => HotT H a ∧ gTup K n t v σ H Q
theorem pg_tupH {es : List Expr} {k : Nat} {t : TGs} {n : Nat} {pos : Pos} (hh : X.A.handled = some (.ref a)) (h : PGs X es t)
    (hn : (assignEach es X.env).length = n := by rfl) (hst : (assignEach es X.env).findIdx? (·.1) = none := by rfl) : PG X (.Tuple es k pos) (gTupH X.K a n t) :=
  ⟨fun pins s σ H v u Q I r hw => by
    obtain ⟨ht, p, xs, rfl, hq, hl, hw⟩ := hw
    cases r
    obtain ⟨its, rv, tp, hz⟩ := I.tuple hq
    rw [assign_Tuple]
    refine wpAny_bind (wpAny_standAt (unpack_hot (ht.hot hh I) tp (by simp [hn, ← hl, rv.length]) hst fun g eg => ?_))
    exact h.run pins _ σ H xs _ Q (I.kept (t' := s.toks) fun b o e => eg b o (Nat.ne_of_lt (Heap.lt_size e)) e) (by simpa using rv) hw⟩
/-- [elt for tg in l if ..], l a list, while the exception at a is handled: Pv by the turn -/
def tLcH (K : PySem.W.Frag) (a : Addr) (tl : TE) (g : TG) (tt : TT) (te : TE) (vs : List Nat) : TE := fun σ H Q => tl σ H fun x H1 => ∃ l xs, x = .ref l ∧ SqL K H1 l xs ∧ ∀ D, H1 D = none → ∃ Pv : Nat → Hp → Prop, Pv 0 (upd H1 D (.lst [])) ∧
  (∀ i G, Pv i G → HotT G a ∧ SqL K G l xs) ∧ (∀ G, Pv xs.length G → Q (.ref D) G) ∧ ∀ i y G, xs[i]? = some y → Pv i G → g y (wipe σ vs) G fun σ2 G2 => wipe σ2 vs = wipe σ vs ∧ tt σ2 G2 fun b G3 =>
    if b = true then te σ2 G3 fun z G4 => ∃ acc, G4 D = some (.lst acc) ∧ acc.length < sizeLine ∧ Pv (i + 1) (upd G4 D (.lst (acc ++ [z]))) else Pv (i + 1) G3
theorem lcH_core {pins : List (Addr × Obj)} {s : Shared} {σ : L2.St} {H : Hp} {Q : VK} {elt tg iter : Expr} {ifs : List Expr} {scope : Scope} {own : List (Str × Nat)} {pos pos' : Pos} {tl : TE} {g : TG} {tt : TT} {te : TE} {use : Option (Value → Sem Unit)} {Qf : Value → Shared → Prop}
    (hh : X.A.handled = some (.ref a)) (hN : X.N.Nodup) (I : Inv X pins σ H s) (hl : PE X iter tl) (ok : BlkOk X.N X.env.scope scope own)
    (hg : ∀ (s : Shared) (H : Hp) (C : Addr) (cl : List (Str × Addr)) (fp : List Addr), PG (X.blk s H scope (compEnvC scope cl C X.env) fp) tg g)
    (ht : ∀ (s : Shared) (H : Hp) (C : Addr) (cl : List (Str × Addr)) (fp : List Addr), PTs (X.blk s H scope (compEnvC scope cl C X.env) fp) ifs tt)
    (he : ∀ (s : Shared) (H : Hp) (C : Addr) (cl : List (Str × Addr)) (fp : List Addr), PE (X.blk s H scope (compEnvC scope cl C X.env) fp) elt te)
    (hs : ∀ x, foldedSetIterable iter X.env x = pure x) (h : tLcH X.K a tl g tt te (own.map (·.2)) σ H Q)
    (back : ∀ D C t m G, Inv X pins σ G t → Q (.ref D) G → t.heap.Ns C m → FpOk X pins G C → compPost (model X.prog X.w) X.A X.xe use Qf (.ref D) C (.ok .next) t) :
    wpAny (model X.prog X.w) X.A (comprehension (.ListComp elt [⟨tg, iter, ifs, 0⟩] scope pos) scope X.env pos' (newList []) false (eval iter X.env) use) Qf X.xe s := by
  have capt : ∀ y ∈ scope.names, y.2 = .free → ∃ c, X.env.cells.lookup y.1 = some c := fun y hy e => I.ok.has _ (ok.free y hy e)
  refine wpAny_comprehension_free (use := use) rfl hs (closure_ok capt) ok.kind (fun y hy e => by rw [ok.uniq y hy, e]) (thn (hl.run pins s σ H _ I h) fun lv s1 back1 => ?_)
  obtain ⟨x, H1, I1, r1, l, xs, rfl, hq, inv⟩ := back1
  cases r1
  obtain ⟨its, rv, pl, hz⟩ := I1.list hq
  refine wpAny_pyIter_list pl.isList ?_
  generalize eit : s1.heap.objs.size = it
  generalize es2 : ({ s1 with heap := s1.heap.push { cls := .type "list_iterator", data := .fields #[.ref l, .int 0 0] } } : Shared) = s2
  have at0 : s2.heap.IsListIter it l 0 := by subst es2 eit; exact ⟨_, Heap.get?_push_size _ rfl, rfl, rfl⟩
  have fit : FpOk X pins H1 it := by rw [← eit]; exact I1.fpOk (Nat.le_refl _) (I1.hok.fresh (Nat.le_refl _))
  have I2 : Inv X pins σ H1 s2 := by subst es2; exact I1.kept (t' := s1.toks) fun b o e => Heap.get?_push_of_some _ e
  have lt2 : it < s2.heap.objs.size := at0.elim fun o q => Heap.lt_size q.1
  refine wpAny_newObj_type (newEnv_comp ?_) (by show 0 ≤ sizeLine; decide)
  generalize eD : s2.heap.objs.size = D
  have nD : H1 D = none := I2.hok.fresh (Nat.le_of_eq eD)
  obtain ⟨Pv, p0, pk, pend, pstep⟩ := inv D nD
  generalize es3 : ({ s2 with heap := s2.heap.push { cls := .type "list", data := .seq ([] : List Value).toArray } } : Shared) = s3
  have I3 : Inv X pins σ (upd H1 D (.lst [])) s3 := by
    subst es3 eD
    exact I2.laid (t' := s2.toks) (fun b o e => Heap.get?_push_of_some _ e) (Nat.le_refl _) ⟨Nat.zero_le _, [], 0, .nil, Heap.get?_push_size _ rfl⟩
  have at3 : s3.heap.IsListIter it l 0 := at0.elim fun o q => by subst es3; exact ⟨o, Heap.get?_push_of_some _ q.1, q.2⟩
  have nit : it ≠ D := fun z => by rw [z, ← eD] at lt2; exact absurd lt2 (Nat.lt_irrefl _)
  have f3 : ∀ b ∈ [it], FpOk X pins (upd H1 D (.lst [])) b ∧ b < s3.heap.objs.size := fun b hb => by
    obtain rfl : b = it := by simpa using hb
    exact ⟨⟨by rw [upd_ne nit]; exact fit.1, fit.2⟩, at3.elim fun o q => Heap.lt_size q.1⟩
  have I4 := block_start I3 ok hN f3
  have kg := hg s3 (upd H1 D (.lst [])) s3.heap.objs.size (cellsFrom (s3.heap.objs.size + 1) scope.names (cloFrom X.env.cells scope.names [])) [it]
  have kt := ht s3 (upd H1 D (.lst [])) s3.heap.objs.size (cellsFrom (s3.heap.objs.size + 1) scope.names (cloFrom X.env.cells scope.names [])) [it]
  have ke := he s3 (upd H1 D (.lst [])) s3.heap.objs.size (cellsFrom (s3.heap.objs.size + 1) scope.names (cloFrom X.env.cells scope.names [])) [it]
  show codeAny _ _ (.compStart (.ListComp elt [⟨tg, iter, ifs, 0⟩] scope pos) 0 (.ref it) (.ref D) (compEnvC scope (cellsFrom (s3.heap.objs.size + 1) scope.names (cloFrom X.env.cells scope.names [])) s3.heap.objs.size X.env)) (compPost (model X.prog X.w) X.A X.xe use Qf (.ref D) s3.heap.objs.size) { s3 with heap := pushCells (s3.heap.push { cls := .type "dict", data := .dict #[] }) scope.names }
  generalize ece : compEnvC scope (cellsFrom (s3.heap.objs.size + 1) scope.names (cloFrom X.env.cells scope.names [])) s3.heap.objs.size X.env = ce at I4 kg kt ke ⊢
  have cl0 : ce.locals = s3.heap.objs.size := by subst ece; rfl
  generalize eH3 : upd H1 D (.lst []) = H3 at I3 I4 kg kt ke p0 f3
  generalize es4 : ({ s3 with heap := pushCells (s3.heap.push { cls := .type "dict", data := .dict #[] }) scope.names } : Shared) = s4 at I4 ⊢
  have at4 : s4.heap.IsListIter it l 0 := at3.elim fun o q => by subst es4; exact ⟨o, pushCells_keeps _ _ _ _ (Heap.get?_push_of_some _ q.1), q.2⟩
  have in1 : it ∈ [it] := List.mem_cons_self
  have fpB : ∀ {σ' : L2.St} {G : Hp} {t : Shared}, Inv (X.blk s3 H3 scope ce [it]) [] σ' G t → G it = none → FpOk (X.blk s3 H3 scope ce [it]) [] G it := fun J n =>
    ⟨n, (J.ok.exf it in1).1, J.ok.exfs it in1, .inl in1, fun y c e => (J.ok.exf it in1).2 y c e, fun p hp => absurd (show p ∈ ([] : List (Addr × Obj)) ++ [] from hp) (by simp)⟩
  have loop : codeAny (model X.prog X.w) X.A (.compLoop (.ListComp elt [⟨tg, iter, ifs, 0⟩] scope pos) 0 (.ref it) (.ref D) ce) (compPost (model X.prog X.w) X.A X.xe use Qf (.ref D) s3.heap.objs.size) s4 := by
    refine compLoop_any (fun n t => ∃ i G, n + i = xs.length ∧ Inv (X.blk s3 H3 scope ce [it]) [] (wipe σ (own.map (·.2))) G t ∧ t.heap.IsListIter it l i ∧ G it = none ∧ Pv i G) ?_ xs.length ⟨0, H3, rfl, I4, at4, (f3 it in1).1.1, p0⟩
    rintro n s5 ⟨i, G, ni, J, at5, n5, pv⟩
    obtain ⟨hot, hq5⟩ := pk i G pv
    obtain ⟨its5, rv5, pl5, _⟩ := J.list hq5
    obtain ⟨u0, u1, u2, u3, u4, u5⟩ := fpB J n5
    cases n with
    | zero =>
      obtain rfl : i = xs.length := by omega
      refine thnF (pyNext_list_end_hot (E := fun _ _ => False) (Q := fun r t => r = none ∧ Inv (X.blk s3 H3 scope ce [it]) [] (wipe σ (own.map (·.2))) G t) (hot.hot (X := X.blk s3 H3 scope ce [it]) hh J) at5 pl5.isList (by have := rv5.length; simp; omega) fun g eb => ⟨rfl, J.turned (t' := s5.toks) (fun b o hb e => eb b o hb e) u0 u1 u3 u4 u5⟩) fun r s6 ⟨hr, J6⟩ => ?_
      subst hr
      have I7 : Inv X pins σ G s6 := I3.call' (ch := [it]) J6.os J6.base J6.hok J6.bare fun b hb => ⟨(f3 b hb).1.2.2.2.1, (f3 b hb).1.2.1, (f3 b hb).1.2.2.2.2.1, (f3 b hb).1.2.2.2.2.2⟩
      have fC : G s3.heap.objs.size = none := by rw [← cl0]; exact J6.free
      obtain ⟨m, hm, _⟩ := J6.loc
      have hm : s6.heap.Ns ce.locals m := hm
      rw [cl0] at hm
      exact back D s3.heap.objs.size s6 m G I7 (pend G pv) hm (I3.fpOk (Nat.le_refl _) fC)
    | succ n =>
      obtain ⟨y, hy⟩ : ∃ y, xs[i]? = some y := ⟨xs[i]'(by omega), List.getElem?_eq_getElem (by omega)⟩
      obtain ⟨u, hu, ru⟩ := rv5.get hy
      refine wpAny_pyNext_list_item at5 pl5.isList (x := u) (by simpa using hu) fun g at6 sb => ?_
      have J6 : Inv (X.blk s3 H3 scope ce [it]) [] (wipe σ (own.map (·.2))) G { s5 with heap := g } := J.turned (t' := s5.toks) (fun b o hb e => (sb.2 b hb).trans e) u0 u1 u3 u4 u5
      obtain ⟨oi, ei, ci, di⟩ := id at6
      refine go_of (s := { s5 with heap := g }) ei ci di (by decide) ?_
      have nocell : ∀ b ∈ [it], ∃ o, ({ s5 with heap := g } : Shared).heap.get? b = some o ∧ ∀ v, o.data ≠ .cell v := fun b hb => by
        obtain rfl : b = it := by simpa using hb
        exact ⟨oi, ei, fun v z => by rw [di] at z; cases z⟩
      have fp6 : ∀ b ∈ [it], FpOk (X.blk s3 H3 scope ce [it]) [] G b := fun b hb => by
        obtain rfl : b = it := by simpa using hb
        exact fpB J6 n5
      refine thnF (kg.run _ _ _ G y u _ (J6.pinned fp6 nocell) ru (pstep i y G hy pv)) fun _ s8 back8 => ?_
      obtain ⟨σ8, G8, J8, w8, q8⟩ := back8
      refine thnF (kt.run _ s8 σ8 G8 _ J8 q8) fun b s9 back9 => ?_
      obtain ⟨G9, J9, q9⟩ := back9
      have turn : ∀ {t : Shared} {G' : Hp}, Inv (X.blk s3 H3 scope ce [it]) ([] ++ pinsAt [it] ({ s5 with heap := g } : Shared).heap) σ8 G' t → Pv (i + 1) G' →
          ∃ m, m < n + 1 ∧ ∃ j G, m + j = xs.length ∧ Inv (X.blk s3 H3 scope ce [it]) [] (wipe σ (own.map (·.2))) G t ∧ t.heap.IsListIter it l j ∧ G it = none ∧ Pv j G := fun {t G'} Jt pt => by
        have z := Jt.pin (it, oi) (List.mem_append_right _ (List.mem_append_right _ (mem_pinsAt in1 ei)))
        refine ⟨n, Nat.lt_succ_self n, i + 1, G', by omega, (Jt.unpinned (pins := [])).weak (by rw [← w8, wipe_length]) (fun j v e => ?_), ⟨oi, z.1, ci, di⟩, z.2.1, pt⟩
        rw [← w8] at e
        exact (wipe_some e).1
      cases b with
      | false =>
        simp only [Bool.false_eq_true, if_false] at q9 ⊢
        exact turn J9 q9
      | true =>
        simp only [if_true] at q9 ⊢
        refine thnF (ke.run _ s9 σ8 G9 _ J9 q9) fun z s10 back10 => ?_
        obtain ⟨yv, G10, J10, r10, acc, hD10, hz10, nx⟩ := back10
        exact app_ok (X := X.blk s3 H3 scope ce [it]) J10 hD10 hz10 r10 fun s11 J11 => turn J11 nx
  exact codeAny_compStart_list loop (wpAny_pyIter_listiter at4 loop)
theorem pe_lcH {elt tg iter : Expr} {ifs : List Expr} {scope : Scope} {own : List (Str × Nat)} {pos : Pos} {tl : TE} {g : TG} {tt : TT} {te : TE} (hh : X.A.handled = some (.ref a)) (hN : X.N.Nodup) (hl : PE X iter tl) (ok : BlkOk X.N X.env.scope scope own)
    (hg : ∀ (s : Shared) (H : Hp) (C : Addr) (cl : List (Str × Addr)) (fp : List Addr), PG (X.blk s H scope (compEnvC scope cl C X.env) fp) tg g)
    (ht : ∀ (s : Shared) (H : Hp) (C : Addr) (cl : List (Str × Addr)) (fp : List Addr), PTs (X.blk s H scope (compEnvC scope cl C X.env) fp) ifs tt)
    (he : ∀ (s : Shared) (H : Hp) (C : Addr) (cl : List (Str × Addr)) (fp : List Addr), PE (X.blk s H scope (compEnvC scope cl C X.env) fp) elt te)
    (hs : ∀ x, foldedSetIterable iter X.env x = pure x := by intro _; rfl) : PE X (.ListComp elt [⟨tg, iter, ifs, 0⟩] scope pos) (tLcH X.K a tl g tt te (own.map (·.2))) := by
  refine ⟨fun pins s σ H Q I h => ?_⟩
  rw [eval_ListComp]
  refine lcH_core hh hN I hl ok hg ht he hs h fun D C t m G J q hm f => ⟨m, hm, fun gp sb => ?_⟩
  obtain ⟨e0, e1, e2, e3, e4, e5⟩ := f
  exact ⟨.ref D, G, J.turned (t' := t.toks) (fun b o hb e => (sb.2 b hb).trans e) e0 e1 e3 e4 e5, rfl, q⟩
/-- name = [..] on one line -/
theorem ps_setLcH {i : Nat} {y : Str} {py : Pos} {elt tg iter : Expr} {ifs : List Expr} {scope : Scope} {own : List (Str × Nat)} {pos spos : Pos} {tl : TE} {g : TG} {tt : TT} {te : TE} (hh : X.A.handled = some (.ref a)) (hN : X.N.Nodup) (hy : X.N[i]? = some y) (hyl : X.env.scope.names.lookup y = some .local)
    (hsw : swapsWith (.ListComp elt [⟨tg, iter, ifs, 0⟩] scope pos) (some (.Name y py)) spos.line X.env = pure true) (hl : PE X iter tl) (ok : BlkOk X.N X.env.scope scope own)
    (hg : ∀ (s : Shared) (H : Hp) (C : Addr) (cl : List (Str × Addr)) (fp : List Addr), PG (X.blk s H scope (compEnvC scope cl C X.env) fp) tg g)
    (ht : ∀ (s : Shared) (H : Hp) (C : Addr) (cl : List (Str × Addr)) (fp : List Addr), PTs (X.blk s H scope (compEnvC scope cl C X.env) fp) ifs tt)
    (he : ∀ (s : Shared) (H : Hp) (C : Addr) (cl : List (Str × Addr)) (fp : List Addr), PE (X.blk s H scope (compEnvC scope cl C X.env) fp) elt te)
    (hs : ∀ x, foldedSetIterable iter X.env x = pure x := by intro _; rfl) : PS X (.Assign [.Name y py] (.ListComp elt [⟨tg, iter, ifs, 0⟩] scope pos) spos) (tAsg (tLcH X.K a tl g tt te (own.map (·.2))) (gName i)) := by
  refine ⟨fun pins s σ H D I h => ?_⟩
  rw [exec_Assign_Name_used _ _ _ _ hsw]
  have h : tLcH X.K a tl g tt te (own.map (·.2)) σ H (fun x H1 => gName i x σ H1 D.nx) := h
  refine wpAny_bind (wpAny_standAt (wpAny_bind ?_))
  show wpAny _ X.A (do let _ ← comprehension (.ListComp elt [⟨tg, iter, ifs, 0⟩] scope pos) scope X.env (firstIterPos [⟨tg, iter, ifs, 0⟩] pos) (newList []) false (eval iter X.env) (some (assign (.Name y py) X.env))) _ _ s
  refine wpAny_bind (thn (lcH_core (Qf := fun _ t => SP X pins D .next t) hh hN I hl ok hg ht he hs h fun L C t m G J q hm f => ?_) fun _ t hq => wpAny_pure (wpAny_pure hq))
  obtain ⟨e0, e1, e2, e3, e4, e5⟩ := f
  show wpAny _ _ (assign (.Name y py) X.env (.ref L)) _ _ _
  refine wpAny_assign_Name (store_ok2 (v := V.ref L) J hN hy (.inl hyl) rfl (fun t2 J2 ⟨b, sb, hb⟩ => ?_) (.inr hyl))
  have apart : C ≠ b := by
    rcases hb with z | z
    · rw [z]; exact e1
    · exact fun e => e4 y b z e.symm
  exact ⟨m, hm.sameBut sb apart, fun gp sb3 => ⟨_, G, J2.turned (t' := t2.toks) (fun b o hb e => (sb3.2 b hb).trans e) e0 e1 e3 e4 e5, q⟩⟩
end
end Cc

set_option Elab.async false
set_option linter.all false
set_option maxRecDepth 100000
set_option maxHeartbeats 4000000
/-! A def called of the handled exception in its suite; the def raises nothing, but may walk iterators to their end. -/
namespace Cc
open PySem PySem.Spec PyProof.Rows L2
/-- as wTrkA, the suite knows where the exception stands -/
def wTrkA (K : PySem.W.Frag) (c : Value) (i : Nat) (ts : Addr → TS) (Wout : WX) (D : Ends) : WX := fun cls d σ H => ∃ yes, PySem.W.exmOne K cls c = some yes ∧
  (yes = true → ∀ a, H a = none → ts a { nx := fun σ2 H2 => D.nx (σ2.set i none) H2, rt := D.rt, bk := fun σ2 H2 => D.bk (σ2.set i none) H2, ct := fun σ2 H2 => D.ct (σ2.set i none) H2 } (σ.set i (some (.ref a))) (upd H a (exT a cls d))) ∧
  (yes = false → Wout cls d σ H)
section
variable {X : Cx} {x n : Str} {c : Value} {i : Nat} {body suite : List Stmt} {st : Stmt} {p1 p2 p3 : Pos} {tb : WX → TS} {ts : Addr → TS} {Wout : WX} {pins : List (Addr × Obj)} {σ : L2.St} {H : Hp}
/-- the exception has come to the clauses: h stands above sI -/
theorem caughtAtA {W' : Value → Shared → Prop} {u : Value} {s' : Shared} (hs : X.stack = X.env :: X.outer) (hf : X.env.frame = some X.env.locals) (hex : X.ex = []) (hc : Names X x c) (hN : X.N.Nodup) (hi : X.N[i]? = some n) (hln : X.env.kindOf n = some .local) (tk : L2N.Takes X Wout)
    (hsu : ∀ (a : Addr) (pn : List (Addr × Obj)), PSs (X.suite a pn) (st :: suite) (ts a)) (ok : X.Ok) (D : Ends) (xx : L2N.XE (X.tr (X.pn ++ pins) W') (wTrkA X.K c i ts Wout D) u s') :
    wpAny (model X.prog X.w) X.A (noteFrame u X.env) (fun _ s₂ => wpAny (model X.prog X.w) X.A (setFlight u none) (fun _ s₃ =>
      wpAny (model X.prog X.w) X.A (handleBy u X.env [.ExceptHandler (some (.Name x p1)) (some n) (st :: suite) p2]) (SP X pins D) X.xe s₃) X.xe s₂) X.xe s' := by
  have frm : X.A.frames = some (X.env :: X.outer) := hs ▸ ok.frames
  obtain ⟨a, B, sI, pins1, σ1, H1, cls, d, rfl, I1, nb, up, sky, na, os, ag, yes, em, onYes, onNo⟩ := xx
  have I : Inv X pins σ1 H1 sI := I1.ofTry ok
  refine L2N.Sky.land L2N.Zn.steady frm hf (by rw [← hs]; exact sky) fun g1 fly1 up1 => ?_
  obtain ⟨o1, vs1, ho1, hz1, hd1⟩ := fly1.there
  have offStack : a ∉ frs (X.env :: X.outer) := fun hm => by
    obtain ⟨_, o', e', hnf⟩ := fly1.2.2.1.mem hm
    rw [ho1] at e'
    cases e'
    exact hnf _ hd1
  have fresh : sI.heap.get? a = none := by
    cases e : sI.heap.get? a with
    | none => rfl
    | some z =>
      have h := nb a z e (by show a ∉ frs X.stack; rw [hs]; exact offStack)
      rw [fly1.2.1] at h
      cases h
  have land : ∀ {g : Heap}, HandSPX.FlyingZ B (X.env :: X.outer) a (L2N.Zn cls d) g → sI.heap.UpToSlots g → Inv X pins σ1 (upd H1 a (exT a cls d)) { s' with heap := g } := fun {g} fly upg => by
    obtain ⟨o, vs, ho, hz, hd⟩ := fly.there
    exact track I (I.landed nb fly.1 upg os ag) fresh na hex (exT_ok ho hz hd)
  have T1 := inSuite a (land fly1 (up.trans up1))
  refine wpAny_handleBy_cons (codeAny_handlers_test ?_) (fun q => nomatch q)
  have ty : PySem.W.Looks (model X.prog X.w) g1 (typeOf (.ref a)) cls := fun A Q E s k q => wpAny_typeOf_ref (k _ _ ho1) (by rw [hz1.1]; exact q)
  have hit := PySem.W.exm_one (M := model X.prog X.w) (land fly1 (up.trans up1)).kIn ty em
  have cl : ∀ {Q : Value → Shared → Prop} {E : Value → Shared → Prop}, Q c { s' with heap := g1 } → wpAny (model X.prog X.w) (X.A.mark (some (.ref a))) (eval (.Name x p1) X.env) Q E { s' with heap := g1 } := fun {Q E} q => by
    obtain ⟨hg, hdbg, hm | ⟨hm, hv, hnn⟩⟩ := hc
    · exact ld_glob (X := X.suite a (X.pn ++ pins)) T1 hg hm q hdbg
    · exact ld_blt (X := X.suite a (X.pn ++ pins)) T1 hg hm hv q hnn hdbg
  refine cl (hit.here ?_)
  cases yes with
  | true =>
    refine codeAny_handlers_suite_as (HandSPX.lands_againZ fly1 fun g2 fly2 up2 => ?_)
    have T2 := inSuite a (land fly2 ((up.trans up1).trans up2))
    refine store_ok (X := X.suite a (X.pn ++ pins)) (v := .ref a) T2 hN hi (.inl hln) rfl (fun s3 T3 => ?_) (.inr hln)
    have away : ∀ {σ6 : L2.St} {H6 : Hp} {s6 : Shared} {Q : Shared → Prop}, Inv (X.suite a (X.pn ++ pins)) [] σ6 H6 s6 → (∀ s7, Inv X pins (σ6.set i none) H6 s7 → Q s7) →
        wpAny (model X.prog X.w) X.A (do bindName X.env n .none; unbindBehindTheSuite X.env n p2) (fun _ s7 => Q s7) X.xe s6 := fun T q => gone_ok (outSuite ok T) hN hi hln q
    refine wpAny_mono ((hsu a (X.pn ++ pins)).run [] s3 _ _ _ T3 (onYes rfl a na)) (fun f s4 r => ?_) (fun _ _ z => False.elim z)
    cases f with
    | next => obtain ⟨_, _, T4, q⟩ := r; exact away T4 fun _ J => ⟨_, _, J, q⟩
    | brk => obtain ⟨_, _, T4, q⟩ := r; exact away T4 fun _ J => ⟨_, _, J, q⟩
    | cont => obtain ⟨_, _, T4, q⟩ := r; exact away T4 fun _ J => ⟨_, _, J, q⟩
    | ret u => obtain ⟨_, _, _, T4, rv, q⟩ := r; exact away T4 fun _ J => ⟨_, _, _, J, rv, q⟩
  | false =>
    show wpAny _ X.A (handleBy (.ref a) X.env []) _ _ _
    refine wpAny_handleBy_nil ?_
    obtain ⟨_, _, _, o, vs, T, oT, ts', he, hz, hd, h1, _⟩ := id fly1
    unfold PySem.passOn
    refine wpAny_bind (wpAny_field he hd h1 ?_)
    rw [if_neg (show ¬ ((Value.ref T == Value.none) = true) from by simp)]
    have up_ : wpAny (model X.prog X.w) X.A (setFlight (.ref a) X.env.frame) (fun _ s4 => wpAny (model X.prog X.w) X.A (throw (.ref a) : Sem Flow) (SP X pins D) X.xe s4) X.xe { s' with heap := g1 } := by
      rw [hf]
      exact HandSPX.setFlight_upZ fly1 fun g2 held up2 => wpAny_throw (tk _ _ ⟨a, B, sI, pins, σ1, H1, cls, d, rfl, I, nb, (up.trans up1).trans up2, .inr (.inr (by rw [hs]; exact held)), na, os, ag, onNo rfl⟩)
    first
      | exact wpAny_bind (wpAny_pure (wpAny_bind up_))
      | exact wpAny_bind up_
theorem ps_trkA (hs : X.stack = X.env :: X.outer) (hf : X.env.frame = some X.env.locals) (hex : X.ex = []) (hN : X.N.Nodup) (hi : X.N[i]? = some n) (hln : X.env.kindOf n = some .local) (hc : Names X x c) (tk : L2N.Takes X Wout)
    (hb : ∀ (W : WX) (pn : List (Addr × Obj)) (xe : Value → Shared → Prop), L2N.Takes (X.tr pn xe) W → PassesOwn (model X.prog X.w) X.A X.env xe → PSs (X.tr pn xe) body (tb W))
    (hsu : ∀ (a : Addr) (pn : List (Addr × Obj)), PSs (X.suite a pn) (st :: suite) (ts a)) :
    PS X (.Try body [.ExceptHandler (some (.Name x p1)) (some n) (st :: suite) p2] [] [] p3) (fun D σ H => tb (wTrkA X.K c i ts Wout D) D σ H) := by
  refine ⟨fun pins s σ H D I h => wpAny_Try_except ?_⟩
  have ok := I.ok
  refine wpAny_mono ((hb (wTrkA X.K c i ts Wout D) (X.pn ++ pins) _ (fun u s' xx => caughtAtA (p1 := p1) (p2 := p2) hs hf hex hc hN hi hln tk hsu ok D xx) PassesOwn.looking).run [] s σ H D (I.toTry _) h) (fun f s1 r => ?_) (fun _ _ z => z)
  cases f with
  | next => obtain ⟨_, _, T, q⟩ := r; exact wpAny_execs_nil ⟨_, _, T.ofTry ok, q⟩
  | brk => obtain ⟨_, _, T, q⟩ := r; exact ⟨_, _, T.ofTry ok, q⟩
  | cont => obtain ⟨_, _, T, q⟩ := r; exact ⟨_, _, T.ofTry ok, q⟩
  | ret u => obtain ⟨_, _, _, T, rv, q⟩ := r; exact ⟨_, _, _, T.ofTry ok, rv, q⟩
end
abbrev SpA := Addr → Hp → VK → Prop
/-- what a def keeps that is called of the exception at a, where that one is handled -/
structure FnA (P : Program) (w : World) (K : PySem.W.Frag) (mg : Str → Option Value) (base : Heap) (k : Nat) (f : Addr) (fd : FuncData) (n : Str) (sp : SpA) : Prop where
  goes : ∀ (A : Around) (a : Addr), A.handled = some (.ref a) → Room k (quiet A) → ∀ (outer : List Env) (s : Shared) (H : Hp), Env0 P w K mg base A outer s H → ∀ (args : Args) (Q : VK),
    BindsTo s fd args [(n, Value.ref a)] → sp a H Q → codeAny (model P w) A (.call (.ref f) args) (CR CX0 outer P w H s Q fun _ _ _ => False) s
def PrA (P : Program) (w : World) (K : PySem.W.Frag) (mg : Str → Option Value) (base : Heap) (k : Nat) (x n : Str) (sp : SpA) : Prop :=
  ∃ f fd, FnA P w K mg base k f fd n sp ∧ mg x = some (.ref f) ∧ PySem.W.keepIn K (.ref f) = true ∧ Binds K fd [n] []
section
variable {P : Program} {w : World} {K : PySem.W.Frag} {mg : Str → Option Value} {base : Heap} {k : Nat} {f : Addr} {fd : FuncData} {N : List Str} {n : Str} {sp : SpA}
theorem defA {x qual : Str} {st : Stmt} (F : Fun K x qual st f fd) (S : FnScope N [n] (defScope st))
    (hbody : ∀ (cdv : Value) (A : Around) (outer : List Env) (s : Shared) (H : Hp) (Q : VK) (a : Addr), sp a H Q →
      ∃ t, PSs ((cxOf CX0 P w K mg base N qual (defScope st) f cdv A outer s H fun _ _ _ => False).suite a []) (defBody st) t ∧ t { nx := fun _ H' => Q .non H', rt := Q } (start N [.ref a]) H) :
    FnA P w K mg base (k + 1) f fd n sp := by
  obtain ⟨oc, od, kV, doc, pm, an, cdv, ct, osl, rfl, lk, hcd⟩ := F.ex
  refine ⟨fun A a ha hr outer s H e1 args Q hb hs => ?_⟩
  have e0 := env_quiet e1
  have inK : K.In s.heap := e0.mod.kin.keeps fun b o e => (e0.bs b o e).1
  refine codeAny_call_function hr.depth (inK _ _ lk) rfl S.co S.gen rfl (PySem.W.codeRec_of inK hcd) (hb _ _ _ _ ?_)
  have kinds : ∀ y ∈ [n].zip [Value.ref a], (defScope st).names.lookup y.1 = some .local ∨ ((defScope st).names.lookup y.1 = some .cell ∧ ((cellsFrom (s.heap.objs.size + 1) (defScope st).names []).lookup y.1).isSome = true) := by
    intro y hy
    obtain ⟨m, v⟩ := y
    cases S.par m (List.of_mem_zip hy).1 with
    | inl q => exact .inl q
    | inr q => exact .inr ⟨q, PySem.W.cellsFrom_some _ _ _ (.inl q)⟩
  refine wpAny_newFunctionEnv_cells S.kind kinds fun env he s1 x => ?_
  cases he
  have lim : s.heap.NoLimit := e0.mod.nolimit.keeps fun b o e => (e0.bs b o e).1
  refine ⟨lim.keeps x.toInCall.keep, codeAny_func ?_⟩
  obtain ⟨t, ht, hq⟩ := hbody cdv (quiet A) outer s H Q a hs
  have rv : Vals [V.ref a] [Value.ref a] := .cons rfl .nil
  have J : Inv (cxOf CX0 P w K mg base N qual (defScope st) f cdv (quiet A) outer s H fun _ _ _ => False) [] (start N [.ref a]) H s1 := inv_start S rfl e0 rfl rv x
  have run := ht.run [] s1 (start N [.ref a]) H _ (inSuite a J) hq
  rw [show ((cxOf CX0 P w K mg base N qual (defScope st) f cdv (quiet A) outer s H fun _ _ _ => False).suite a []).A = A.deeper (envOfC qual (defScope st) s.heap.objs.size f cdv) from quiet_back ha] at run
  refine wpAny_mono run (fun fl s' hs => ?_) fun _ _ h => h.elim
  cases fl with
  | next =>
    obtain ⟨σ', H', J, q⟩ := hs
    exact ce_of (v := V.non) (u := Value.none) J rfl rfl rfl rfl rfl rfl rfl q
  | ret u =>
    obtain ⟨v, σ', H', J, rv', q⟩ := hs
    exact ce_of J rfl rfl rfl rfl rfl rfl rv' q
  | brk =>
    obtain ⟨_, _, _, q⟩ := hs
    exact False.elim q
  | cont =>
    obtain ⟨_, _, _, q⟩ := hs
    exact False.elim q
theorem mkFA {x : Str} {st : Stmt} (T : Tx K mg x st) (S : FnScope N [n] (defScope st))
    (bi : ∀ (kV doc pm : Value) (an : Option Addr) (cdv ct : Value) (us : List Value), us.length = [n].length → bindArgs (PySem.W.fnOf x x (defArgs st) (defBody st) (defScope st) .none kV doc pm an cdv ct) ⟨us, []⟩ = pure ([n].zip us))
    (hbody : ∀ (f : Addr) (cdv : Value) (A : Around) (outer : List Env) (s : Shared) (H : Hp) (Q : VK) (a : Addr), sp a H Q →
      ∃ t, PSs ((cxOf CX0 P w K mg base N x (defScope st) f cdv A outer s H fun _ _ _ => False).suite a []) (defBody st) t ∧ t { nx := fun _ H' => Q .non H', rt := Q } (start N [.ref a]) H) :
    PrA P w K mg base (k + 1) x n sp := by
  obtain ⟨f, fd, F, g⟩ := T
  exact ⟨f, fd, defA F S (hbody f), g, F.kp, F.binds bi⟩
end
section
variable {X : Cx} {j k : Nat} {sp : SpA} {x n : Str} {p pos : Pos} {e : Expr} {t : TA} {a : Addr}
def tCallA (sp : SpA) (a : Addr) (t : TA) : TE := fun σ H Q => t σ H fun vs H2 => vs = [.ref a] ∧ sp a H2 Q
/-- f(e) in the suite -/
theorem pe_A (h : PrA X.prog X.w X.K X.mg X.base j x n sp) (hr : Room k (quiet X.A)) (hh : X.A.handled = some (.ref a)) (hg : Gl X x) (ha : PA X [e] t) (hj : j ≤ k := by decide)
    (hdb : (x == ("__debug__" : Str)) = false := by decide) (he : starEach [e] X.env = (false, eval e X.env) :: starEach [] X.env := by rfl) (hpl : (backTo pos (starEach [] X.env)).any (·.1) = false := by rfl) :
    PE X (.Call (.Name x p) [e] [] pos) (tCallA sp a t) := by
  obtain ⟨f, fd, F, hm, hk, hb⟩ := h
  refine ⟨fun pins s σ H Q I h => wpAny_Call_Name_kw (ld_glob I hg hm (PySem.W.callWith_K (h₀ := X.base) I.ok.mod.kin hk (thn (ha.run pos pins s σ H _ I h) fun us s1 ⟨vs, H1, I1, r, q⟩ => ⟨I1.kIn, ?_⟩) he hpl) hdb)⟩
  obtain ⟨rfl, q⟩ := q
  cases r with
  | @cons _ u _ us ru rr =>
    cases rr
    obtain rfl : u = Value.ref a := ru
    have b := hb s1 [Value.ref a] I1.kIn rfl
    rw [List.append_nil] at b
    refine wpAny_call (codeAny_mono (F.goes X.A a hh (hr.mono hj) X.stack s1 H1 I1.env0 ⟨[Value.ref a], []⟩ Q b q) fun r s' hq => ?_)
    match r, hq with
    | .error e, hq => exact hq.elim
    | .ok (.ret u), hq => exact I1.after hq
    | .ok .next, hq => exact hq.elim
    | .ok .brk, hq => exact hq.elim
    | .ok .cont, hq => exact hq.elim
end
/-! ### try: body, except C as n: j = f(n) -/
section
variable {Γ : Gx} {f : Fr} {F H G : Hp} {σ : L2.St} {ρ : List Sl}
/-- the heap has grown -/
theorem Ent.grow (E : Ent Γ f F H σ ρ) (s : Same H G) : Ent Γ f F G σ ρ := by
  have liv : ∀ b, G b = none → H b = none := fun b e => by
    cases h : H b with
    | none => rfl
    | some o => rw [s _ _ h] at e; cases e
  refine ⟨E.s0, E.s1.trans s, E.new, fun b u e m => s _ _ (E.chg b u e m), fun b e => E.liv b (liv b e), E.len, fun i t hi => (E.sl i t hi).more (Same.refl _) (fun a ha ⟨ds, hs⟩ => ?_) (fun b o _ e => s _ _ e), E.dis, E.rm, E.rF, fun b hb z => E.rl b hb (liv b z), E.ro, E.ml, E.cl⟩
  subst hs
  obtain ⟨a', xs, e1, e2, _, e4, _⟩ := E.sl i _ hi
  rw [ha] at e1
  cases e1
  exact ⟨e4, fun o q => s _ _ q⟩
/-- the answer is a new list of a word, the exception's value and True -/
def spErrA (K : PySem.W.Frag) (C : Nat → Addr) (ok : Nat → Prop) (nm : Nat → Str) : SpA := fun a H Q => ∃ (c : Nat) (dx : Addr) (v : V), ok c ∧ H a = some (exT a (.ref (C c)) (some dx)) ∧ H dx = some (.xd [("value", v)]) ∧
  ∀ H' p, Same H H' → H p = none → H' p = some (.lst [.str (nm c), v, .bl true]) → Q (.ref p) H'
def sTryA (yes : Nat → Bool) (i j : Nat) (ok : Nat → Prop) (nm : Nat → Str) (k : SS) : SS := fun ρ P => k ρ { P with ex := fun c d ρ1 => if yes c = true then i < ρ1.length ∧ ok c ∧ P.nx (((ρ1.set i (.a (.exc c d))).set j (.a (.d (.list [.str (nm c), d, .bool true])))).set i .un) else P.ex c d ρ1 }
theorem den_tryA {W : WX} {yes : Nat → Bool} {cl : Value} {i j : Nat} {ok : Nat → Prop} {nm : Nat → Str} {tb : WX → TS} {k : SS} (hy : ∀ c, PySem.W.exmOne Γ.K (.ref (Γ.C c)) cl = some (yes c)) (hb : ∀ W', DenS Γ W' (tb W') k) :
    DenS Γ W (fun D σ H => tb (wTrkA Γ.K cl i (fun a => tAsg (tCallA (spErrA Γ.K Γ.C ok nm) a (tCons (tVar i) tNil)) (gName j)) W D) D σ H) (sTryA yes i j ok nm k) := fun f F H σ ρ P D E q o => by
  refine hb _ (f.from σ ρ F H) F H σ ρ { P with ex := fun c d ρ1 => if yes c = true then i < ρ1.length ∧ ok c ∧ P.nx (((ρ1.set i (.a (.exc c d))).set j (.a (.d (.list [.str (nm c), d, .bool true])))).set i .un) else P.ex c d ρ1 } D E.self q
    ⟨fun σ1 ρ1 F1 H1 q1 E1 s1 => o.nx σ1 ρ1 F1 H1 q1 (E.trans E1) s1, fun x σ1 ρ1 F1 H1 v q1 E1 s1 r => o.rt x σ1 ρ1 F1 H1 v q1 (E.trans E1) s1 r, fun σ1 ρ1 F1 H1 q1 E1 s1 => o.bk σ1 ρ1 F1 H1 q1 (E.trans E1) s1, fun σ1 ρ1 F1 H1 q1 E1 s1 => o.ct σ1 ρ1 F1 H1 q1 (E.trans E1) s1, fun σ1 c d ρ1 F1 H1 dx v q1 E1' h1 h2 => ?_⟩
  have E1 := E.trans E1'
  have s01 : Same F F1 := E1'.s0
  have q1 : if yes c = true then i < ρ1.length ∧ ok c ∧ P.nx (((ρ1.set i (.a (.exc c d))).set j (.a (.d (.list [.str (nm c), d, .bool true])))).set i .un) else P.ex c d ρ1 := q1
  refine ⟨yes c, hy c, fun hyes a na => ?_, fun hno => ?_⟩
  · rw [if_pos hyes] at q1
    obtain ⟨hi, hok, q1⟩ := q1
    have nF := E1.fnone na
    have sF := same_updF (o := exT a (.ref (Γ.C c)) (some dx)) nF
    have hdx : upd F1 a (exT a (.ref (Γ.C c)) (some dx)) dx = some (.xd [("value", v)]) := by rw [upd_ne (ne_of_none h1 nF)]; exact h1
    have E2 := (E1.alloc (o := exT a (.ref (Γ.C c)) (some dx)) na).setA (i := i) (x := .exc c d) (v := .ref a) ⟨a, dx, v, rfl, upd_same, hdx, Dq.same sF d h2⟩
    have hl : i < σ1.length := by rw [E1.len]; exact hi
    refine ⟨.ref a, by rw [List.getElem?_set_self hl], rfl, c, dx, v, hok, upd_same, E2.s1 _ _ hdx, fun H3 p s3 np hp => ?_⟩
    have nFp := E2.fnone np
    have h0p := E2.liv p np
    have E3 := (E2.grow s3).fz nFp hp (.inl h0p) (E2.notOwn np) (fun z => E2.rl p z np)
    have sP := same_updF (o := .lst [V.str (nm c), v, V.bl true]) nFp
    have E4 := E3.setA (i := j) (x := .d (.list [.str (nm c), d, .bool true])) (v := .ref p) (.lst upd_same (.cons (.str _) (.cons (Dq.same sP d (Dq.same sF d h2)) (.cons (.bl true) .nil))))
    exact o.nx _ _ _ _ q1 E4.setU ((s01.trans sF).trans sP)
  · rw [hno, if_neg (by decide)] at q1
    exact o.ex σ1 c d ρ1 F1 H1 dx v q1 E1 h1 h2
theorem ds_tryA {X : Cx} {W : WX} {body suite : List Stmt} {st : Stmt} {yes : Nat → Bool} {cl : Value} {i j : Nat} {ok : Nat → Prop} {nm : Nat → Str} {tb : WX → TS} {k : SS} (hy : ∀ c, PySem.W.exmOne Γ.K (.ref (Γ.C c)) cl = some (yes c)) (hT : TryX X)
    (hpe : (∀ (W : WX) (pn : List (Addr × Obj)) (xe : Value → Shared → Prop), L2N.Takes (X.tr pn xe) W → PassesOwn (model X.prog X.w) X.A X.env xe → PSs (X.tr pn xe) body (tb W)) →
      (∀ (a : Addr) (pn : List (Addr × Obj)), PSs (X.suite a pn) suite (tAsg (tCallA (spErrA Γ.K Γ.C ok nm) a (tCons (tVar i) tNil)) (gName j))) →
      PS X st (fun D σ H => tb (wTrkA Γ.K cl i (fun a => tAsg (tCallA (spErrA Γ.K Γ.C ok nm) a (tCons (tVar i) tNil)) (gName j)) W D) D σ H))
    (hb : ∀ (W : WX) (pn : List (Addr × Obj)) (xe : Value → Shared → Prop), L2N.Takes (X.tr pn xe) W → PassesOwn (model X.prog X.w) X.A X.env xe → DSs Γ (X.tr pn xe) W body (tb W) k)
    (hs : ∀ (a : Addr) (pn : List (Addr × Obj)), PSs (X.suite a pn) suite (tAsg (tCallA (spErrA Γ.K Γ.C ok nm) a (tCons (tVar i) tNil)) (gName j))) :
    DS Γ X W st (fun D σ H => tb (wTrkA Γ.K cl i (fun a => tAsg (tCallA (spErrA Γ.K Γ.C ok nm) a (tCons (tVar i) tNil)) (gName j)) W D) D σ H) (sTryA yes i j ok nm k) := by
  obtain ⟨pn, xe, h1, h2⟩ := hT
  exact ⟨hpe (fun W pn xe tk po => (hb W pn xe tk po).1) hs, den_tryA hy fun W' => (hb W' pn xe (h1 W') h2).2⟩
theorem y_tryA {yes : Nat → Bool} {i j : Nat} {ok : Nat → Prop} {nm : Nat → Str} {k : SS} {ρ : List Sl} {P : EndsP} : sTryA yes i j ok nm k ρ P ↔ k ρ { P with ex := fun c d ρ1 => if yes c = true then i < ρ1.length ∧ ok c ∧ P.nx (((ρ1.set i (.a (.exc c d))).set j (.a (.d (.list [.str (nm c), d, .bool true])))).set i .un) else P.ex c d ρ1 } := Iff.rfl
end
end Cc



set_option Elab.async false
set_option linter.all false
set_option maxRecDepth 100000
set_option maxHeartbeats 4000000
namespace Cc
open PySem PySem.Spec PyProof.Rows L2
def topS (i : Nat) : Stmt := PySem.Challenge.pw_castchains_k04_errors_of_steps.main.body.getD i (.Pass ⟨0, 0, 0, 0⟩)
abbrev s_law_rng : Stmt := topS 19
theorem sc_law_rng : FnScope ["script", "digits", "seed", "cell", "far"] ["script"] (defScope s_law_rng) := ⟨rfl, rfl, rfl, by decide +kernel, rfl, by decide +kernel, by decide +kernel⟩
abbrev s_law_draw : Stmt := topS 20
theorem sc_law_draw : FnScope ["rng", "limit", "found", "mixed"] ["rng", "limit"] (defScope s_law_draw) := ⟨rfl, rfl, rfl, by decide +kernel, rfl, by decide +kernel, by decide +kernel⟩
section
variable {P : Program} {w : World} {K : PySem.W.Frag} {mg : Str → Option Value} {base : Heap}
/-- the draws' list at r: what is left of the digits, the seed, how many draws were made (at most n) -/
def RngAt (H : Hp) (r : Addr) (n : Nat) : Prop := ∃ d s c : Int, H r = some (.lst [.int d, .int s, .int c]) ∧ 0 ≤ d ∧ d < 10 ^ 3780 ∧ 0 ≤ s ∧ s < 2305843009213693951 ∧ 0 ≤ c ∧ c ≤ n
/-- all but r stands -/
def Oth (r : Addr) (H H' : Hp) : Prop := ∀ b o, b ≠ r → H b = some o → H' b = some o
theorem Oth.refl (r : Addr) (H : Hp) : Oth r H H := fun _ _ _ e => e
theorem Oth.trans {r : Addr} {H H1 H2 : Hp} (a : Oth r H H1) (b : Oth r H1 H2) : Oth r H H2 := fun c o hc e => b c o hc (a c o hc e)
theorem Oth.same {r : Addr} {H H' : Hp} (e : Same H H') : Oth r H H' := fun b o _ h => e b o h
theorem Oth.new {r : Addr} {H : Hp} {p : Addr} {o : HO} (h : H p = none) : Oth r H (upd H p o) := Oth.same (same_new h)
theorem RngAt.same {H H' : Hp} {r : Addr} {n : Nat} (R : RngAt H r n) (e : Same H H') : RngAt H' r n := by
  obtain ⟨d, s, c, h, q⟩ := R
  exact ⟨d, s, c, e _ _ h, q⟩
theorem RngAt.new {H : Hp} {r p : Addr} {o : HO} {n : Nat} (R : RngAt H r n) (h : H p = none) : RngAt (upd H p o) r n := R.same (same_new h)
theorem RngAt.ne {H : Hp} {r p : Addr} {n : Nat} (R : RngAt H r n) (h : H p = none) : p ≠ r := fun e => by
  obtain ⟨d, s, c, q, _⟩ := R
  rw [e, q] at h
  cases h
theorem RngAt.mut {H : Hp} {r p : Addr} {o : HO} {n : Nat} (R : RngAt H r n) (h : p ≠ r) : RngAt (upd H p o) r n := by
  obtain ⟨d, s, c, q, z⟩ := R
  exact ⟨d, s, c, by rw [upd_ne (Ne.symm h)]; exact q, z⟩
theorem RngAt.up {H : Hp} {r : Addr} {m n : Nat} (R : RngAt H r m) (h : m ≤ n) : RngAt H r n := by
  obtain ⟨d, s, c, q, a1, a2, a3, a4, a5, a6⟩ := R
  exact ⟨d, s, c, q, a1, a2, a3, a4, a5, by omega⟩
/-- free behind is free before -/
theorem Oth.free {r : Addr} {H H' : Hp} {n : Nat} (a : Oth r H H') (R : RngAt H' r n) {p : Addr} (h : H' p = none) : H p = none := by
  cases q : H p with
  | none => rfl
  | some o =>
    rw [a p o (R.ne h) q] at h
    cases h
theorem Oth.mut {r : Addr} {H H' : Hp} {p : Addr} {o : HO} (a : Oth r H H') (h : H p = none) : Oth r H (L2.upd H' p o) := fun b u hb e => by
  show (upd H' p o) b = some u
  rw [upd_ne (ne_of_none e h)]
  exact a b u hb e
theorem Oth.upd {H : Hp} (r : Addr) (o : HO) : Oth r H (upd H r o) := fun b u hb e => by rw [upd_ne hb]; exact e
theorem pow_ok {i : Int} (h0 : 0 ≤ i) (h : i < 2 ^ 200) : i.natAbs < 2 ^ 4000 := by
  have h1 : i.natAbs < 2 ^ 200 := by omega
  exact Nat.lt_of_lt_of_le h1 (Nat.pow_le_pow_right (by omega) (by omega))
def spDraw : Sp := fun vs H Q _ => ∃ (r : Addr) (lim : Int) (n : Nat), vs = [.ref r, .int lim] ∧ RngAt H r n ∧ n < 100000000 ∧ 1 ≤ lim ∧ lim < 2 ^ 1000 ∧ ∀ v H', 0 ≤ v → v < lim → RngAt H' r (n + 1) → Oth r H H' → Q (.int v) H'
theorem p_draw (T : Tx K mg "_law_draw" s_law_draw) : Pr P w K mg base CX0 1 "_law_draw" ["rng", "limit"] spDraw := by
  refine mkP T sc_law_draw (fun _ _ _ _ _ _ us hl => match us, hl with | [_, _], _ => rfl) (fun vs H Q E h => ?_) (fun f cdv A outer s H vs Q E hG hr h => ?_)
  · obtain ⟨_, _, _, rfl, _⟩ := h
    rfl
  · obtain ⟨r, lim, n, rfl, ⟨d, sd, c, e, d0, d1, s0, s1, c0, c1⟩, hn, l0, l1, q⟩ := h
    have nd := sc_law_draw.nd
    refine ⟨_, (pss_cons (ps_if (pt_cmpR op_gt (pe_ix ix_list (pv 0) pe_int (fun _ _ => rfl)) pe_int (nomark _)) (pss_cons (ps_set (i := 2) nd rfl (.inl rfl) (pe_op op_mod (pe_ix ix_list (pv 0) pe_int (fun _ _ => rfl)) (pv 1))) (pss_cons (ps_asg (pe_op op_fdivW (pe_ix ix_list (pv 0) pe_int (fun _ _ => rfl)) (pv 1)) (pg_sub (pv 0) pe_int set_list)) (pss_one (ps_ret (pv 2))))) pss_nil) (pss_cons (ps_asg (pe_op op_add (pe_ix ix_list (pv 0) pe_int (fun _ _ => rfl)) pe_int) (pg_sub (pv 0) pe_int set_list)) (pss_cons (ps_set (i := 3) nd rfl (.inl rfl) (pe_op op_mod (pe_op op_powX (pe_op op_add (pe_ix ix_list (pv 0) pe_int (fun _ _ => rfl)) (pe_op op_mulW pe_int (pe_ix ix_list (pv 0) pe_int (fun _ _ => rfl)))) pe_int) pe_int)) (pss_cons (ps_set (i := 3) nd rfl (.inl rfl) (pe_op op_mod (pe_op op_powX (pe_op op_add (pv 3) (pe_op op_mulW pe_int (pe_ix ix_list (pv 0) pe_int (fun _ _ => rfl)))) pe_int) pe_int)) (pss_one (ps_ret (pe_op op_mod (pe_op op_fdivW (pv 3) pe_int) (pv 1)))))))), ?_⟩
    show (tSeq _ _) _ [some (V.ref r), some (V.int lim), none, none] H
    refine x_seq.mpr ?_
    (try simp only [x_asg, x_mkV, x_value, x_lcR1, x_lcL, List.map_cons, List.map_nil, x_yes, x_wipe0, x_wipeS, x_rs, x_callS, x_callKS, x_fld, x_sfld, x_meth, x_make, x_fldaug, x_BM0, x_rAdd, x_retN, x_name, x_sub, x_ret, x_next, x_ifS, x_ite, x_iteN, x_T, x_F, x_tT, x_tF, x_op, x_un, x_var0, x_varS, x_c, x_I0, x_I, x_rU, x_nil, x_cons, x_test, x_B, x_bl, x_call, x_CB, x_tup, x_lst, x_not, x_Eq, x_Ne, x_eqII, x_eqSS, x_eqBB,  x_and, x_or, x_andV, x_orV, x_notV, x_if, x_par, x_two, x_drop, x_BM, x_set0, x_setS, x_gcons, x_gnil, x_forL, x_forT, x_forR1, x_forR2, x_forE, x_ref, x_int1, x_oneI, x_oneB, x_noBI, x_twoI, false_or, x_sl, x_noP, x_part, true_and, List.append_nil, cxK, cxKn]; try simp only [V.str.injEq, V.int.injEq, V.bl.injEq])
    refine x_ixL (SqL.of e) rfl ?_
    (try simp only [x_asg, x_mkV, x_value, x_lcR1, x_lcL, List.map_cons, List.map_nil, x_yes, x_wipe0, x_wipeS, x_rs, x_callS, x_callKS, x_fld, x_sfld, x_meth, x_make, x_fldaug, x_BM0, x_rAdd, x_retN, x_name, x_sub, x_ret, x_next, x_ifS, x_ite, x_iteN, x_T, x_F, x_tT, x_tF, x_op, x_un, x_var0, x_varS, x_c, x_I0, x_I, x_rU, x_nil, x_cons, x_test, x_B, x_bl, x_call, x_CB, x_tup, x_lst, x_not, x_Eq, x_Ne, x_eqII, x_eqSS, x_eqBB,  x_and, x_or, x_andV, x_orV, x_notV, x_if, x_par, x_two, x_drop, x_BM, x_set0, x_setS, x_gcons, x_gnil, x_forL, x_forT, x_forR1, x_forR2, x_forE, x_ref, x_int1, x_oneI, x_oneB, x_noBI, x_twoI, false_or, x_sl, x_noP, x_part, true_and, List.append_nil, cxK, cxKn]; try simp only [V.str.injEq, V.int.injEq, V.bl.injEq])
    refine ⟨fun hd => ?_, fun hd => ?_⟩
    · refine x_seq.mpr ?_
      (try simp only [x_asg, x_mkV, x_value, x_lcR1, x_lcL, List.map_cons, List.map_nil, x_yes, x_wipe0, x_wipeS, x_rs, x_callS, x_callKS, x_fld, x_sfld, x_meth, x_make, x_fldaug, x_BM0, x_rAdd, x_retN, x_name, x_sub, x_ret, x_next, x_ifS, x_ite, x_iteN, x_T, x_F, x_tT, x_tF, x_op, x_un, x_var0, x_varS, x_c, x_I0, x_I, x_rU, x_nil, x_cons, x_test, x_B, x_bl, x_call, x_CB, x_tup, x_lst, x_not, x_Eq, x_Ne, x_eqII, x_eqSS, x_eqBB,  x_and, x_or, x_andV, x_orV, x_notV, x_if, x_par, x_two, x_drop, x_BM, x_set0, x_setS, x_gcons, x_gnil, x_forL, x_forT, x_forR1, x_forR2, x_forE, x_ref, x_int1, x_oneI, x_oneB, x_noBI, x_twoI, false_or, x_sl, x_noP, x_part, true_and, List.append_nil, cxK, cxKn]; try simp only [V.str.injEq, V.int.injEq, V.bl.injEq])
      refine x_ixL (SqL.of e) rfl ?_
      (try simp only [x_asg, x_mkV, x_value, x_lcR1, x_lcL, List.map_cons, List.map_nil, x_yes, x_wipe0, x_wipeS, x_rs, x_callS, x_callKS, x_fld, x_sfld, x_meth, x_make, x_fldaug, x_BM0, x_rAdd, x_retN, x_name, x_sub, x_ret, x_next, x_ifS, x_ite, x_iteN, x_T, x_F, x_tT, x_tF, x_op, x_un, x_var0, x_varS, x_c, x_I0, x_I, x_rU, x_nil, x_cons, x_test, x_B, x_bl, x_call, x_CB, x_tup, x_lst, x_not, x_Eq, x_Ne, x_eqII, x_eqSS, x_eqBB,  x_and, x_or, x_andV, x_orV, x_notV, x_if, x_par, x_two, x_drop, x_BM, x_set0, x_setS, x_gcons, x_gnil, x_forL, x_forT, x_forR1, x_forR2, x_forE, x_ref, x_int1, x_oneI, x_oneB, x_noBI, x_twoI, false_or, x_sl, x_noP, x_part, true_and, List.append_nil, cxK, cxKn]; try simp only [V.str.injEq, V.int.injEq, V.bl.injEq])
      refine ⟨by omega, ?_⟩
      refine x_seq.mpr ?_
      (try simp only [x_asg, x_mkV, x_value, x_lcR1, x_lcL, List.map_cons, List.map_nil, x_yes, x_wipe0, x_wipeS, x_rs, x_callS, x_callKS, x_fld, x_sfld, x_meth, x_make, x_fldaug, x_BM0, x_rAdd, x_retN, x_name, x_sub, x_ret, x_next, x_ifS, x_ite, x_iteN, x_T, x_F, x_tT, x_tF, x_op, x_un, x_var0, x_varS, x_c, x_I0, x_I, x_rU, x_nil, x_cons, x_test, x_B, x_bl, x_call, x_CB, x_tup, x_lst, x_not, x_Eq, x_Ne, x_eqII, x_eqSS, x_eqBB,  x_and, x_or, x_andV, x_orV, x_notV, x_if, x_par, x_two, x_drop, x_BM, x_set0, x_setS, x_gcons, x_gnil, x_forL, x_forT, x_forR1, x_forR2, x_forE, x_ref, x_int1, x_oneI, x_oneB, x_noBI, x_twoI, false_or, x_sl, x_noP, x_part, true_and, List.append_nil, cxK, cxKn]; try simp only [V.str.injEq, V.int.injEq, V.bl.injEq])
      refine x_ixL (SqL.of e) rfl ?_
      (try simp only [x_asg, x_mkV, x_value, x_lcR1, x_lcL, List.map_cons, List.map_nil, x_yes, x_wipe0, x_wipeS, x_rs, x_callS, x_callKS, x_fld, x_sfld, x_meth, x_make, x_fldaug, x_BM0, x_rAdd, x_retN, x_name, x_sub, x_ret, x_next, x_ifS, x_ite, x_iteN, x_T, x_F, x_tT, x_tF, x_op, x_un, x_var0, x_varS, x_c, x_I0, x_I, x_rU, x_nil, x_cons, x_test, x_B, x_bl, x_call, x_CB, x_tup, x_lst, x_not, x_Eq, x_Ne, x_eqII, x_eqSS, x_eqBB,  x_and, x_or, x_andV, x_orV, x_notV, x_if, x_par, x_two, x_drop, x_BM, x_set0, x_setS, x_gcons, x_gnil, x_forL, x_forT, x_forR1, x_forR2, x_forE, x_ref, x_int1, x_oneI, x_oneB, x_noBI, x_twoI, false_or, x_sl, x_noP, x_part, true_and, List.append_nil, cxK, cxKn]; try simp only [V.str.injEq, V.int.injEq, V.bl.injEq])
      refine ⟨⟨by omega, Nat.lt_of_lt_of_le (PySem.Flt.log2_lt_of (k := 1000) (by omega) (by omega)) (by decide)⟩, x_setL e (j := 0) rfl ?_⟩
      refine q _ _ (Int.emod_nonneg _ (by omega)) (Int.emod_lt_of_pos _ (by omega)) ⟨d / lim, sd, c, upd_same, Int.ediv_nonneg d0 (by omega), ?_, s0, s1, c0, by omega⟩ (Oth.upd r _)
      exact Int.lt_of_le_of_lt (Int.ediv_le_self _ d0) d1
    · refine x_seq.mpr ?_
      (try simp only [x_asg, x_mkV, x_value, x_lcR1, x_lcL, List.map_cons, List.map_nil, x_yes, x_wipe0, x_wipeS, x_rs, x_callS, x_callKS, x_fld, x_sfld, x_meth, x_make, x_fldaug, x_BM0, x_rAdd, x_retN, x_name, x_sub, x_ret, x_next, x_ifS, x_ite, x_iteN, x_T, x_F, x_tT, x_tF, x_op, x_un, x_var0, x_varS, x_c, x_I0, x_I, x_rU, x_nil, x_cons, x_test, x_B, x_bl, x_call, x_CB, x_tup, x_lst, x_not, x_Eq, x_Ne, x_eqII, x_eqSS, x_eqBB,  x_and, x_or, x_andV, x_orV, x_notV, x_if, x_par, x_two, x_drop, x_BM, x_set0, x_setS, x_gcons, x_gnil, x_forL, x_forT, x_forR1, x_forR2, x_forE, x_ref, x_int1, x_oneI, x_oneB, x_noBI, x_twoI, false_or, x_sl, x_noP, x_part, true_and, List.append_nil, cxK, cxKn]; try simp only [V.str.injEq, V.int.injEq, V.bl.injEq])
      refine x_ixL (SqL.of e) rfl ?_
      (try simp only [x_asg, x_mkV, x_value, x_lcR1, x_lcL, List.map_cons, List.map_nil, x_yes, x_wipe0, x_wipeS, x_rs, x_callS, x_callKS, x_fld, x_sfld, x_meth, x_make, x_fldaug, x_BM0, x_rAdd, x_retN, x_name, x_sub, x_ret, x_next, x_ifS, x_ite, x_iteN, x_T, x_F, x_tT, x_tF, x_op, x_un, x_var0, x_varS, x_c, x_I0, x_I, x_rU, x_nil, x_cons, x_test, x_B, x_bl, x_call, x_CB, x_tup, x_lst, x_not, x_Eq, x_Ne, x_eqII, x_eqSS, x_eqBB,  x_and, x_or, x_andV, x_orV, x_notV, x_if, x_par, x_two, x_drop, x_BM, x_set0, x_setS, x_gcons, x_gnil, x_forL, x_forT, x_forR1, x_forR2, x_forE, x_ref, x_int1, x_oneI, x_oneB, x_noBI, x_twoI, false_or, x_sl, x_noP, x_part, true_and, List.append_nil, cxK, cxKn]; try simp only [V.str.injEq, V.int.injEq, V.bl.injEq])
      refine x_setL e (j := 2) rfl ?_
      have e1 : upd H r (.lst [.int d, .int sd, .int (c + 1)]) r = some (.lst [.int d, .int sd, .int (c + 1)]) := upd_same
      refine x_seq.mpr ?_
      (try simp only [x_asg, x_mkV, x_value, x_lcR1, x_lcL, List.map_cons, List.map_nil, x_yes, x_wipe0, x_wipeS, x_rs, x_callS, x_callKS, x_fld, x_sfld, x_meth, x_make, x_fldaug, x_BM0, x_rAdd, x_retN, x_name, x_sub, x_ret, x_next, x_ifS, x_ite, x_iteN, x_T, x_F, x_tT, x_tF, x_op, x_un, x_var0, x_varS, x_c, x_I0, x_I, x_rU, x_nil, x_cons, x_test, x_B, x_bl, x_call, x_CB, x_tup, x_lst, x_not, x_Eq, x_Ne, x_eqII, x_eqSS, x_eqBB,  x_and, x_or, x_andV, x_orV, x_notV, x_if, x_par, x_two, x_drop, x_BM, x_set0, x_setS, x_gcons, x_gnil, x_forL, x_forT, x_forR1, x_forR2, x_forE, x_ref, x_int1, x_oneI, x_oneB, x_noBI, x_twoI, false_or, x_sl, x_noP, x_part, true_and, List.append_nil, cxK, cxKn]; try simp only [V.str.injEq, V.int.injEq, V.bl.injEq])
      refine x_ixL (SqL.of e1) rfl ?_
      (try simp only [x_asg, x_mkV, x_value, x_lcR1, x_lcL, List.map_cons, List.map_nil, x_yes, x_wipe0, x_wipeS, x_rs, x_callS, x_callKS, x_fld, x_sfld, x_meth, x_make, x_fldaug, x_BM0, x_rAdd, x_retN, x_name, x_sub, x_ret, x_next, x_ifS, x_ite, x_iteN, x_T, x_F, x_tT, x_tF, x_op, x_un, x_var0, x_varS, x_c, x_I0, x_I, x_rU, x_nil, x_cons, x_test, x_B, x_bl, x_call, x_CB, x_tup, x_lst, x_not, x_Eq, x_Ne, x_eqII, x_eqSS, x_eqBB,  x_and, x_or, x_andV, x_orV, x_notV, x_if, x_par, x_two, x_drop, x_BM, x_set0, x_setS, x_gcons, x_gnil, x_forL, x_forT, x_forR1, x_forR2, x_forE, x_ref, x_int1, x_oneI, x_oneB, x_noBI, x_twoI, false_or, x_sl, x_noP, x_part, true_and, List.append_nil, cxK, cxKn]; try simp only [V.str.injEq, V.int.injEq, V.bl.injEq])
      refine x_ixL (SqL.of e1) rfl ?_
      (try simp only [x_asg, x_mkV, x_value, x_lcR1, x_lcL, List.map_cons, List.map_nil, x_yes, x_wipe0, x_wipeS, x_rs, x_callS, x_callKS, x_fld, x_sfld, x_meth, x_make, x_fldaug, x_BM0, x_rAdd, x_retN, x_name, x_sub, x_ret, x_next, x_ifS, x_ite, x_iteN, x_T, x_F, x_tT, x_tF, x_op, x_un, x_var0, x_varS, x_c, x_I0, x_I, x_rU, x_nil, x_cons, x_test, x_B, x_bl, x_call, x_CB, x_tup, x_lst, x_not, x_Eq, x_Ne, x_eqII, x_eqSS, x_eqBB,  x_and, x_or, x_andV, x_orV, x_notV, x_if, x_par, x_two, x_drop, x_BM, x_set0, x_setS, x_gcons, x_gnil, x_forL, x_forT, x_forR1, x_forR2, x_forE, x_ref, x_int1, x_oneI, x_oneB, x_noBI, x_twoI, false_or, x_sl, x_noP, x_part, true_and, List.append_nil, cxK, cxKn]; try simp only [V.str.injEq, V.int.injEq, V.bl.injEq])
      refine ⟨wide_mul (a := 64) (b := 64) (by omega) (by omega) (by omega) (by omega) (by omega), ⟨by omega, by omega, pow_ok (by omega) (by omega)⟩, by omega, ?_⟩
      refine x_seq.mpr ?_
      (try simp only [x_asg, x_mkV, x_value, x_lcR1, x_lcL, List.map_cons, List.map_nil, x_yes, x_wipe0, x_wipeS, x_rs, x_callS, x_callKS, x_fld, x_sfld, x_meth, x_make, x_fldaug, x_BM0, x_rAdd, x_retN, x_name, x_sub, x_ret, x_next, x_ifS, x_ite, x_iteN, x_T, x_F, x_tT, x_tF, x_op, x_un, x_var0, x_varS, x_c, x_I0, x_I, x_rU, x_nil, x_cons, x_test, x_B, x_bl, x_call, x_CB, x_tup, x_lst, x_not, x_Eq, x_Ne, x_eqII, x_eqSS, x_eqBB,  x_and, x_or, x_andV, x_orV, x_notV, x_if, x_par, x_two, x_drop, x_BM, x_set0, x_setS, x_gcons, x_gnil, x_forL, x_forT, x_forR1, x_forR2, x_forE, x_ref, x_int1, x_oneI, x_oneB, x_noBI, x_twoI, false_or, x_sl, x_noP, x_part, true_and, List.append_nil, cxK, cxKn]; try simp only [V.str.injEq, V.int.injEq, V.bl.injEq])
      refine x_ixL (SqL.of e1) rfl ?_
      (try simp only [x_asg, x_mkV, x_value, x_lcR1, x_lcL, List.map_cons, List.map_nil, x_yes, x_wipe0, x_wipeS, x_rs, x_callS, x_callKS, x_fld, x_sfld, x_meth, x_make, x_fldaug, x_BM0, x_rAdd, x_retN, x_name, x_sub, x_ret, x_next, x_ifS, x_ite, x_iteN, x_T, x_F, x_tT, x_tF, x_op, x_un, x_var0, x_varS, x_c, x_I0, x_I, x_rU, x_nil, x_cons, x_test, x_B, x_bl, x_call, x_CB, x_tup, x_lst, x_not, x_Eq, x_Ne, x_eqII, x_eqSS, x_eqBB,  x_and, x_or, x_andV, x_orV, x_notV, x_if, x_par, x_two, x_drop, x_BM, x_set0, x_setS, x_gcons, x_gnil, x_forL, x_forT, x_forR1, x_forR2, x_forE, x_ref, x_int1, x_oneI, x_oneB, x_noBI, x_twoI, false_or, x_sl, x_noP, x_part, true_and, List.append_nil, cxK, cxKn]; try simp only [V.str.injEq, V.int.injEq, V.bl.injEq])
      have m0 := Int.emod_nonneg ((sd + 998244353 * (c + 1)) ^ (3 : Int).toNat) (show (162259276829213363391578010288127 : Int) ≠ 0 by omega)
      have m1 := Int.emod_lt_of_pos ((sd + 998244353 * (c + 1)) ^ (3 : Int).toNat) (show (0 : Int) < 162259276829213363391578010288127 by omega)
      refine ⟨wide_mul (a := 64) (b := 64) (by omega) (by omega) (by omega) (by omega) (by omega), ⟨by omega, by omega, pow_ok (by omega) (by omega)⟩, by omega, ?_⟩
      refine ⟨⟨by omega, by decide +kernel⟩, by omega, ?_⟩
      exact q _ _ (Int.emod_nonneg _ (by omega)) (Int.emod_lt_of_pos _ (by omega)) ⟨d, sd, c + 1, e1, d0, d1, s0, s1, by omega, by omega⟩ (Oth.upd r _)
def spRng (K : PySem.W.Frag) : Sp := fun vs H Q _ => ∃ (a : Addr) (ns : List Int), vs = [.ref a] ∧ SqL K H a (ns.map V.int) ∧ ns.length ≤ 63 ∧ ∀ r H', H r = none → RngAt H' r 0 → Same H H' → Q (.ref r) H'
theorem p_rng (T : Tx K mg "_law_rng" s_law_rng) (m_abs : mg "abs" = none) : Pr P w K mg base CX0 1 "_law_rng" ["script"] (spRng K) := by
  refine mkP T sc_law_rng (fun _ _ _ _ _ _ us hl => match us, hl with | [_], _ => rfl) (fun vs H Q E h => ?_) (fun f cdv A outer s H vs Q E hG hr h => ?_)
  · obtain ⟨_, _, rfl, _⟩ := h
    rfl
  · obtain ⟨a, ns, rfl, hS, hlen, q⟩ := h
    have nd := sc_law_rng.nd
    refine ⟨_, (pss_cons (ps_asg (pe_tup (pa_cons pe_int (pa_cons pe_int pa_nil))) (pg_tup rfl (pgs_cons (pg_name (i := 1) nd rfl (.inl rfl)) (pgs_cons (pg_name (i := 2) nd rfl (.inl rfl)) pgs_nil)))) (pss_cons (ps_for PassesOwn.never rfl (pi_list (pe_slice sl_list (pv 0) po_none (po_some pe_int))) (pg_name (i := 3) nd rfl (.inl rfl)) (pss_cons (ps_set (i := 4) nd rfl (.inl rfl) (pe_callB call_abs (by rfl) m_abs (by decide +kernel) (pa_cons (pv 3) pa_nil))) (pss_cons (ps_if (pt_cmpR op_ge (pv 4) (pe_op op_powX pe_int pe_int) (nomark _)) (pss_one (ps_set (i := 1) nd rfl (.inl rfl) (pe_op op_add (pe_op op_mulW (pv 1) (pe_op op_powX pe_int pe_int)) (pe_op op_mod (pv 4) (pe_op op_powX pe_int pe_int))))) pss_nil) (pss_one (ps_set (i := 2) nd rfl (.inl rfl) (pe_op op_mod (pe_op op_add (pe_op op_add (pe_op op_mulW (pv 2) pe_int) (pe_op op_mod (pv 3) pe_int)) pe_int) pe_int)))))) (pss_one (ps_ret (pe_lst (pa_cons (pv 1) (pa_cons (pv 2) (pa_cons pe_int pa_nil)))))))), ?_⟩
    show (tSeq _ _) _ [some (V.ref a), none, none, none, none] H
    refine x_seq.mpr ?_
    (try simp only [x_asg, x_mkV, x_value, x_lcR1, x_lcL, List.map_cons, List.map_nil, x_yes, x_wipe0, x_wipeS, x_rs, x_callS, x_callKS, x_fld, x_sfld, x_meth, x_make, x_fldaug, x_BM0, x_rAdd, x_retN, x_name, x_sub, x_ret, x_next, x_ifS, x_ite, x_iteN, x_T, x_F, x_tT, x_tF, x_op, x_un, x_var0, x_varS, x_c, x_I0, x_I, x_rU, x_nil, x_cons, x_test, x_B, x_bl, x_call, x_CB, x_tup, x_lst, x_not, x_Eq, x_Ne, x_eqII, x_eqSS, x_eqBB,  x_and, x_or, x_andV, x_orV, x_notV, x_if, x_par, x_two, x_drop, x_BM, x_set0, x_setS, x_gcons, x_gnil, x_forL, x_forT, x_forR1, x_forR2, x_forE, x_ref, x_int1, x_oneI, x_oneB, x_noBI, x_twoI, false_or, x_sl, x_noP, x_part, true_and, List.append_nil, cxK, cxKn]; try simp only [V.str.injEq, V.int.injEq, V.bl.injEq])
    refine ⟨by show 2 ≤ sizeLine; decide, fun t nt => ?_⟩
    refine x_gtup (SqT.of upd_same) rfl ?_
    (try simp only [x_asg, x_mkV, x_value, x_lcR1, x_lcL, List.map_cons, List.map_nil, x_yes, x_wipe0, x_wipeS, x_rs, x_callS, x_callKS, x_fld, x_sfld, x_meth, x_make, x_fldaug, x_BM0, x_rAdd, x_retN, x_name, x_sub, x_ret, x_next, x_ifS, x_ite, x_iteN, x_T, x_F, x_tT, x_tF, x_op, x_un, x_var0, x_varS, x_c, x_I0, x_I, x_rU, x_nil, x_cons, x_test, x_B, x_bl, x_call, x_CB, x_tup, x_lst, x_not, x_Eq, x_Ne, x_eqII, x_eqSS, x_eqBB,  x_and, x_or, x_andV, x_orV, x_notV, x_if, x_par, x_two, x_drop, x_BM, x_set0, x_setS, x_gcons, x_gnil, x_forL, x_forT, x_forR1, x_forR2, x_forE, x_ref, x_int1, x_oneI, x_oneB, x_noBI, x_twoI, false_or, x_sl, x_noP, x_part, true_and, List.append_nil, cxK, cxKn]; try simp only [V.str.injEq, V.int.injEq, V.bl.injEq])
    have sH := same_new (o := .tup [.int 0, .int 88675123]) nt
    generalize hH0 : upd H t (.tup [.int 0, .int 88675123]) = H0 at sH ⊢
    have hS0 := sH.seq hS
    refine x_seq.mpr ?_
    (try simp only [x_asg, x_mkV, x_value, x_lcR1, x_lcL, List.map_cons, List.map_nil, x_yes, x_wipe0, x_wipeS, x_rs, x_callS, x_callKS, x_fld, x_sfld, x_meth, x_make, x_fldaug, x_BM0, x_rAdd, x_retN, x_name, x_sub, x_ret, x_next, x_ifS, x_ite, x_iteN, x_T, x_F, x_tT, x_tF, x_op, x_un, x_var0, x_varS, x_c, x_I0, x_I, x_rU, x_nil, x_cons, x_test, x_B, x_bl, x_call, x_CB, x_tup, x_lst, x_not, x_Eq, x_Ne, x_eqII, x_eqSS, x_eqBB,  x_and, x_or, x_andV, x_orV, x_notV, x_if, x_par, x_two, x_drop, x_BM, x_set0, x_setS, x_gcons, x_gnil, x_forL, x_forT, x_forR1, x_forR2, x_forE, x_ref, x_int1, x_oneI, x_oneB, x_noBI, x_twoI, false_or, x_sl, x_noP, x_part, true_and, List.append_nil, cxK, cxKn]; try simp only [V.str.injEq, V.int.injEq, V.bl.injEq])
    refine x_slL hS0 fun p np => ?_
    (try simp only [x_asg, x_mkV, x_value, x_lcR1, x_lcL, List.map_cons, List.map_nil, x_yes, x_wipe0, x_wipeS, x_rs, x_callS, x_callKS, x_fld, x_sfld, x_meth, x_make, x_fldaug, x_BM0, x_rAdd, x_retN, x_name, x_sub, x_ret, x_next, x_ifS, x_ite, x_iteN, x_T, x_F, x_tT, x_tF, x_op, x_un, x_var0, x_varS, x_c, x_I0, x_I, x_rU, x_nil, x_cons, x_test, x_B, x_bl, x_call, x_CB, x_tup, x_lst, x_not, x_Eq, x_Ne, x_eqII, x_eqSS, x_eqBB,  x_and, x_or, x_andV, x_orV, x_notV, x_if, x_par, x_two, x_drop, x_BM, x_set0, x_setS, x_gcons, x_gnil, x_forL, x_forT, x_forR1, x_forR2, x_forE, x_ref, x_int1, x_oneI, x_oneB, x_noBI, x_twoI, false_or, x_sl, x_noP, x_part, true_and, List.append_nil, cxK, cxKn]; try simp only [V.str.injEq, V.int.injEq, V.bl.injEq])
    have hcut : cutV (ns.map V.int) none (some 63) = ns.map V.int := by
      unfold cutV
      rw [HT.sIx_none, show HT.sIx (ns.map V.int).length (ns.map V.int).length (some 63) = min 63 (ns.map V.int).length from HT.sIx_nat _ _ 63]
      rw [List.drop_zero, List.length_map, Nat.sub_zero, Nat.min_eq_right hlen]
      exact List.take_of_length_le (by simp)
    rw [hcut]
    refine ⟨⟨_, SqL.of upd_same⟩, ?_⟩
    refine lpL (xs := ns.map V.int) (fun i σ H' => ∃ (d sd : Int) (y3 y4 : Option V), σ = [some (.ref a), some (.int d), some (.int sd), y3, y4] ∧ H' = upd H0 p (.lst (ns.map V.int)) ∧ 0 ≤ d ∧ d < (10 ^ 60) ^ i ∧ 0 ≤ sd ∧ sd < 2305843009213693951)
      ⟨0, 88675123, none, none, rfl, rfl, by omega, by omega, by omega, by omega⟩ (fun i σ H' _ h => ?_) (fun i x σ H' hx h => ?_) (fun σ H' h => ?_)
    · obtain ⟨_, _, _, _, _, rfl, _⟩ := h
      exact SqL.of upd_same
    · obtain ⟨d, sd, y3, y4, rfl, rfl, d0, d1, s0, s1⟩ := h
      obtain ⟨c, rfl⟩ : ∃ c : Int, x = .int c := by
        rw [List.getElem?_map] at hx
        cases e : ns[i]? with
        | none => rw [e] at hx; cases hx
        | some c => rw [e] at hx; cases hx; exact ⟨c, rfl⟩
      have hi : i < 63 := by
        have := (List.getElem?_eq_some_iff.mp hx).1
        rw [List.length_map] at this
        omega
      (try simp only [x_asg, x_mkV, x_value, x_lcR1, x_lcL, List.map_cons, List.map_nil, x_yes, x_wipe0, x_wipeS, x_rs, x_callS, x_callKS, x_fld, x_sfld, x_meth, x_make, x_fldaug, x_BM0, x_rAdd, x_retN, x_name, x_sub, x_ret, x_next, x_ifS, x_ite, x_iteN, x_T, x_F, x_tT, x_tF, x_op, x_un, x_var0, x_varS, x_c, x_I0, x_I, x_rU, x_nil, x_cons, x_test, x_B, x_bl, x_call, x_CB, x_tup, x_lst, x_not, x_Eq, x_Ne, x_eqII, x_eqSS, x_eqBB,  x_and, x_or, x_andV, x_orV, x_notV, x_if, x_par, x_two, x_drop, x_BM, x_set0, x_setS, x_gcons, x_gnil, x_forL, x_forT, x_forR1, x_forR2, x_forE, x_ref, x_int1, x_oneI, x_oneB, x_noBI, x_twoI, false_or, x_sl, x_noP, x_part, true_and, List.append_nil, cxK, cxKn]; try simp only [V.str.injEq, V.int.injEq, V.bl.injEq])
      refine x_seq.mpr ?_
      (try simp only [x_asg, x_mkV, x_value, x_lcR1, x_lcL, List.map_cons, List.map_nil, x_yes, x_wipe0, x_wipeS, x_rs, x_callS, x_callKS, x_fld, x_sfld, x_meth, x_make, x_fldaug, x_BM0, x_rAdd, x_retN, x_name, x_sub, x_ret, x_next, x_ifS, x_ite, x_iteN, x_T, x_F, x_tT, x_tF, x_op, x_un, x_var0, x_varS, x_c, x_I0, x_I, x_rU, x_nil, x_cons, x_test, x_B, x_bl, x_call, x_CB, x_tup, x_lst, x_not, x_Eq, x_Ne, x_eqII, x_eqSS, x_eqBB,  x_and, x_or, x_andV, x_orV, x_notV, x_if, x_par, x_two, x_drop, x_BM, x_set0, x_setS, x_gcons, x_gnil, x_forL, x_forT, x_forR1, x_forR2, x_forE, x_ref, x_int1, x_oneI, x_oneB, x_noBI, x_twoI, false_or, x_sl, x_noP, x_part, true_and, List.append_nil, cxK, cxKn]; try simp only [V.str.injEq, V.int.injEq, V.bl.injEq])
      refine x_seq.mpr ?_
      (try simp only [x_asg, x_mkV, x_value, x_lcR1, x_lcL, List.map_cons, List.map_nil, x_yes, x_wipe0, x_wipeS, x_rs, x_callS, x_callKS, x_fld, x_sfld, x_meth, x_make, x_fldaug, x_BM0, x_rAdd, x_retN, x_name, x_sub, x_ret, x_next, x_ifS, x_ite, x_iteN, x_T, x_F, x_tT, x_tF, x_op, x_un, x_var0, x_varS, x_c, x_I0, x_I, x_rU, x_nil, x_cons, x_test, x_B, x_bl, x_call, x_CB, x_tup, x_lst, x_not, x_Eq, x_Ne, x_eqII, x_eqSS, x_eqBB,  x_and, x_or, x_andV, x_orV, x_notV, x_if, x_par, x_two, x_drop, x_BM, x_set0, x_setS, x_gcons, x_gnil, x_forL, x_forT, x_forR1, x_forR2, x_forE, x_ref, x_int1, x_oneI, x_oneB, x_noBI, x_twoI, false_or, x_sl, x_noP, x_part, true_and, List.append_nil, cxK, cxKn]; try simp only [V.str.injEq, V.int.injEq, V.bl.injEq])
      refine ⟨⟨by omega, by omega, pow_ok (by omega) (by omega)⟩, ?_⟩
      have lst : ∀ d' : Int, 0 ≤ d' → d' < (10 ^ 60) ^ (i + 1) → ∃ (d_1 sd_1 : Int) (y3' y4' : Option V), [some (V.ref a), some (V.int d'), some (V.int ((sd * 1000003 + c % 2305843009213693921 + 7) % 2305843009213693951)), some (V.int c), some (V.int (if c < 0 then -c else c))] = [some (V.ref a), some (V.int d_1), some (V.int sd_1), y3', y4'] ∧
          0 ≤ d_1 ∧ d_1 < (10 ^ 60) ^ (i + 1) ∧ 0 ≤ sd_1 ∧ sd_1 < 2305843009213693951 := fun d' h0 h1 =>
        ⟨_, _, _, _, rfl, h0, h1, Int.emod_nonneg _ (by omega), Int.emod_lt_of_pos _ (by omega)⟩
      have sok : CMulW sd 1000003 := wide_mul (a := 64) (b := 64) (by omega) (by omega) (by omega) (by omega) (by omega)
      have grow : (10 ^ 60 : Int) ^ i * 10 ^ 60 = (10 ^ 60) ^ (i + 1) := (Int.pow_succ _ _).symm
      have dn : (10 ^ 60 : Int) ^ i ≤ (10 ^ 60) ^ 62 := by
        have h : ((10 ^ 60) ^ i : Nat) ≤ (10 ^ 60) ^ 62 := Nat.pow_le_pow_right (by decide) (by omega)
        exact_mod_cast h
      have db : ((10 ^ 60) ^ 62 : Int) < 2 ^ 13000 := by decide +kernel
      have dd : d.natAbs < 2 ^ 13000 := by
        have h : d < 2 ^ 13000 := Int.lt_of_lt_of_le d1 (Int.le_of_lt (Int.lt_of_le_of_lt dn db))
        have e : ((d.natAbs : Nat) : Int) = d := Int.natAbs_of_nonneg d0
        exact Int.ofNat_lt.mp (by rw [e]; exact_mod_cast h)
      refine ⟨fun hb => ?_, fun hb => ?_⟩
      · refine ⟨⟨by omega, by omega, pow_ok (by omega) (by omega)⟩, ?_⟩
        have r0 := Int.emod_nonneg (if c < 0 then -c else c) (show (10 ^ 60 : Int) ≠ 0 by decide)
        have r1 := Int.emod_lt_of_pos (if c < 0 then -c else c) (show (0 : Int) < 10 ^ 60 by decide)
        refine ⟨wide_mul (a := 13000) (b := 200) dd (by decide +kernel) (by omega) (by omega) (by omega), ⟨by omega, by omega, pow_ok (by omega) (by omega)⟩, by decide, sok, by omega, by omega, ?_⟩
        refine lst _ ?_ ?_
        · have : 0 ≤ d * 10 ^ 60 := Int.mul_nonneg d0 (by decide)
          exact Int.add_nonneg this r0
        · rw [← grow]
          have h1 : (d + 1) * 10 ^ 60 ≤ (10 ^ 60) ^ i * 10 ^ 60 := Int.mul_le_mul_of_nonneg_right d1 (by decide)
          have h2 : (d + 1) * 10 ^ 60 = d * 10 ^ 60 + 10 ^ 60 := by rw [Int.add_mul, Int.one_mul]
          show d * 10 ^ 60 + (if c < 0 then -c else c) % 10 ^ 60 < _
          exact Int.lt_of_lt_of_le (Int.add_lt_add_left r1 _) (by rw [← h2]; exact h1)
      · refine ⟨sok, by omega, by omega, ?_⟩
        refine lst d d0 ?_
        rw [← grow]
        have h1 : d * 1 ≤ d * 10 ^ 60 := Int.mul_le_mul_of_nonneg_left (by decide) d0
        have h2 : (d + 1) * 10 ^ 60 ≤ (10 ^ 60) ^ i * 10 ^ 60 := Int.mul_le_mul_of_nonneg_right d1 (by decide)
        have h3 : (d + 1) * 10 ^ 60 = d * 10 ^ 60 + 10 ^ 60 := by rw [Int.add_mul, Int.one_mul]
        rw [h3] at h2
        have h4 : (0 : Int) < 10 ^ 60 := by decide
        omega
    · obtain ⟨d, sd, y3, y4, rfl, rfl, d0, d1, s0, s1⟩ := h
      (try simp only [x_asg, x_mkV, x_value, x_lcR1, x_lcL, List.map_cons, List.map_nil, x_yes, x_wipe0, x_wipeS, x_rs, x_callS, x_callKS, x_fld, x_sfld, x_meth, x_make, x_fldaug, x_BM0, x_rAdd, x_retN, x_name, x_sub, x_ret, x_next, x_ifS, x_ite, x_iteN, x_T, x_F, x_tT, x_tF, x_op, x_un, x_var0, x_varS, x_c, x_I0, x_I, x_rU, x_nil, x_cons, x_test, x_B, x_bl, x_call, x_CB, x_tup, x_lst, x_not, x_Eq, x_Ne, x_eqII, x_eqSS, x_eqBB,  x_and, x_or, x_andV, x_orV, x_notV, x_if, x_par, x_two, x_drop, x_BM, x_set0, x_setS, x_gcons, x_gnil, x_forL, x_forT, x_forR1, x_forR2, x_forE, x_ref, x_int1, x_oneI, x_oneB, x_noBI, x_twoI, false_or, x_sl, x_noP, x_part, true_and, List.append_nil, cxK, cxKn]; try simp only [V.str.injEq, V.int.injEq, V.bl.injEq])
      refine ⟨by show 3 ≤ sizeLine; decide, fun r hn => ?_⟩
      have np' : H r = none := Same.free (sH.trans (same_new np)) hn
      refine q r _ np' ⟨d, sd, 0, upd_same, d0, ?_, s0, s1, by omega, by omega⟩ ((sH.trans (same_new np)).trans (same_new hn))
      refine Int.lt_of_lt_of_le d1 ?_
      rw [List.length_map]
      have h : ((10 ^ 60) ^ ns.length : Nat) ≤ (10 ^ 60) ^ 63 := Nat.pow_le_pow_right (by decide) hlen
      have h2 : ((10 ^ 60) ^ 63 : Int) = 10 ^ 3780 := by decide +kernel
      rw [← h2]
      exact_mod_cast h
end

abbrev s_law_two : Stmt := topS 21
theorem sc_law_two : FnScope ["many", "found", "turn"] ["many"] (defScope s_law_two) := ⟨rfl, rfl, rfl, by decide +kernel, rfl, by decide +kernel, by decide +kernel⟩
abbrev s_law_any : Stmt := topS 22
theorem sc_law_any : FnScope ["rng", "near", "some"] ["rng"] (defScope s_law_any) := ⟨rfl, rfl, rfl, by decide +kernel, rfl, by decide +kernel, by decide +kernel⟩
section
variable {P : Program} {w : World} {K : PySem.W.Frag} {mg : Str → Option Value} {base : Heap}
def spTwo : Sp := fun vs H Q _ => ∃ m : Int, vs = [.int m] ∧ 0 ≤ m ∧ m ≤ 5000 ∧ Q (.int (2 ^ m.toNat)) H
theorem pow2_abs {n : Nat} {k : Nat} (h : n < k) : ((2 : Int) ^ n).natAbs < 2 ^ k := by
  rw [Int.natAbs_pow]
  exact Nat.pow_lt_pow_right (by decide) h
theorem p_two (T : Tx K mg "_law_two" s_law_two) (m_range : mg "range" = none) : Pr P w K mg base CX0 1 "_law_two" ["many"] spTwo := by
  refine mkP T sc_law_two (fun _ _ _ _ _ _ us hl => match us, hl with | [_], _ => rfl) (fun vs H Q E h => ?_) (fun f cdv A outer s H vs Q E hG hr h => ?_)
  · obtain ⟨_, rfl, _⟩ := h
    rfl
  · obtain ⟨m, rfl, m0, m1, q⟩ := h
    have nd := sc_law_two.nd
    refine ⟨_, (pss_cons (ps_set (i := 1) nd rfl (.inl rfl) pe_int) (pss_cons (ps_for PassesOwn.never rfl (pi_range1 rfl m_range (pa_cons (pv 0) pa_nil)) (pg_name (i := 2) nd rfl (.inl rfl)) (pss_one (ps_set (i := 1) nd rfl (.inl rfl) (pe_op op_mulW (pv 1) pe_int)))) (pss_one (ps_ret (pv 1))))), ?_⟩
    show (tSeq _ _) _ [some (V.int m), none, none] H
    refine x_seq.mpr ?_
    (try simp only [x_asg, x_mkV, x_value, x_lcR1, x_lcL, List.map_cons, List.map_nil, x_yes, x_wipe0, x_wipeS, x_rs, x_callS, x_callKS, x_fld, x_sfld, x_meth, x_make, x_fldaug, x_BM0, x_rAdd, x_retN, x_name, x_sub, x_ret, x_next, x_ifS, x_ite, x_iteN, x_T, x_F, x_tT, x_tF, x_op, x_un, x_var0, x_varS, x_c, x_I0, x_I, x_rU, x_nil, x_cons, x_test, x_B, x_bl, x_call, x_CB, x_tup, x_lst, x_not, x_Eq, x_Ne, x_eqII, x_eqSS, x_eqBB,  x_and, x_or, x_andV, x_orV, x_notV, x_if, x_par, x_two, x_drop, x_BM, x_set0, x_setS, x_gcons, x_gnil, x_forL, x_forT, x_forR1, x_forR2, x_forE, x_ref, x_int1, x_oneI, x_oneB, x_noBI, x_twoI, false_or, x_sl, x_noP, x_part, true_and, List.append_nil, cxK, cxKn]; try simp only [V.str.injEq, V.int.injEq, V.bl.injEq])
    refine x_seq.mpr ?_
    (try simp only [x_asg, x_mkV, x_value, x_lcR1, x_lcL, List.map_cons, List.map_nil, x_yes, x_wipe0, x_wipeS, x_rs, x_callS, x_callKS, x_fld, x_sfld, x_meth, x_make, x_fldaug, x_BM0, x_rAdd, x_retN, x_name, x_sub, x_ret, x_next, x_ifS, x_ite, x_iteN, x_T, x_F, x_tT, x_tF, x_op, x_un, x_var0, x_varS, x_c, x_I0, x_I, x_rU, x_nil, x_cons, x_test, x_B, x_bl, x_call, x_CB, x_tup, x_lst, x_not, x_Eq, x_Ne, x_eqII, x_eqSS, x_eqBB,  x_and, x_or, x_andV, x_orV, x_notV, x_if, x_par, x_two, x_drop, x_BM, x_set0, x_setS, x_gcons, x_gnil, x_forL, x_forT, x_forR1, x_forR2, x_forE, x_ref, x_int1, x_oneI, x_oneB, x_noBI, x_twoI, false_or, x_sl, x_noP, x_part, true_and, List.append_nil, cxK, cxKn]; try simp only [V.str.injEq, V.int.injEq, V.bl.injEq])
    refine ⟨by omega, by omega, ?_⟩
    refine lpR (fun i σ H' => (∃ y, σ = [some (.int m), some (.int (2 ^ i)), y]) ∧ H' = H) ⟨⟨_, rfl⟩, rfl⟩ (fun i σ H' hi h => ?_) (fun σ H' h => ?_)
    · obtain ⟨⟨y, rfl⟩, rfl⟩ := h
      (try simp only [x_asg, x_mkV, x_value, x_lcR1, x_lcL, List.map_cons, List.map_nil, x_yes, x_wipe0, x_wipeS, x_rs, x_callS, x_callKS, x_fld, x_sfld, x_meth, x_make, x_fldaug, x_BM0, x_rAdd, x_retN, x_name, x_sub, x_ret, x_next, x_ifS, x_ite, x_iteN, x_T, x_F, x_tT, x_tF, x_op, x_un, x_var0, x_varS, x_c, x_I0, x_I, x_rU, x_nil, x_cons, x_test, x_B, x_bl, x_call, x_CB, x_tup, x_lst, x_not, x_Eq, x_Ne, x_eqII, x_eqSS, x_eqBB,  x_and, x_or, x_andV, x_orV, x_notV, x_if, x_par, x_two, x_drop, x_BM, x_set0, x_setS, x_gcons, x_gnil, x_forL, x_forT, x_forR1, x_forR2, x_forE, x_ref, x_int1, x_oneI, x_oneB, x_noBI, x_twoI, false_or, x_sl, x_noP, x_part, true_and, List.append_nil, cxK, cxKn]; try simp only [V.str.injEq, V.int.injEq, V.bl.injEq])
      refine ⟨wide_mul (a := 5001) (b := 8) (pow2_abs (by omega)) (by decide) (by omega) (by omega) (by omega), ?_⟩
      rw [← Int.pow_succ]
      exact ⟨⟨_, rfl⟩, trivial⟩
    · obtain ⟨⟨y, rfl⟩, rfl⟩ := h
      (try simp only [x_asg, x_mkV, x_value, x_lcR1, x_lcL, List.map_cons, List.map_nil, x_yes, x_wipe0, x_wipeS, x_rs, x_callS, x_callKS, x_fld, x_sfld, x_meth, x_make, x_fldaug, x_BM0, x_rAdd, x_retN, x_name, x_sub, x_ret, x_next, x_ifS, x_ite, x_iteN, x_T, x_F, x_tT, x_tF, x_op, x_un, x_var0, x_varS, x_c, x_I0, x_I, x_rU, x_nil, x_cons, x_test, x_B, x_bl, x_call, x_CB, x_tup, x_lst, x_not, x_Eq, x_Ne, x_eqII, x_eqSS, x_eqBB,  x_and, x_or, x_andV, x_orV, x_notV, x_if, x_par, x_two, x_drop, x_BM, x_set0, x_setS, x_gcons, x_gnil, x_forL, x_forT, x_forR1, x_forR2, x_forE, x_ref, x_int1, x_oneI, x_oneB, x_noBI, x_twoI, false_or, x_sl, x_noP, x_part, true_and, List.append_nil, cxK, cxKn]; try simp only [V.str.injEq, V.int.injEq, V.bl.injEq])
      exact q
def spAny : Sp := fun vs H Q _ => ∃ (r : Addr) (n : Nat), vs = [.ref r] ∧ RngAt H r n ∧ n < 90000000 ∧ ∀ v H', -(10 ^ 30) ≤ v → v ≤ 10 ^ 30 → RngAt H' r (n + 7) → Oth r H H' → Q (.int v) H'
theorem two_le {m n : Nat} (h : m ≤ n) : (2 : Int) ^ m ≤ 2 ^ n := by
  have h : 2 ^ m ≤ 2 ^ n := Nat.pow_le_pow_right (by decide) h
  exact_mod_cast h
theorem p_any (T : Tx K mg "_law_any" s_law_any) (m_min : mg "min" = none) (h__law_two : Pr P w K mg base CX0 1 "_law_two" ["many"] spTwo) (h__law_draw : Pr P w K mg base CX0 1 "_law_draw" ["rng", "limit"] spDraw) :
    Pr P w K mg base CX0 2 "_law_any" ["rng"] spAny := by
  refine mkP T sc_law_any (fun _ _ _ _ _ _ us hl => match us, hl with | [_], _ => rfl) (fun vs H Q E h => ?_) (fun f cdv A outer s H vs Q E hG hr h => ?_)
  · obtain ⟨_, _, rfl, _⟩ := h
    rfl
  · obtain ⟨r, n, rfl, R, hn, q⟩ := h
    have nd := sc_law_any.nd
    refine ⟨_, (pss_cons (ps_set (i := 1) nd rfl (.inl rfl) (pe_op op_sub (pe_op op_add (pe_P h__law_two hr hG (by rfl) (pa_cons (pe_P h__law_draw hr hG (by rfl) (pa_cons (pv 0) (pa_cons pe_int pa_nil))) pa_nil)) (pe_P h__law_draw hr hG (by rfl) (pa_cons (pv 0) (pa_cons pe_int pa_nil)))) pe_int)) (pss_cons (ps_set (i := 2) nd rfl (.inl rfl) (pe_lst (pa_cons (pe_P h__law_draw hr hG (by rfl) (pa_cons (pv 0) (pa_cons pe_int pa_nil))) (pa_cons (pv 1) (pa_cons (pe_op op_mulW (pv 1) (pe_op op_add pe_int (pe_P h__law_draw hr hG (by rfl) (pa_cons (pv 0) (pa_cons pe_int pa_nil))))) pa_nil))))) (pss_cons (ps_expr (pe_bm PySem.F.plainAttrs_list PySem.F.slot_list_append PySem.F.type_list_append mt_append (pv 2) (pa_cons (pe_P h__law_draw hr hG (by rfl) (pa_cons (pv 0) (pa_cons (pe_op op_add (pe_op op_powX pe_int pe_int) pe_int) pa_nil))) pa_nil))) (pss_one (ps_ret (pe_op op_mulW (pe_callB (call_min2 rfl) (by rfl) m_min (by decide +kernel) (pa_cons (pe_op op_powX pe_int pe_int) (pa_cons (pe_ix ix_list (pv 2) (pe_P h__law_draw hr hG (by rfl) (pa_cons (pv 0) (pa_cons pe_int pa_nil))) (fun _ _ => rfl)) pa_nil))) (pe_ix ix_list (pe_lst (pa_cons pe_int (pa_cons (pe_un un_neg pe_int) pa_nil))) (pe_P h__law_draw hr hG (by rfl) (pa_cons (pv 0) (pa_cons pe_int pa_nil))) (fun _ _ => rfl)))))))), ?_⟩
    show (tSeq _ _) _ [some (V.ref r), none, none] H
    refine x_seq.mpr ?_
    (try simp only [x_asg, x_mkV, x_value, x_lcR1, x_lcL, List.map_cons, List.map_nil, x_yes, x_wipe0, x_wipeS, x_rs, x_callS, x_callKS, x_fld, x_sfld, x_meth, x_make, x_fldaug, x_BM0, x_rAdd, x_retN, x_name, x_sub, x_ret, x_next, x_ifS, x_ite, x_iteN, x_T, x_F, x_tT, x_tF, x_op, x_un, x_var0, x_varS, x_c, x_I0, x_I, x_rU, x_nil, x_cons, x_test, x_B, x_bl, x_call, x_CB, x_tup, x_lst, x_not, x_Eq, x_Ne, x_eqII, x_eqSS, x_eqBB,  x_and, x_or, x_andV, x_orV, x_notV, x_if, x_par, x_two, x_drop, x_BM, x_set0, x_setS, x_gcons, x_gnil, x_forL, x_forT, x_forR1, x_forR2, x_forE, x_ref, x_int1, x_oneI, x_oneB, x_noBI, x_twoI, false_or, x_sl, x_noP, x_part, true_and, List.append_nil, cxK, cxKn]; try simp only [V.str.injEq, V.int.injEq, V.bl.injEq])
    refine ⟨r, 70, n, rfl, R, by omega, by omega, by decide, fun a H1 a0 a1 R1 o1 => ?_⟩
    refine ⟨a, rfl, a0, by omega, ?_⟩
    (try simp only [x_asg, x_mkV, x_value, x_lcR1, x_lcL, List.map_cons, List.map_nil, x_yes, x_wipe0, x_wipeS, x_rs, x_callS, x_callKS, x_fld, x_sfld, x_meth, x_make, x_fldaug, x_BM0, x_rAdd, x_retN, x_name, x_sub, x_ret, x_next, x_ifS, x_ite, x_iteN, x_T, x_F, x_tT, x_tF, x_op, x_un, x_var0, x_varS, x_c, x_I0, x_I, x_rU, x_nil, x_cons, x_test, x_B, x_bl, x_call, x_CB, x_tup, x_lst, x_not, x_Eq, x_Ne, x_eqII, x_eqSS, x_eqBB,  x_and, x_or, x_andV, x_orV, x_notV, x_if, x_par, x_two, x_drop, x_BM, x_set0, x_setS, x_gcons, x_gnil, x_forL, x_forT, x_forR1, x_forR2, x_forE, x_ref, x_int1, x_oneI, x_oneB, x_noBI, x_twoI, false_or, x_sl, x_noP, x_part, true_and, List.append_nil, cxK, cxKn]; try simp only [V.str.injEq, V.int.injEq, V.bl.injEq])
    refine ⟨r, 5, _, rfl, R1, by omega, by omega, by decide, fun b H2 b0 b1 R2 o2 => ?_⟩
    (try simp only [x_asg, x_mkV, x_value, x_lcR1, x_lcL, List.map_cons, List.map_nil, x_yes, x_wipe0, x_wipeS, x_rs, x_callS, x_callKS, x_fld, x_sfld, x_meth, x_make, x_fldaug, x_BM0, x_rAdd, x_retN, x_name, x_sub, x_ret, x_next, x_ifS, x_ite, x_iteN, x_T, x_F, x_tT, x_tF, x_op, x_un, x_var0, x_varS, x_c, x_I0, x_I, x_rU, x_nil, x_cons, x_test, x_B, x_bl, x_call, x_CB, x_tup, x_lst, x_not, x_Eq, x_Ne, x_eqII, x_eqSS, x_eqBB,  x_and, x_or, x_andV, x_orV, x_notV, x_if, x_par, x_two, x_drop, x_BM, x_set0, x_setS, x_gcons, x_gnil, x_forL, x_forT, x_forR1, x_forR2, x_forE, x_ref, x_int1, x_oneI, x_oneB, x_noBI, x_twoI, false_or, x_sl, x_noP, x_part, true_and, List.append_nil, cxK, cxKn]; try simp only [V.str.injEq, V.int.injEq, V.bl.injEq])
    refine x_seq.mpr ?_
    (try simp only [x_asg, x_mkV, x_value, x_lcR1, x_lcL, List.map_cons, List.map_nil, x_yes, x_wipe0, x_wipeS, x_rs, x_callS, x_callKS, x_fld, x_sfld, x_meth, x_make, x_fldaug, x_BM0, x_rAdd, x_retN, x_name, x_sub, x_ret, x_next, x_ifS, x_ite, x_iteN, x_T, x_F, x_tT, x_tF, x_op, x_un, x_var0, x_varS, x_c, x_I0, x_I, x_rU, x_nil, x_cons, x_test, x_B, x_bl, x_call, x_CB, x_tup, x_lst, x_not, x_Eq, x_Ne, x_eqII, x_eqSS, x_eqBB,  x_and, x_or, x_andV, x_orV, x_notV, x_if, x_par, x_two, x_drop, x_BM, x_set0, x_setS, x_gcons, x_gnil, x_forL, x_forT, x_forR1, x_forR2, x_forE, x_ref, x_int1, x_oneI, x_oneB, x_noBI, x_twoI, false_or, x_sl, x_noP, x_part, true_and, List.append_nil, cxK, cxKn]; try simp only [V.str.injEq, V.int.injEq, V.bl.injEq])
    refine ⟨r, 20, _, rfl, R2, by omega, by omega, by decide, fun c H3 c0 c1 R3 o3 => ?_⟩
    (try simp only [x_asg, x_mkV, x_value, x_lcR1, x_lcL, List.map_cons, List.map_nil, x_yes, x_wipe0, x_wipeS, x_rs, x_callS, x_callKS, x_fld, x_sfld, x_meth, x_make, x_fldaug, x_BM0, x_rAdd, x_retN, x_name, x_sub, x_ret, x_next, x_ifS, x_ite, x_iteN, x_T, x_F, x_tT, x_tF, x_op, x_un, x_var0, x_varS, x_c, x_I0, x_I, x_rU, x_nil, x_cons, x_test, x_B, x_bl, x_call, x_CB, x_tup, x_lst, x_not, x_Eq, x_Ne, x_eqII, x_eqSS, x_eqBB,  x_and, x_or, x_andV, x_orV, x_notV, x_if, x_par, x_two, x_drop, x_BM, x_set0, x_setS, x_gcons, x_gnil, x_forL, x_forT, x_forR1, x_forR2, x_forE, x_ref, x_int1, x_oneI, x_oneB, x_noBI, x_twoI, false_or, x_sl, x_noP, x_part, true_and, List.append_nil, cxK, cxKn]; try simp only [V.str.injEq, V.int.injEq, V.bl.injEq])
    refine ⟨r, 9, _, rfl, R3, by omega, by omega, by decide, fun d H4 d0 d1 R4 o4 => ?_⟩
    have ub := two_le (show a.toNat ≤ 69 by omega)
    have lb := two_pos a.toNat
    generalize hnear : (2 : Int) ^ a.toNat + b - 2 = near
    have ub' : (2 : Int) ^ 69 = 590295810358705651712 := by decide
    have near0 : -1 ≤ near := by omega
    have near1 : near ≤ 590295810358705651714 := by omega
    (try simp only [x_asg, x_mkV, x_value, x_lcR1, x_lcL, List.map_cons, List.map_nil, x_yes, x_wipe0, x_wipeS, x_rs, x_callS, x_callKS, x_fld, x_sfld, x_meth, x_make, x_fldaug, x_BM0, x_rAdd, x_retN, x_name, x_sub, x_ret, x_next, x_ifS, x_ite, x_iteN, x_T, x_F, x_tT, x_tF, x_op, x_un, x_var0, x_varS, x_c, x_I0, x_I, x_rU, x_nil, x_cons, x_test, x_B, x_bl, x_call, x_CB, x_tup, x_lst, x_not, x_Eq, x_Ne, x_eqII, x_eqSS, x_eqBB,  x_and, x_or, x_andV, x_orV, x_notV, x_if, x_par, x_two, x_drop, x_BM, x_set0, x_setS, x_gcons, x_gnil, x_forL, x_forT, x_forR1, x_forR2, x_forE, x_ref, x_int1, x_oneI, x_oneB, x_noBI, x_twoI, false_or, x_sl, x_noP, x_part, true_and, List.append_nil, cxK, cxKn]; try simp only [V.str.injEq, V.int.injEq, V.bl.injEq])
    refine ⟨wide_mul (a := 100) (b := 8) (by omega) (by omega) (by omega) (by omega) (by omega), by show 3 ≤ sizeLine; decide, fun p np => ?_⟩
    have m0 : -10 ≤ near * (1 + d) := by
      have h : (-1) * (1 + d) ≤ near * (1 + d) := Int.mul_le_mul_of_nonneg_right near0 (by omega)
      omega
    have m1 : near * (1 + d) ≤ 590295810358705651714 * 9 := Int.mul_le_mul near1 (by omega) (by omega) (by omega)
    generalize near * (1 + d) = far at m0 m1
    refine x_seq.mpr ?_
    (try simp only [x_asg, x_mkV, x_value, x_lcR1, x_lcL, List.map_cons, List.map_nil, x_yes, x_wipe0, x_wipeS, x_rs, x_callS, x_callKS, x_fld, x_sfld, x_meth, x_make, x_fldaug, x_BM0, x_rAdd, x_retN, x_name, x_sub, x_ret, x_next, x_ifS, x_ite, x_iteN, x_T, x_F, x_tT, x_tF, x_op, x_un, x_var0, x_varS, x_c, x_I0, x_I, x_rU, x_nil, x_cons, x_test, x_B, x_bl, x_call, x_CB, x_tup, x_lst, x_not, x_Eq, x_Ne, x_eqII, x_eqSS, x_eqBB,  x_and, x_or, x_andV, x_orV, x_notV, x_if, x_par, x_two, x_drop, x_BM, x_set0, x_setS, x_gcons, x_gnil, x_forL, x_forT, x_forR1, x_forR2, x_forE, x_ref, x_int1, x_oneI, x_oneB, x_noBI, x_twoI, false_or, x_sl, x_noP, x_part, true_and, List.append_nil, cxK, cxKn]; try simp only [V.str.injEq, V.int.injEq, V.bl.injEq])
    refine ⟨x_tyL (SqL.of upd_same), ?_⟩
    refine ⟨⟨by decide, by decide, pow_ok (by decide) (by decide)⟩, ?_⟩
    refine ⟨r, _, _, rfl, R4.new np, by omega, by decide, by decide, fun e H5 e0 e1 R5 o5 => ?_⟩
    have pr := R4.ne np
    have hp5 : H5 p = some (.lst [.int c, .int near, .int far]) := o5 p _ pr upd_same
    refine x_app hp5 (by show 3 < sizeLine; decide) ?_
    (try simp only [x_asg, x_mkV, x_value, x_lcR1, x_lcL, List.map_cons, List.map_nil, x_yes, x_wipe0, x_wipeS, x_rs, x_callS, x_callKS, x_fld, x_sfld, x_meth, x_make, x_fldaug, x_BM0, x_rAdd, x_retN, x_name, x_sub, x_ret, x_next, x_ifS, x_ite, x_iteN, x_T, x_F, x_tT, x_tF, x_op, x_un, x_var0, x_varS, x_c, x_I0, x_I, x_rU, x_nil, x_cons, x_test, x_B, x_bl, x_call, x_CB, x_tup, x_lst, x_not, x_Eq, x_Ne, x_eqII, x_eqSS, x_eqBB,  x_and, x_or, x_andV, x_orV, x_notV, x_if, x_par, x_two, x_drop, x_BM, x_set0, x_setS, x_gcons, x_gnil, x_forL, x_forT, x_forR1, x_forR2, x_forE, x_ref, x_int1, x_oneI, x_oneB, x_noBI, x_twoI, false_or, x_sl, x_noP, x_part, true_and, List.append_nil, cxK, cxKn]; try simp only [V.str.injEq, V.int.injEq, V.bl.injEq])
    refine ⟨⟨by decide, by decide, pow_ok (by decide) (by decide)⟩, ?_⟩
    have R6 := R5.mut (o := .lst ([.int c, .int near, .int far] ++ [.int e])) pr
    refine ⟨r, 4, _, rfl, R6, by omega, by omega, by decide, fun i H7 i0 i1 R7 o7 => ?_⟩
    have hp7 := o7 p _ pr upd_same
    obtain ⟨v, hv, hm⟩ := atI_in (xs := [.int c, .int near, .int far, .int e]) i0 i1
    refine x_ixL (SqL.of hp7) hv ?_
    obtain ⟨z, rfl, z0, z1⟩ : ∃ z : Int, v = .int z ∧ -10 ≤ z ∧ z ≤ 10 ^ 30 := by
      simp only [List.mem_cons, List.not_mem_nil, or_false] at hm
      have t30 : (10 : Int) ^ 30 = 1000000000000000000000000000000 := by decide
      have e1' : e ≤ 10 ^ 30 := by
        have : e < 10 ^ 30 + 1 := e1
        omega
      rcases hm with rfl | rfl | rfl | rfl
      · exact ⟨_, rfl, by omega, by omega⟩
      · exact ⟨_, rfl, by omega, by omega⟩
      · exact ⟨_, rfl, by omega, by omega⟩
      · exact ⟨_, rfl, by omega, e1'⟩
    (try simp only [x_asg, x_mkV, x_value, x_lcR1, x_lcL, List.map_cons, List.map_nil, x_yes, x_wipe0, x_wipeS, x_rs, x_callS, x_callKS, x_fld, x_sfld, x_meth, x_make, x_fldaug, x_BM0, x_rAdd, x_retN, x_name, x_sub, x_ret, x_next, x_ifS, x_ite, x_iteN, x_T, x_F, x_tT, x_tF, x_op, x_un, x_var0, x_varS, x_c, x_I0, x_I, x_rU, x_nil, x_cons, x_test, x_B, x_bl, x_call, x_CB, x_tup, x_lst, x_not, x_Eq, x_Ne, x_eqII, x_eqSS, x_eqBB,  x_and, x_or, x_andV, x_orV, x_notV, x_if, x_par, x_two, x_drop, x_BM, x_set0, x_setS, x_gcons, x_gnil, x_forL, x_forT, x_forR1, x_forR2, x_forE, x_ref, x_int1, x_oneI, x_oneB, x_noBI, x_twoI, false_or, x_sl, x_noP, x_part, true_and, List.append_nil, cxK, cxKn]; try simp only [V.str.injEq, V.int.injEq, V.bl.injEq])
    refine ⟨by show 2 ≤ sizeLine; decide, fun t nt => ?_⟩
    refine ⟨r, 2, _, rfl, R7.new nt, by omega, by omega, by decide, fun g H8 g0 g1 R8 o8 => ?_⟩
    have ht8 := o8 t _ (R7.ne nt) upd_same
    obtain ⟨u, hu, hum⟩ := atI_in (xs := [.int 1, .int (-1)]) g0 g1
    refine x_ixL (SqL.of ht8) hu ?_
    have t30 : (10 : Int) ^ (30 : Int).toNat = 1000000000000000000000000000000 := by decide
    have t30' : (10 : Int) ^ 30 = 1000000000000000000000000000000 := by decide
    have oA := ((o1.trans o2).trans o3).trans o4
    have pn : H p = none := oA.free R4 np
    have oth : Oth r H H8 := (((oA.trans ((Oth.new np).trans o5)).mut (o := .lst ([.int c, .int near, .int far] ++ [.int e])) pn).trans o7).trans ((Oth.new nt).trans o8)
    have fin : ∀ s : Int, s = 1 ∨ s = -1 → CMulW (if z < 10 ^ (30 : Int).toNat then z else 10 ^ (30 : Int).toNat) s ∧ Q (.int ((if z < 10 ^ (30 : Int).toNat then z else 10 ^ (30 : Int).toNat) * s)) H8 := fun s hs => by
      have hz : ∃ y, (if z < 10 ^ (30 : Int).toNat then z else 10 ^ (30 : Int).toNat) = y ∧ -10 ≤ y ∧ y ≤ 10 ^ 30 := by
        refine ⟨_, rfl, ?_, ?_⟩ <;> split <;> omega
      obtain ⟨y, hy, y0, y1⟩ := hz
      rw [hy]
      refine ⟨wide_mul (a := 200) (b := 8) (by omega) (by omega) (by omega) (by omega) (by omega), ?_⟩
      rcases hs with rfl | rfl
      · exact q _ _ (by omega) (by omega) R8 oth
      · exact q _ _ (by omega) (by omega) R8 oth
    simp only [List.mem_cons, List.not_mem_nil, or_false] at hum
    rcases hum with rfl | rfl
    · (try simp only [x_asg, x_mkV, x_value, x_lcR1, x_lcL, List.map_cons, List.map_nil, x_yes, x_wipe0, x_wipeS, x_rs, x_callS, x_callKS, x_fld, x_sfld, x_meth, x_make, x_fldaug, x_BM0, x_rAdd, x_retN, x_name, x_sub, x_ret, x_next, x_ifS, x_ite, x_iteN, x_T, x_F, x_tT, x_tF, x_op, x_un, x_var0, x_varS, x_c, x_I0, x_I, x_rU, x_nil, x_cons, x_test, x_B, x_bl, x_call, x_CB, x_tup, x_lst, x_not, x_Eq, x_Ne, x_eqII, x_eqSS, x_eqBB,  x_and, x_or, x_andV, x_orV, x_notV, x_if, x_par, x_two, x_drop, x_BM, x_set0, x_setS, x_gcons, x_gnil, x_forL, x_forT, x_forR1, x_forR2, x_forE, x_ref, x_int1, x_oneI, x_oneB, x_noBI, x_twoI, false_or, x_sl, x_noP, x_part, true_and, List.append_nil, cxK, cxKn]; try simp only [V.str.injEq, V.int.injEq, V.bl.injEq])
      exact fin 1 (.inl rfl)
    · (try simp only [x_asg, x_mkV, x_value, x_lcR1, x_lcL, List.map_cons, List.map_nil, x_yes, x_wipe0, x_wipeS, x_rs, x_callS, x_callKS, x_fld, x_sfld, x_meth, x_make, x_fldaug, x_BM0, x_rAdd, x_retN, x_name, x_sub, x_ret, x_next, x_ifS, x_ite, x_iteN, x_T, x_F, x_tT, x_tF, x_op, x_un, x_var0, x_varS, x_c, x_I0, x_I, x_rU, x_nil, x_cons, x_test, x_B, x_bl, x_call, x_CB, x_tup, x_lst, x_not, x_Eq, x_Ne, x_eqII, x_eqSS, x_eqBB,  x_and, x_or, x_andV, x_orV, x_notV, x_if, x_par, x_two, x_drop, x_BM, x_set0, x_setS, x_gcons, x_gnil, x_forL, x_forT, x_forR1, x_forR2, x_forE, x_ref, x_int1, x_oneI, x_oneB, x_noBI, x_twoI, false_or, x_sl, x_noP, x_part, true_and, List.append_nil, cxK, cxKn]; try simp only [V.str.injEq, V.int.injEq, V.bl.injEq])
      exact fin (-1) (.inr rfl)
end

abbrev s_is_cast : Stmt := topS 10
theorem sc_is_cast : FnScope ["word", "width"] ["word", "width"] (defScope s_is_cast) := ⟨rfl, rfl, rfl, by decide +kernel, rfl, by decide +kernel, by decide +kernel⟩
abbrev s_lowest_result : Stmt := topS 12
theorem sc_lowest_result : FnScope ["word", "width"] ["word", "width"] (defScope s_lowest_result) := ⟨rfl, rfl, rfl, by decide +kernel, rfl, by decide +kernel, by decide +kernel⟩
abbrev s_cast : Stmt := topS 13
theorem sc_cast : FnScope ["number", "word", "width", "lowest"] ["number", "word", "width"] (defScope s_cast) := ⟨rfl, rfl, rfl, by decide +kernel, rfl, by decide +kernel, by decide +kernel⟩
section
variable {P : Program} {w : World} {K : PySem.W.Frag} {mg : Str → Option Value} {base : Heap}
def spIsCast : Sp := fun vs H Q _ => ∃ (x : Str) (n : Int), vs = [.str x, .int n] ∧ ∀ H', Same H H' → Q (.bl (isC x n)) H'
theorem p_is_cast (T : Tx K mg "is_cast" s_is_cast) : Pr P w K mg base CX0 1 "is_cast" ["word", "width"] spIsCast := by
  refine mkP T sc_is_cast (fun _ _ _ _ _ _ us hl => match us, hl with | [_, _], _ => rfl) (fun vs H Q E h => ?_) (fun f cdv A outer s H vs Q E hG hr h => ?_)
  · obtain ⟨_, _, rfl, _⟩ := h
    rfl
  · obtain ⟨x, n, rfl, q⟩ := h
    have nd := sc_is_cast.nd
    refine ⟨_, (pss_one (ps_ret (pe_and (pe_cmpR op_in_seq (pv 0) (pe_tup (pa_cons pe_str (pa_cons pe_str pa_nil))) (by rfl)) (pe_one (pe_cmpR op_ge (pv 1) pe_int (nomark _)))))), ?_⟩
    show (tRet _) _ [some (V.str x), some (V.int n)] H
    (try simp only [x_asg, x_mkV, x_value, x_lcR1, x_lcL, List.map_cons, List.map_nil, x_yes, x_wipe0, x_wipeS, x_rs, x_callS, x_callKS, x_fld, x_sfld, x_meth, x_make, x_fldaug, x_BM0, x_rAdd, x_retN, x_name, x_sub, x_ret, x_next, x_ifS, x_ite, x_iteN, x_T, x_F, x_tT, x_tF, x_op, x_un, x_var0, x_varS, x_c, x_I0, x_I, x_rU, x_nil, x_cons, x_test, x_B, x_bl, x_call, x_CB, x_tup, x_lst, x_not, x_Eq, x_Ne, x_eqII, x_eqSS, x_eqBB,  x_and, x_or, x_andV, x_orV, x_notV, x_if, x_par, x_two, x_drop, x_BM, x_set0, x_setS, x_gcons, x_gnil, x_forL, x_forT, x_forR1, x_forR2, x_forE, x_ref, x_int1, x_oneI, x_oneB, x_noBI, x_twoI, false_or, x_sl, x_noP, x_part, true_and, List.append_nil, cxK, cxKn]; try simp only [V.str.injEq, V.int.injEq, V.bl.injEq])
    refine ⟨by show 2 ≤ sizeLine; decide, fun p np => ?_⟩
    refine ⟨p, _, rfl, .inr (SqT.of upd_same), rfl, rfl, ?_⟩
    have q' := q _ (same_new (o := .tup [.str "u", .str "s"]) np)
    unfold isC at q'
    (try simp only [x_asg, x_mkV, x_value, x_lcR1, x_lcL, List.map_cons, List.map_nil, x_yes, x_wipe0, x_wipeS, x_rs, x_callS, x_callKS, x_fld, x_sfld, x_meth, x_make, x_fldaug, x_BM0, x_rAdd, x_retN, x_name, x_sub, x_ret, x_next, x_ifS, x_ite, x_iteN, x_T, x_F, x_tT, x_tF, x_op, x_un, x_var0, x_varS, x_c, x_I0, x_I, x_rU, x_nil, x_cons, x_test, x_B, x_bl, x_call, x_CB, x_tup, x_lst, x_not, x_Eq, x_Ne, x_eqII, x_eqSS, x_eqBB,  x_and, x_or, x_andV, x_orV, x_notV, x_if, x_par, x_two, x_drop, x_BM, x_set0, x_setS, x_gcons, x_gnil, x_forL, x_forT, x_forR1, x_forR2, x_forE, x_ref, x_int1, x_oneI, x_oneB, x_noBI, x_twoI, false_or, x_sl, x_noP, x_part, true_and, List.append_nil, cxK, cxKn]; try simp only [V.str.injEq, V.int.injEq, V.bl.injEq])
    rw [show (if false = true then !inV (V.str x) [V.str "u", V.str "s"] else inV (V.str x) [V.str "u", V.str "s"]) = inV (V.str x) [V.str "u", V.str "s"] from rfl, inV2]
    cases hc : decide (x = "u" ∨ x = "s") with
    | true =>
      rw [hc, Bool.true_and] at q'
      exact x_T.mpr q'
    | false =>
      rw [hc, Bool.false_and] at q'
      exact x_F.mpr q'
def spLow : Sp := fun vs H Q _ => ∃ (x : Str) (n : Int), vs = [.str x, .int n] ∧ 1 ≤ n ∧ n ≤ big ∧ Q (.int (lowI x n)) H
theorem p_lowest_result (T : Tx K mg "lowest_result" s_lowest_result) : Pr P w K mg base CX0 1 "lowest_result" ["word", "width"] spLow := by
  refine mkP T sc_lowest_result (fun _ _ _ _ _ _ us hl => match us, hl with | [_, _], _ => rfl) (fun vs H Q E h => ?_) (fun f cdv A outer s H vs Q E hG hr h => ?_)
  · obtain ⟨_, _, rfl, _⟩ := h
    rfl
  · obtain ⟨x, n, rfl, n0, n1, q⟩ := h
    have nd := sc_lowest_result.nd
    unfold big at n1
    refine ⟨_, (pss_cons (ps_if (pt_cmpR op_eq (pv 0) pe_str (nomark _)) (pss_one (ps_ret pe_int)) pss_nil) (pss_one (ps_ret (pe_un un_neg (pe_op op_shl pe_int (pe_op op_sub (pv 1) pe_int)))))), ?_⟩
    show (tSeq _ _) _ [some (V.str x), some (V.int n)] H
    refine x_seq.mpr ?_
    (try simp only [x_asg, x_mkV, x_value, x_lcR1, x_lcL, List.map_cons, List.map_nil, x_yes, x_wipe0, x_wipeS, x_rs, x_callS, x_callKS, x_fld, x_sfld, x_meth, x_make, x_fldaug, x_BM0, x_rAdd, x_retN, x_name, x_sub, x_ret, x_next, x_ifS, x_ite, x_iteN, x_T, x_F, x_tT, x_tF, x_op, x_un, x_var0, x_varS, x_c, x_I0, x_I, x_rU, x_nil, x_cons, x_test, x_B, x_bl, x_call, x_CB, x_tup, x_lst, x_not, x_Eq, x_Ne, x_eqII, x_eqSS, x_eqBB,  x_and, x_or, x_andV, x_orV, x_notV, x_if, x_par, x_two, x_drop, x_BM, x_set0, x_setS, x_gcons, x_gnil, x_forL, x_forT, x_forR1, x_forR2, x_forE, x_ref, x_int1, x_oneI, x_oneB, x_noBI, x_twoI, false_or, x_sl, x_noP, x_part, true_and, List.append_nil, cxK, cxKn]; try simp only [V.str.injEq, V.int.injEq, V.bl.injEq])
    unfold lowI at q
    refine ⟨fun h => ?_, fun h => ?_⟩
    · rw [if_pos h] at q
      exact q
    · rw [if_neg h] at q
      refine ⟨⟨by omega, by omega, by decide⟩, ?_⟩
      rw [Int.one_mul]
      exact q
def spCast : Sp := fun vs H Q _ => ∃ (y : Int) (x : Str) (n : Int), vs = [.int y, .str x, .int n] ∧ 1 ≤ n ∧ n ≤ big ∧ Q (.int (castI y x n)) H
theorem p_cast (T : Tx K mg "cast" s_cast) (h_lowest_result : Pr P w K mg base CX0 1 "lowest_result" ["word", "width"] spLow) : Pr P w K mg base CX0 2 "cast" ["number", "word", "width"] spCast := by
  refine mkP T sc_cast (fun _ _ _ _ _ _ us hl => match us, hl with | [_, _, _], _ => rfl) (fun vs H Q E h => ?_) (fun f cdv A outer s H vs Q E hG hr h => ?_)
  · obtain ⟨_, _, _, rfl, _⟩ := h
    rfl
  · obtain ⟨y, x, n, rfl, n0, n1, q⟩ := h
    have nd := sc_cast.nd
    refine ⟨_, (pss_cons (ps_set (i := 3) nd rfl (.inl rfl) (pe_P h_lowest_result hr hG (by rfl) (pa_cons (pv 1) (pa_cons (pv 2) pa_nil)))) (pss_one (ps_ret (pe_op op_add (pv 3) (pe_op op_mod (pe_op op_sub (pv 0) (pv 3)) (pe_op op_shl pe_int (pv 2))))))), ?_⟩
    show (tSeq _ _) _ [some (V.int y), some (V.str x), some (V.int n), none] H
    refine x_seq.mpr ?_
    (try simp only [x_asg, x_mkV, x_value, x_lcR1, x_lcL, List.map_cons, List.map_nil, x_yes, x_wipe0, x_wipeS, x_rs, x_callS, x_callKS, x_fld, x_sfld, x_meth, x_make, x_fldaug, x_BM0, x_rAdd, x_retN, x_name, x_sub, x_ret, x_next, x_ifS, x_ite, x_iteN, x_T, x_F, x_tT, x_tF, x_op, x_un, x_var0, x_varS, x_c, x_I0, x_I, x_rU, x_nil, x_cons, x_test, x_B, x_bl, x_call, x_CB, x_tup, x_lst, x_not, x_Eq, x_Ne, x_eqII, x_eqSS, x_eqBB,  x_and, x_or, x_andV, x_orV, x_notV, x_if, x_par, x_two, x_drop, x_BM, x_set0, x_setS, x_gcons, x_gnil, x_forL, x_forT, x_forR1, x_forR2, x_forE, x_ref, x_int1, x_oneI, x_oneB, x_noBI, x_twoI, false_or, x_sl, x_noP, x_part, true_and, List.append_nil, cxK, cxKn]; try simp only [V.str.injEq, V.int.injEq, V.bl.injEq])
    refine ⟨_, _, rfl, n0, n1, ?_⟩
    (try simp only [x_asg, x_mkV, x_value, x_lcR1, x_lcL, List.map_cons, List.map_nil, x_yes, x_wipe0, x_wipeS, x_rs, x_callS, x_callKS, x_fld, x_sfld, x_meth, x_make, x_fldaug, x_BM0, x_rAdd, x_retN, x_name, x_sub, x_ret, x_next, x_ifS, x_ite, x_iteN, x_T, x_F, x_tT, x_tF, x_op, x_un, x_var0, x_varS, x_c, x_I0, x_I, x_rU, x_nil, x_cons, x_test, x_B, x_bl, x_call, x_CB, x_tup, x_lst, x_not, x_Eq, x_Ne, x_eqII, x_eqSS, x_eqBB,  x_and, x_or, x_andV, x_orV, x_notV, x_if, x_par, x_two, x_drop, x_BM, x_set0, x_setS, x_gcons, x_gnil, x_forL, x_forT, x_forR1, x_forR2, x_forE, x_ref, x_int1, x_oneI, x_oneB, x_noBI, x_twoI, false_or, x_sl, x_noP, x_part, true_and, List.append_nil, cxK, cxKn]; try simp only [V.str.injEq, V.int.injEq, V.bl.injEq])
    have n1' := n1
    unfold big at n1'
    refine ⟨⟨by omega, by omega, by decide⟩, ?_, ?_⟩
    · rw [Int.one_mul]; exact two_pos _
    · rw [Int.one_mul]
      exact q
end

abbrev s_check_chain : Stmt := topS 11
theorem sc_check_chain : FnScope ["chain", "index", "word", "amount"] ["chain"] (defScope s_check_chain) := ⟨rfl, rfl, rfl, by decide +kernel, rfl, by decide +kernel, by decide +kernel⟩
section
variable {P : Program} {w : World} {K : PySem.W.Frag} {mg : Str → Option Value} {base : Heap} {CS fS : Addr} {fdS : FuncData}
def firstBad (c : Ch) : Option Nat := c.findIdx? fun s => !okS s
/-- an exception's dict with its value -/
def XdAt (H : Hp) (d : Addr) (v : V) : Prop := H d = some (.xd [("value", v)])
def spCheckX (K : PySem.W.Frag) (CS : Addr) : Sp := fun vs H Q E => ∃ (a : Addr) (c : Ch), vs = [.ref a] ∧ ChAt K H a c ∧ (firstBad c = none → ∀ H', Same H H' → Q .non H') ∧
  ∀ i, firstBad c = some i → ∀ d H', Same H H' → XdAt H' d (.int (i : Nat)) → E (.ref CS) (some d) H'
theorem firstBad_some {c : Ch} {i : Nat} {s : Str × Int} (h : c[i]? = some s) (hb : okS s = false) (hp : ∀ j, j < i → ∀ s, c[j]? = some s → okS s = true) : firstBad c = some i := by
  unfold firstBad
  rw [List.findIdx?_eq_some_iff_getElem]
  obtain ⟨hi, e⟩ := List.getElem?_eq_some_iff.mp h
  refine ⟨hi, by rw [e, hb]; rfl, fun j hj => ?_⟩
  have := hp j hj _ (List.getElem?_eq_getElem (Nat.lt_trans hj hi))
  simp [this]
theorem firstBad_none {c : Ch} (hp : ∀ j, j < c.length → ∀ s, c[j]? = some s → okS s = true) : firstBad c = none := by
  unfold firstBad
  rw [List.findIdx?_eq_none_iff]
  intro s hs
  obtain ⟨j, hj, e⟩ := List.getElem_of_mem hs
  have := hp j hj s (by rw [List.getElem?_eq_getElem hj, e])
  simp [this]
theorem p_check_chainX (T : Tx K mg "check_chain" s_check_chain) (XS : XC K mg "InvalidStep" CS fS) (iS : FnOk P w K mg base CX0 1 fS fdS ["self", "value"] (spInit K CS)) (bS : Binds K fdS ["self", "value"] []) (m_enumerate : mg "enumerate" = none)
    (h_is_cast : Pr P w K mg base CX0 1 "is_cast" ["word", "width"] spIsCast) : Pr P w K mg base (L2N.CX P w) 3 "check_chain" ["chain"] (spCheckX K CS) := by
  refine mkPX T sc_check_chain (fun _ _ _ _ _ _ us hl => match us, hl with | [_], _ => rfl) (fun vs H Q E h => ?_) (fun f cdv A outer s H vs Q E hG hr h => ?_)
  · obtain ⟨_, _, rfl, _⟩ := h
    rfl
  · obtain ⟨a, c, rfl, ⟨xs, hL, hS⟩, q, qE⟩ := h
    have nd := sc_check_chain.nd
    refine ⟨_, (pss_one (ps_for (passes_of rfl) rfl (pi_enum (by rfl) m_enumerate (pa_cons (pv 0) pa_nil)) (pg_tup rfl (pgs_cons (pg_name (i := 1) nd rfl (.inl rfl)) (pgs_cons (pg_tup rfl (pgs_cons (pg_name (i := 2) nd rfl (.inl rfl)) (pgs_cons (pg_name (i := 3) nd rfl (.inl rfl)) pgs_nil))) pgs_nil))) (pss_one (ps_if (PW.pt (pw_and (pt_cmpR op_ne (pv 2) pe_str (nomark _)) (pw_and1 (pt_not (pt_val (pe_P h_is_cast hr hG (by rfl) (pa_cons (pv 2) (pa_cons (pv 3) pa_nil)))))))) (pss_one (ps_rs rfl (L2N.takes_of rfl rfl rfl rfl) (pmk_ex XS iS (hr.mono (by decide)) bS (by rfl) (pa_cons (pv 1) pa_nil)))) pss_nil)))), ?_⟩
    show (tFor _ _ _) _ [some (V.ref a), none, none, none] H
    (try simp only [x_asg, x_mkV, x_value, x_lcR1, x_lcL, List.map_cons, List.map_nil, x_yes, x_wipe0, x_wipeS, x_rs, x_callS, x_callKS, x_fld, x_sfld, x_meth, x_make, x_fldaug, x_BM0, x_rAdd, x_retN, x_name, x_sub, x_ret, x_next, x_ifS, x_ite, x_iteN, x_T, x_F, x_tT, x_tF, x_op, x_un, x_var0, x_varS, x_c, x_I0, x_I, x_rU, x_nil, x_cons, x_test, x_B, x_bl, x_call, x_CB, x_tup, x_lst, x_not, x_Eq, x_Ne, x_eqII, x_eqSS, x_eqBB,  x_and, x_or, x_andV, x_orV, x_notV, x_if, x_par, x_two, x_drop, x_BM, x_set0, x_setS, x_gcons, x_gnil, x_forL, x_forT, x_forR1, x_forR2, x_forE, x_ref, x_int1, x_oneI, x_oneB, x_noBI, x_twoI, false_or, x_sl, x_noP, x_part, true_and, List.append_nil, cxK, cxKn]; try simp only [V.str.injEq, V.int.injEq, V.bl.injEq])
    refine ⟨a, xs, rfl, hL, ?_⟩
    refine lpE (xs := xs) (fun i σ H' => (∃ y1 y2 y3, σ = [some (.ref a), y1, y2, y3]) ∧ Same H H' ∧ ∀ j, j < i → ∀ s, c[j]? = some s → okS s = true) ⟨⟨_, _, _, rfl⟩, Same.refl _, fun j hj => absurd hj (Nat.not_lt_zero _)⟩ (fun i σ H' _ h => h.2.1.seq hL) (fun i x σ H' T' hx h nT => ?_)
      (fun σ H' h => q (firstBad_none fun j hj => h.2.2 j (by rw [hS.len]; exact hj)) H' h.2.1)
    obtain ⟨⟨y1, y2, y3, rfl⟩, hH, hp⟩ := h
    obtain ⟨t, w', n, rfl, hc, hT⟩ := hS.get hx
    have more : okS (w', n) = true → ∀ j, j < i + 1 → ∀ s, c[j]? = some s → okS s = true := fun ok j hj s hs => by
      rcases Nat.lt_succ_iff_lt_or_eq.mp hj with h | h
      · exact hp j h s hs
      · subst h
        rw [hc] at hs
        cases hs
        exact ok
    refine x_gtup (SqT.of upd_same) rfl ?_
    (try simp only [x_asg, x_mkV, x_value, x_lcR1, x_lcL, List.map_cons, List.map_nil, x_yes, x_wipe0, x_wipeS, x_rs, x_callS, x_callKS, x_fld, x_sfld, x_meth, x_make, x_fldaug, x_BM0, x_rAdd, x_retN, x_name, x_sub, x_ret, x_next, x_ifS, x_ite, x_iteN, x_T, x_F, x_tT, x_tF, x_op, x_un, x_var0, x_varS, x_c, x_I0, x_I, x_rU, x_nil, x_cons, x_test, x_B, x_bl, x_call, x_CB, x_tup, x_lst, x_not, x_Eq, x_Ne, x_eqII, x_eqSS, x_eqBB,  x_and, x_or, x_andV, x_orV, x_notV, x_if, x_par, x_two, x_drop, x_BM, x_set0, x_setS, x_gcons, x_gnil, x_forL, x_forT, x_forR1, x_forR2, x_forE, x_ref, x_int1, x_oneI, x_oneB, x_noBI, x_twoI, false_or, x_sl, x_noP, x_part, true_and, List.append_nil, cxK, cxKn]; try simp only [V.str.injEq, V.int.injEq, V.bl.injEq])
    refine x_gtup (Same.tup (hH.trans (same_new nT)) hT) rfl ?_
    (try simp only [x_asg, x_mkV, x_value, x_lcR1, x_lcL, List.map_cons, List.map_nil, x_yes, x_wipe0, x_wipeS, x_rs, x_callS, x_callKS, x_fld, x_sfld, x_meth, x_make, x_fldaug, x_BM0, x_rAdd, x_retN, x_name, x_sub, x_ret, x_next, x_ifS, x_ite, x_iteN, x_T, x_F, x_tT, x_tF, x_op, x_un, x_var0, x_varS, x_c, x_I0, x_I, x_rU, x_nil, x_cons, x_test, x_B, x_bl, x_call, x_CB, x_tup, x_lst, x_not, x_Eq, x_Ne, x_eqII, x_eqSS, x_eqBB,  x_and, x_or, x_andV, x_orV, x_notV, x_if, x_par, x_two, x_drop, x_BM, x_set0, x_setS, x_gcons, x_gnil, x_forL, x_forT, x_forR1, x_forR2, x_forE, x_ref, x_int1, x_oneI, x_oneB, x_noBI, x_twoI, false_or, x_sl, x_noP, x_part, true_and, List.append_nil, cxK, cxKn]; try simp only [V.str.injEq, V.int.injEq, V.bl.injEq])
    refine ⟨fun h => ?_, fun h => ⟨⟨_, _, _, rfl⟩, hH.trans (same_new nT), more (by unfold okS; simp [show w' = "add" from h])⟩⟩
    refine ⟨_, _, rfl, fun H2 s2 => ?_⟩
    have sH := (hH.trans (same_new nT)).trans s2
    (try simp only [x_asg, x_mkV, x_value, x_lcR1, x_lcL, List.map_cons, List.map_nil, x_yes, x_wipe0, x_wipeS, x_rs, x_callS, x_callKS, x_fld, x_sfld, x_meth, x_make, x_fldaug, x_BM0, x_rAdd, x_retN, x_name, x_sub, x_ret, x_next, x_ifS, x_ite, x_iteN, x_T, x_F, x_tT, x_tF, x_op, x_un, x_var0, x_varS, x_c, x_I0, x_I, x_rU, x_nil, x_cons, x_test, x_B, x_bl, x_call, x_CB, x_tup, x_lst, x_not, x_Eq, x_Ne, x_eqII, x_eqSS, x_eqBB,  x_and, x_or, x_andV, x_orV, x_notV, x_if, x_par, x_two, x_drop, x_BM, x_set0, x_setS, x_gcons, x_gnil, x_forL, x_forT, x_forR1, x_forR2, x_forE, x_ref, x_int1, x_oneI, x_oneB, x_noBI, x_twoI, false_or, x_sl, x_noP, x_part, true_and, List.append_nil, cxK, cxKn]; try simp only [V.str.injEq, V.int.injEq, V.bl.injEq])
    cases e : isC w' n with
    | true =>
      (try simp only [x_asg, x_mkV, x_value, x_lcR1, x_lcL, List.map_cons, List.map_nil, x_yes, x_wipe0, x_wipeS, x_rs, x_callS, x_callKS, x_fld, x_sfld, x_meth, x_make, x_fldaug, x_BM0, x_rAdd, x_retN, x_name, x_sub, x_ret, x_next, x_ifS, x_ite, x_iteN, x_T, x_F, x_tT, x_tF, x_op, x_un, x_var0, x_varS, x_c, x_I0, x_I, x_rU, x_nil, x_cons, x_test, x_B, x_bl, x_call, x_CB, x_tup, x_lst, x_not, x_Eq, x_Ne, x_eqII, x_eqSS, x_eqBB,  x_and, x_or, x_andV, x_orV, x_notV, x_if, x_par, x_two, x_drop, x_BM, x_set0, x_setS, x_gcons, x_gnil, x_forL, x_forT, x_forR1, x_forR2, x_forE, x_ref, x_int1, x_oneI, x_oneB, x_noBI, x_twoI, false_or, x_sl, x_noP, x_part, true_and, List.append_nil, cxK, cxKn]; try simp only [V.str.injEq, V.int.injEq, V.bl.injEq])
      exact ⟨⟨_, _, _, rfl⟩, sH, more (by unfold okS; rw [e]; simp)⟩
    | false =>
      (try simp only [x_asg, x_mkV, x_value, x_lcR1, x_lcL, List.map_cons, List.map_nil, x_yes, x_wipe0, x_wipeS, x_rs, x_callS, x_callKS, x_fld, x_sfld, x_meth, x_make, x_fldaug, x_BM0, x_rAdd, x_retN, x_name, x_sub, x_ret, x_next, x_ifS, x_ite, x_iteN, x_T, x_F, x_tT, x_tF, x_op, x_un, x_var0, x_varS, x_c, x_I0, x_I, x_rU, x_nil, x_cons, x_test, x_B, x_bl, x_call, x_CB, x_tup, x_lst, x_not, x_Eq, x_Ne, x_eqII, x_eqSS, x_eqBB,  x_and, x_or, x_andV, x_orV, x_notV, x_if, x_par, x_two, x_drop, x_BM, x_set0, x_setS, x_gcons, x_gnil, x_forL, x_forT, x_forR1, x_forR2, x_forE, x_ref, x_int1, x_oneI, x_oneB, x_noBI, x_twoI, false_or, x_sl, x_noP, x_part, true_and, List.append_nil, cxK, cxKn]; try simp only [V.str.injEq, V.int.injEq, V.bl.injEq])
      refine mkR1 fun d nd => ?_
      refine qE i (firstBad_some hc (by unfold okS; rw [e]; simp [h]) hp) d _ (sH.trans (same_new nd)) upd_same
end

def nameOf : Nat → Str
  | 0 => "InvalidStep" | 1 => "InvalidForm" | 2 => "InvalidNumber" | 3 => "InvalidRange" | 4 => "ChangedNumber" | 5 => "NothingToUndo" | _ => "Unreadable"
/-- the seven classes with their __init__s, and CastError -/
structure Cls (P : Program) (w : World) (K : PySem.W.Frag) (mg : Str → Option Value) (base : Heap) (C fI : Nat → Addr) (fd : Nat → FuncData) (C0 : Addr) : Prop where
  cls : ∀ i : Nat, XC K mg (nameOf i) (C i) (fI i)
  ini : ∀ i : Nat, FnOk P w K mg base CX0 1 (fI i) (fd i) ["self", "value"] (spInit K (C i))
  bi : ∀ i : Nat, Binds K (fd i) ["self", "value"] []
  kw : ∀ i : Nat, ∀ (s : Shared) (u v : Value), BindsTo s (fd i) ⟨[u], [("value", v)]⟩ [("self", u), ("value", v)]
  g0 : mg "CastError" = some (.ref C0)
  kit : ∀ i j : Nat, i < 7 → j < 7 → PySem.W.kitOne K (.ref (C i)) (.ref (C j)) = some (decide (i = j))
  kit0 : ∀ i : Nat, i < 7 → PySem.W.kitOne K (.ref (C i)) (.ref C0) = some true
  kitV : ∀ i : Nat, i < 7 → PySem.W.kitOne K (.ref (C i)) (.type "ValueError") = some true
section
variable {P : Program} {w : World} {K : PySem.W.Frag} {mg : Str → Option Value} {base : Heap} {C fI : Nat → Addr} {fd : Nat → FuncData} {C0 : Addr}
def ErrAt (K : PySem.W.Frag) (H : Hp) (a C : Addr) (v : V) : Prop := ∃ d, H a = some (exT a (.ref C) (some d)) ∧ H d = some (.xd [("value", v)])
theorem ErrAt.same {H H' : Hp} {a C : Addr} {v : V} (e : Same H H') (h : ErrAt K H a C v) : ErrAt K H' a C v := by
  obtain ⟨d, h1, h2⟩ := h
  exact ⟨d, e _ _ h1, e _ _ h2⟩
theorem x_isX {H : Hp} {Q : VK} {a c : Addr} {v : V} {b : Bool} (Y : Cls P w K mg base C fI fd C0) {i : Nat} (h : ErrAt K H a (C i) v) (k : PySem.W.kitOne K (.ref (C i)) (.ref c) = some b) (q : Q (.bl b) H) : rIsX K [.ref a, .ref c] H Q := by
  obtain ⟨d, h1, h2⟩ := h
  exact ⟨a, C i, d, _, .ref c, .ref c, b, rfl, h1, h2, (Y.cls i).I, .own c, k, q⟩
theorem x_isV {H : Hp} {Q : VK} {a : Addr} {v : V} {b : Bool} {n : String} (Y : Cls P w K mg base C fI fd C0) {i : Nat} (h : ErrAt K H a (C i) v) (k : PySem.W.kitOne K (.ref (C i)) (.type n) = some b) (q : Q (.bl b) H) : rIsX K [.ref a, .ty n] H Q := by
  obtain ⟨d, h1, h2⟩ := h
  exact ⟨a, C i, d, _, .ty n, .type n, b, rfl, h1, h2, (Y.cls i).I, .ty n, k, q⟩
end

section
/-- the draws' list as the draws' object -/
def poolI : RngI := ⟨fun R r H n => (∀ b, R b ↔ b = r) ∧ RngAt H r n, fun {R r H H' n} h k => by
  obtain ⟨h1, d, s, c, e, h⟩ := h
  exact ⟨h1, d, s, c, k r _ ((h1 r).mpr rfl) e, h⟩⟩
variable {P : Program} {w : World} {K : PySem.W.Frag} {mg : Str → Option Value} {base : Heap} {k : Nat} {x : Str} {ps : List Str} {sp : Sp} {φ : Phi} {C : Nat → Addr} {CS : Addr}
abbrev poolG (K : PySem.W.Frag) (C : Nat → Addr) (CS : Addr) : Gx := ⟨K, C, CS, poolI⟩
/-- the known part, and the draws' list -/
def withR (F H : Hp) (r : Addr) : Hp := fun b => if b = r then H r else F b
def noR (F : Hp) (r : Addr) : Hp := fun b => if b = r then none else F b
theorem withR_at {F H : Hp} {r : Addr} : withR F H r r = H r := if_pos rfl
theorem withR_ne {F H : Hp} {r b : Addr} (h : b ≠ r) : withR F H r b = F b := if_neg h
theorem noR_ne {F : Hp} {r b : Addr} (h : b ≠ r) : noR F r b = F b := if_neg h
theorem Pr.pureR (h : Pr P w K mg base CX0 k x ps sp)
    (c : ∀ n us xs G r RR Xx (Q : VK) (E : XK), RpAll (poolG K C CS) G us xs → RngAt G r n → φ n xs RR Xx → (∀ v F' y n', Oth r G F' → RngAt F' r n' → RR y n' → Rp (poolG K C CS) (noR F' r) v y → noScr y → Q v F') → sp (.ref r :: us) G Q E) :
    Pr P w K mg base CX0 k x ps (spP (poolG K C CS) true φ) :=
  (h.frame0).weak fun vs H Q E ⟨R, r, F, n, xs, us, RR, Xx, e, hr, s, hR, hcl, hat, hno, q, o, ox⟩ => by
    have e : vs = V.ref r :: us := e
    rw [e]
    obtain ⟨hRr, hat⟩ := hat rfl
    have rR : R r := (hRr r).mpr rfl
    have Fr := (hR r rR).1
    have sFG : Same F (withR F H r) := fun b u hb => by
      rw [withR_ne (fun z => by rw [z, Fr] at hb; cases hb)]; exact hb
    have sG : Same (withR F H r) H := fun b u hb => by
      by_cases z : b = r
      · rw [z] at hb ⊢; rwa [withR_at] at hb
      · rw [withR_ne z] at hb; exact s _ _ hb
    have hH : ∃ xs, H r = some (.lst xs) := by
      obtain ⟨_, _, _, e, _⟩ := hat
      exact ⟨_, e⟩
    have clG : ∀ a u, withR F H r a = some u → okO (withR F H r) a u := fun a u hb => by
      by_cases z : a = r
      · rw [z, withR_at] at hb
        obtain ⟨xs, e⟩ := hH
        rw [e] at hb
        cases hb
        trivial
      · rw [withR_ne z] at hb
        exact (hcl a u hb).same sFG
    have hatG : RngAt (withR F H r) r n := by
      obtain ⟨d, s, c, e, h⟩ := hat
      exact ⟨d, s, c, by rw [withR_at]; exact e, h⟩
    have rpG : RpAll (poolG K C CS) (withR F H r) us xs := hr.same sFG
    refine ⟨_, sG, clG, c n us xs _ r RR Xx _ _ rpG hatG q fun v F' y n' ot hat' rr hy ns H' fr => ?_⟩
    have hF' : ∃ xs, F' r = some (.lst xs) := by
      obtain ⟨_, _, _, e, _⟩ := hat'
      exact ⟨_, e⟩
    have s2 : Same F (noR F' r) := fun b u hb => by
      have hbr : b ≠ r := fun z => by rw [z, Fr] at hb; cases hb
      rw [noR_ne hbr]
      exact ot b u hbr (sFG _ _ hb)
    have sub : Same (noR F' r) F' := fun b u hb => by
      by_cases z : b = r
      · rw [z] at hb; unfold noR at hb; rw [if_pos rfl] at hb; cases hb
      · rwa [noR_ne z] at hb
    have Gn : ∀ b, b ≠ r → withR F H r b ≠ none → ∃ u, F b = some u := fun b hb hg => by
      rw [withR_ne hb] at hg
      cases hF : F b with
      | none => exact absurd hF hg
      | some u => exact ⟨u, rfl⟩
    refine o y n' v _ H' rr ⟨filt_same s2, (filt_sub.trans sub).trans fr.s1, fun b u hb => ?_, fun b u hb nR => ?_, fun b hb => ?_, fun _ => ⟨hRr, ?_⟩, filt_cl hcl s2⟩ (hy.filt ns fun a D dx fs ha => ?_)
    · have hb2 := filt_sub b u hb
      have hbr : b ≠ r := fun z => by rw [z] at hb2; unfold noR at hb2; rw [if_pos rfl] at hb2; cases hb2
      rw [noR_ne hbr] at hb2
      rcases fr.new b u hb2 with z | z
      · obtain ⟨u', hu⟩ := Gn b hbr z
        have z2 := ot b u' hbr (sFG _ _ hu)
        rw [hb2] at z2
        cases z2
        exact .inl hu
      · exact .inr z
    · have hbr : b ≠ r := fun z => nR ((hRr b).mpr z)
      cases hF : F b with
      | none => exact fr.old b u hb (by rw [withR_ne hbr]; exact hF)
      | some u' =>
        have z := s _ _ hF
        rw [hb] at z
        cases z
        exact fr.s1 _ _ (ot b u hbr (sFG _ _ hF))
    · obtain ⟨h1, h2⟩ := fr.liv b hb
      rcases h2 with h2 | h2
      · by_cases z : b = r
        · obtain ⟨xs, e⟩ := hF'
          rw [z, e] at h1
          cases h1
        · obtain ⟨u, hu⟩ := Gn b z h2
          rw [ot b u z (sFG _ _ hu)] at h1
          cases h1
      · exact h2
    · obtain ⟨d, s, c, e, h⟩ := hat'
      exact ⟨d, s, c, fr.s1 _ _ e, h⟩
    · have har : a ≠ r := fun z => by rw [z] at ha; unfold noR at ha; rw [if_pos rfl] at ha; cases ha
      rw [noR_ne har] at ha
      have hd := fr.ins a D dx fs ha
      have hdr : dx ≠ r := fun z => by
        obtain ⟨xs, e⟩ := hF'
        rw [z, e] at hd
        cases hd
      rw [noR_ne hdr]
      exact hd
/-- tuples are not the draws' list -/
theorem SqT.noR {F : Hp} {r a : Addr} {n : Nat} {xs : List V} (R : RngAt F r n) (h : SqT K F a xs) : SqT K (noR F r) a xs := by
  obtain ⟨_, _, _, e, _⟩ := R
  rcases h with (h | ⟨o, h⟩) | h
  · exact .inl (.inl (by rw [noR_ne (fun z => by rw [z, e] at h; cases h)]; exact h))
  · exact .inl (.inr ⟨o, by rw [noR_ne (fun z => by rw [z, e] at h; cases h)]; exact h⟩)
  · exact .inr h
/-! what the draws' defs keep -/
def phDraw : Phi := fun n xs R _ => ∃ m : Int, xs = [.d (.int m)] ∧ n < 100000000 ∧ 1 ≤ m ∧ m < 2 ^ 1000 ∧ ∀ v : Int, 0 ≤ v → v < m → R (.d (.int v)) (n + 1)
theorem q_draw (h : Pr P w K mg base CX0 1 "_law_draw" ["rng", "limit"] spDraw) : Pr P w K mg base CX0 1 "_law_draw" ["rng", "limit"] (spP (poolG K C CS) true phDraw) := by
  refine h.pureR fun n us xs G r RR Xx Q E hr R q o => ?_
  obtain ⟨m, rfl, hn, m0, m1, q⟩ := q
  obtain ⟨u, rfl, r1⟩ := rp1 hr
  cases r1
  exact ⟨r, m, n, rfl, R, hn, m0, m1, fun v H' v0 v1 R' ot => o _ _ _ _ ot R' (q v v0 v1) (.int v) trivial⟩
end
section
variable {P : Program} {w : World} {K : PySem.W.Frag} {mg : Str → Option Value} {base : Heap} {C : Nat → Addr} {CS : Addr}
def phAny : Phi := fun n xs R _ => xs = [] ∧ n < 90000000 ∧ ∀ v : Int, -(10 ^ 30) ≤ v → v ≤ 10 ^ 30 → R (.d (.int v)) (n + 7)
theorem q_any (h : Pr P w K mg base CX0 2 "_law_any" ["rng"] spAny) : Pr P w K mg base CX0 2 "_law_any" ["rng"] (spP (poolG K C CS) true phAny) := by
  refine h.pureR fun n us xs G r RR Xx Q E hr R q o => ?_
  obtain ⟨rfl, hn, q⟩ := q
  cases us with
  | nil => exact ⟨r, n, rfl, R, hn, fun v H' v0 v1 R' ot => o _ _ _ _ ot R' (q v v0 v1) (.int v) trivial⟩
  | cons => exact hr.elim
end

section
variable {X : Cx}
/-- isinstance(e, (C, D, ..)) of a tracked exception -/
def rIsXT (K : PySem.W.Frag) : List V → Hp → VK → Prop := fun xs H Q => ∃ (a C d tp : Addr) (fs : List (Str × V)) (cs : List V) (us : List Value) (b : Bool), xs = [.ref a, .ref tp] ∧ H a = some (exT a (.ref C) (some d)) ∧ H d = some (.xd fs) ∧ ExcC K C ∧ H tp = some (.tup cs) ∧ Paired ClsV cs us ∧ PySem.W.kitAny K (.ref C) us = some b ∧ Q (.bl b) H
theorem cr_isXT : CallR X (.builtin "isinstance") (rIsXT X.K) := by
  intro pins s σ H xs us Q I r h
  obtain ⟨a, C, d, tp, fs, cs, ws, b, rfl, ha, hd, E, hT, hc, e, q⟩ := h
  cases r with
  | cons rx rr =>
    cases rr with
    | cons rt rr =>
      cases rr
      cases rx
      cases rt
      obtain ⟨oe, od, mA, J, _⟩ := ex_inst I ha hd
      obtain ⟨_, its, rv, o, h1, h2, n, h3⟩ := (show ObjOk X.prog X.w H s.heap tp (.tup cs) from I.hok tp _ hT)
      have e3 := ClsV.all hc rv
      subst e3
      obtain ⟨oc, od', dt, sl⟩ := o
      simp only at h2 h3
      subst h2 h3
      exact PySem.W.kia_tup (PySem.W.kitx_exc (by obtain ⟨cd, hcd, _⟩ := PySem.W.any_some E.hd; rw [hcd]; rfl) E.hg E.hk E.hs E.ha E.hn E.ht E.hm) I.kIn J h1 e (fun z => nomatch z) fun tk => ⟨.bl b, H, I.kept (t' := tk) fun _ _ z => z, rfl, q⟩
end
section
variable {Γ : Gx} {X : Cx} {W : WX} {e : Expr} {i : Nat}
def constA : List V → TA
  | [] => tNil
  | c :: r => tCons (tC c) (constA r)
theorem constA_go {σ : L2.St} {H : Hp} : ∀ {cs : List V} {Q : List V → Hp → Prop}, Q cs H → constA cs σ H Q
  | [], _, h => h
  | c :: r, Q, h => constA_go (cs := r) (Q := fun xs H2 => Q (c :: xs) H2) h
theorem de_isXT {cs : List V} {us : List Value} {bb : Nat → Bool} (hE : ∀ c, ExcC Γ.K (Γ.C c)) (hc : Paired ClsV cs us) (hz : cs.length ≤ sizeLine) (hk : ∀ c, PySem.W.kitAny Γ.K (.ref (Γ.C c)) us = some (bb c))
    (hpe : PE X e (tCB (rIsXT Γ.K) (tCons (tVar i) (tCons (tTup (constA cs)) tNil)))) : DE Γ X W e (tCB (rIsXT Γ.K) (tCons (tVar i) (tCons (tTup (constA cs)) tNil))) (eIsX i bb) := by
  refine ⟨hpe, fun f F H σ ρ Q R Xx E q o ox => ?_⟩
  unfold eIsX at q
  split at q
  · rename_i c x hx
    obtain ⟨u, hu, a, dd, uv, rfl, h1, h2, h3⟩ := E.sl i _ hx
    refine ⟨_, hu, ?_⟩
    refine constA_go ⟨hz, fun p np => ?_⟩
    have E1 := E.raw (o := .tup cs) np
    exact ⟨a, Γ.C c, dd, p, _, cs, us, bb c, rfl, E1.s1 _ _ h1, E1.s1 _ _ h2, hE c, upd_same, hc, hk c, o _ _ _ _ _ q E1 (Same.refl _) (.bl _)⟩
  · exact q.elim
theorem y_isX {b : Nat → Bool} {ρ : List Sl} {R : Cc.A → List Sl → Prop} {Xx : XX} : eIsX i b ρ R Xx ↔ match ρ[i]? with
  | some (.a (.exc c _)) => R (.d (.bool (b c))) ρ
  | _ => False := Iff.rfl
theorem kit_any {K : PySem.W.Frag} {t : Value} {D : Nat → Value} {g : Nat → Bool} : ∀ {js : List Nat}, (∀ j ∈ js, PySem.W.kitOne K t (D j) = some (g j)) → PySem.W.kitAny K t (js.map D) = some (js.any g)
  | [], _ => kitAny_nil
  | j :: js, h => by
    refine kitAny_cons (h j (List.mem_cons_self ..)) (fun e => ?_) (fun e => ?_)
    · rw [List.any_cons, e, Bool.false_or]
      exact kit_any fun m hm => h m (List.mem_cons_of_mem _ hm)
    · rw [List.any_cons, e]
      rfl
end

end Cc

set_option Elab.async false
set_option linter.all false
set_option maxRecDepth 100000
set_option maxHeartbeats 4000000
namespace Cc
open PySem PySem.Spec PyProof.Rows L2
section
variable {K : PySem.W.Frag}
/-! chains as data -/
def chD (c : Ch) : PyData := .list (c.map fun s => .tuple [.str s.1, .int s.2])
theorem Sts.of_dq {F : Hp} : ∀ {xs : List V} {c : Ch}, DqAll K F xs (c.map fun s => .tuple [.str s.1, .int s.2]) → Sts K F xs c
  | [], [], _ => .nil
  | _ :: _, [], h => nomatch h
  | [], _ :: _, h => nomatch h
  | x :: xs, s :: c, h => by
    cases h with
    | cons h1 h2 =>
      cases h1 with
      | tup hs ha =>
        cases ha with
        | cons a1 a2 =>
          cases a1
          cases a2 with
          | cons b1 b2 =>
            cases b1
            cases b2
            exact .cons hs (Sts.of_dq h2)
theorem ch_of {F : Hp} {v : V} {c : Ch} (h : Dq K F v (chD c)) : ∃ a, v = .ref a ∧ ChAt K F a c := by
  cases h with
  | lst hs ha => exact ⟨_, rfl, _, .of hs, Sts.of_dq ha⟩
theorem Sts.dq {F : Hp} : ∀ {xs : List V} {c : Ch}, Sts K F xs c → DqAll K F xs (c.map fun s => .tuple [.str s.1, .int s.2])
  | _, _, .nil => .nil
  | _, _, .cons h t => .cons (.tup h (.cons (.str _) (.cons (.int _) .nil))) (Sts.dq t)
end

def bndC (c : Ch) : Prop := c.length ≤ 900 ∧ ∀ s ∈ c, s.2 ≤ (if s.1 = "add" then s.2 else big)

abbrev s_after_step : Stmt := topS 14
theorem sc_after_step : FnScope ["number", "step", "word", "amount"] ["number", "step"] (defScope s_after_step) := ⟨rfl, rfl, rfl, by decide +kernel, rfl, by decide +kernel, by decide +kernel⟩
abbrev s_converted : Stmt := topS 15
theorem sc_converted : FnScope ["number", "chain", "step"] ["number", "chain"] (defScope s_converted) := ⟨rfl, rfl, rfl, by decide +kernel, rfl, by decide +kernel, by decide +kernel⟩
section
variable {P : Program} {w : World} {Γ : Gx} {mg : Str → Option Value} {base : Heap} {fI : Nat → Addr} {fd : Nat → FuncData} {C0 : Addr}
def stD (s : Str × Int) : PyData := .tuple [.str s.1, .int s.2]
def phCheck : Phi := fun _ xs R Xx => ∃ c : Ch, xs = [.d (chD c)] ∧ (firstBad c = none → R (.d .none) 0) ∧ ∀ i, firstBad c = some i → Xx 0 (.int (i : Nat)) 0
theorem q_check (h : Pr P w Γ.K mg base (L2N.CX P w) 3 "check_chain" ["chain"] (spCheckX Γ.K (Γ.C 0))) : Pr P w Γ.K mg base (L2N.CX P w) 3 "check_chain" ["chain"] (spP Γ false phCheck) := by
  refine h.pureX fun n us xs F RR Xx Q E hr q o ox => ?_
  obtain ⟨c, rfl, q1, q2⟩ := q
  obtain ⟨u, rfl, r1⟩ := rp1 hr
  obtain ⟨a, rfl, hC⟩ := ch_of r1
  exact ⟨a, c, rfl, hC, fun ok H' s => o _ H' _ s (q1 ok) .non trivial, fun i hi d H' s hd => ox 0 d _ _ H' s (q2 i hi) hd (.int _)⟩
def phCast : Phi := fun _ xs R _ => ∃ (y : Int) (x : Str) (n : Int), xs = [.d (.int y), .d (.str x), .d (.int n)] ∧ 1 ≤ n ∧ n ≤ big ∧ R (.d (.int (castI y x n))) 0
theorem q_cast (h : Pr P w Γ.K mg base CX0 2 "cast" ["number", "word", "width"] spCast) : Pr P w Γ.K mg base CX0 2 "cast" ["number", "word", "width"] (spP Γ false phCast) := by
  refine Pr.pure0 (Γ := Γ) h fun n us xs F RR Xx Q E hr q o => ?_
  obtain ⟨y, x, n, rfl, n0, n1, q⟩ := q
  match us, hr with
  | [u1, u2, u3], ⟨r1, r2, r3, _⟩ =>
    cases r1
    cases r2
    cases r3
    exact ⟨y, x, n, rfl, n0, n1, o _ _ _ (Same.refl _) q (.int _) trivial⟩
def phAfter : Phi := fun _ xs R _ => ∃ (y : Int) (x : Str) (n : Int), xs = [.d (.int y), .d (.tuple [.str x, .int n])] ∧ okS (x, n) = true ∧ n ≤ (if x = "add" then n else big) ∧ R (.d (.int (stepI y (x, n)))) 0
theorem q_after (T : Tx Γ.K mg "after_step" s_after_step) (h_cast : Pr P w Γ.K mg base CX0 2 "cast" ["number", "word", "width"] (spP Γ false phCast)) : Pr P w Γ.K mg base CX0 3 "after_step" ["number", "step"] (spP Γ false phAfter) := by
  refine mkPP T sc_after_step (fun _ _ _ _ _ _ us hl => match us, hl with | [_, _], _ => rfl) (fun n xs R Xx h => ?_) (fun n xs R Xx h => h) (fun f cdv A outer s H E hG hr => ?_)
  · obtain ⟨_, _, _, rfl, _⟩ := h
    rfl
  · have nd := sc_after_step.nd
    refine ⟨_, _, (dss_cons (fun h h' => pss_cons h h') (ds_asg (fun h g => ps_asg h g) (de_var (pv 1)) (dg_tup (n := 2) (fun h => pg_tup rfl h) (dgs_cons (fun g h => pgs_cons g h) (dg_name (pg_name (i := 2) nd rfl (.inl rfl))) (dgs_cons (fun g h => pgs_cons g h) (dg_name (pg_name (i := 3) nd rfl (.inl rfl))) (dgs_nil pgs_nil))))) (dss_cons (fun h h' => pss_cons h h') (ds_if (fun h a b => ps_if h a b) (dt_cmp opd_eq (fun h h' => pt_cmpR op_eq h h' (nomark _)) (de_var (pv 2)) (de_c pe_str (fun _ => .str _))) (dss_one (fun h => pss_one h) (ds_ret (fun h => ps_ret h) (de_op opd_int0 (fun h h' => pe_op op_add h h') (de_var (pv 0)) (de_var (pv 3))))) (dss_nil pss_nil)) (dss_one (fun h => pss_one h) (ds_ret (fun h => ps_ret h) (de_call0 (fun h => pe_P h_cast hr hG (by rfl) h) (da_cons (fun h t => pa_cons h t) (de_var (pv 0)) (da_cons (fun h t => pa_cons h t) (de_var (pv 2)) (da_cons (fun h t => pa_cons h t) (de_var (pv 3)) (da_nil pa_nil))))))))), fun n xs R h => ?_⟩
    obtain ⟨y, x, m, rfl, ok, hb, q⟩ := h
    show (sSeq _ _) [.a (.d (.int y)), .a (.d (.tuple [.str x, .int m])), .un, .un] _
    refine y_seq.mpr ?_
    (try simp only [y_var, y_c, y_op, y_un, y_and, y_or, y_not, y_if, y_isN, y_notN, y_bOf, y_bTru, y_bNot, y_bYes, y_aNil, y_aCons, y_aStar, y_tup, y_disp, y_fz, y_cb, y_cat, y_of, y_sl, y_dO0, y_dO1, y_ixN, y_lenN, y_chain, y_call0, y_call, y_callR0, y_next, y_brk, y_cnt, y_asg, y_setO, y_gNm, y_gTp, y_gsNil, y_gsCons, y_subO, y_par, y_aug, y_expr, y_app, y_ext, y_ifS, y_ret, y_retN, y_for, y_while, y_iSeq, y_iTp, y_iR1, y_iR2, y_iEn, y_iZp, y_lc, y_raise, y_un1, y_call, endsX, outX, Bool.true_eq_false, reduceCtorEq, decide_true, decide_false, ix2_0, ix2_1, ix3_0, ix3_1, ix3_2, LcRun, LpRun, wipeP, restP, noX, dite_true, List.nil_append, List.cons_append, Option.getD_some, Option.getD_none, y_repr, y_tupleL, y_tupleT, y_sum, y_all, y_any, y_eqD, y_neD, y_rev, y_dn, y_orT, y_notT, y_ins, y_bits, y_bAnd, y_bOr, y_rt0, y_rtR, y_nx0, y_rtX, y_nxX, y_exX, inV2, inV3, flatD, vOf, List.all_cons, List.all_nil, Bool.and_self, sz_iff, Nat.reduceAdd, Nat.reduceLeDiff, Nat.zero_add, y_dD, y_dB, y_dI, y_dL, y_dSl, y_dSt, y_dAll0, y_dAllS, dAll_map, y_I0, y_I, y_eqI, y_eqS, y_eqB, y_neI, y_neS, y_neB, y_neg, y_ixL, y_ixT, y_min, y_max, y_abs, y_lenL, y_lenT, y_lenS, y_lenB, y_truL, y_truT, y_inL, y_inT, y_ex1, y_exO, y_exR, at0, at1, at2, at3, isNon, List.getElem?_cons_succ, List.getElem?_cons_zero, List.set_cons_succ, List.set_cons_zero, List.length_cons, List.length_nil, List.map_cons, List.map_nil, true_and, and_true, decide_eq_true_eq, Bool.not_eq_true', Bool.not_true, Bool.not_false, if_true, if_false, Bool.false_eq_true, ite_true, ite_false])
    refine y_seq.mpr ?_
    (try simp only [y_var, y_c, y_op, y_un, y_and, y_or, y_not, y_if, y_isN, y_notN, y_bOf, y_bTru, y_bNot, y_bYes, y_aNil, y_aCons, y_aStar, y_tup, y_disp, y_fz, y_cb, y_cat, y_of, y_sl, y_dO0, y_dO1, y_ixN, y_lenN, y_chain, y_call0, y_call, y_callR0, y_next, y_brk, y_cnt, y_asg, y_setO, y_gNm, y_gTp, y_gsNil, y_gsCons, y_subO, y_par, y_aug, y_expr, y_app, y_ext, y_ifS, y_ret, y_retN, y_for, y_while, y_iSeq, y_iTp, y_iR1, y_iR2, y_iEn, y_iZp, y_lc, y_raise, y_un1, y_call, endsX, outX, Bool.true_eq_false, reduceCtorEq, decide_true, decide_false, ix2_0, ix2_1, ix3_0, ix3_1, ix3_2, LcRun, LpRun, wipeP, restP, noX, dite_true, List.nil_append, List.cons_append, Option.getD_some, Option.getD_none, y_repr, y_tupleL, y_tupleT, y_sum, y_all, y_any, y_eqD, y_neD, y_rev, y_dn, y_orT, y_notT, y_ins, y_bits, y_bAnd, y_bOr, y_rt0, y_rtR, y_nx0, y_rtX, y_nxX, y_exX, inV2, inV3, flatD, vOf, List.all_cons, List.all_nil, Bool.and_self, sz_iff, Nat.reduceAdd, Nat.reduceLeDiff, Nat.zero_add, y_dD, y_dB, y_dI, y_dL, y_dSl, y_dSt, y_dAll0, y_dAllS, dAll_map, y_I0, y_I, y_eqI, y_eqS, y_eqB, y_neI, y_neS, y_neB, y_neg, y_ixL, y_ixT, y_min, y_max, y_abs, y_lenL, y_lenT, y_lenS, y_lenB, y_truL, y_truT, y_inL, y_inT, y_ex1, y_exO, y_exR, at0, at1, at2, at3, isNon, List.getElem?_cons_succ, List.getElem?_cons_zero, List.set_cons_succ, List.set_cons_zero, List.length_cons, List.length_nil, List.map_cons, List.map_nil, true_and, and_true, decide_eq_true_eq, Bool.not_eq_true', Bool.not_true, Bool.not_false, if_true, if_false, Bool.false_eq_true, ite_true, ite_false])
    unfold stepI at q
    by_cases hx : x = "add"
    · rw [if_pos hx]
      rw [if_pos hx] at q
      exact q
    · rw [if_neg hx]
      rw [if_neg hx] at q hb
      exact ⟨y, x, m, rfl, isC_of ok hx, hb, q⟩
def phConv : Phi := fun _ xs R Xx => ∃ (y : Int) (c : Ch), xs = [.d (.int y), .d (chD c)] ∧ bndC c ∧ (firstBad c = none → R (.d (.int (convI y c))) 0) ∧ ∀ i, firstBad c = some i → Xx 0 (.int (i : Nat)) 0
theorem ok_at {c : Ch} (ok : firstBad c = none) {s : Str × Int} (h : s ∈ c) : okS s = true := by
  unfold firstBad at ok
  rw [List.findIdx?_eq_none_iff] at ok
  have := ok _ h
  simpa using this
theorem k_converted (T : Tx Γ.K mg "converted" s_converted) (h_check_chain : Pr P w Γ.K mg base (L2N.CX P w) 3 "check_chain" ["chain"] (spP Γ false phCheck)) (h_after_step : Pr P w Γ.K mg base CX0 3 "after_step" ["number", "step"] (spP Γ false phAfter)) : PrK P w Γ.K mg base (L2N.CX P w) 4 "converted" s_converted ["number", "chain"] (spP Γ false phConv) := by
  refine mkPPXK T sc_converted (fun n xs R Xx h => ?_) (fun f cdv A outer s H E hG hr => ?_)
  · obtain ⟨_, _, rfl, _⟩ := h
    rfl
  · have nd := sc_converted.nd
    refine ⟨_, _, (dss_cons (fun h h' => pss_cons h h') (ds_expr (fun h => ps_expr h) (de_callX (fun h => pe_PX h_check_chain hr hG (by rfl) (L2N.takes_of rfl rfl rfl rfl) h) (da_cons (fun h t => pa_cons h t) (de_var (pv 1)) (da_nil pa_nil)))) (dss_cons (fun h h' => pss_cons h h') (ds_for (fun hi hg hb => ps_for (passes_of rfl) rfl hi hg hb) (di_list (fun h => pi_list h) (de_var (pv 1))) (dg_name (pg_name (i := 2) nd rfl (.inl rfl))) (dss_one (fun h => pss_one h) (ds_set (i := 0) (fun h => ps_set nd rfl (.inl rfl) h) (de_call0 (fun h => pe_P h_after_step hr hG (by rfl) h) (da_cons (fun h t => pa_cons h t) (de_var (pv 0)) (da_cons (fun h t => pa_cons h t) (de_var (pv 2)) (da_nil pa_nil))))))) (dss_one (fun h => pss_one h) (ds_ret (fun h => ps_ret h) (de_var (pv 0)))))), fun n xs R Xx h => ?_⟩
    obtain ⟨y, c, rfl, hb, q, qx⟩ := h
    show (sSeq _ _) [.a (.d (.int y)), .a (.d (chD c)), .un] _
    refine y_cut fun NX hNX => ?_
    (try simp only [y_var, y_c, y_op, y_un, y_and, y_or, y_not, y_if, y_isN, y_notN, y_bOf, y_bTru, y_bNot, y_bYes, y_aNil, y_aCons, y_aStar, y_tup, y_disp, y_fz, y_cb, y_cat, y_of, y_sl, y_dO0, y_dO1, y_ixN, y_lenN, y_chain, y_call0, y_call, y_callR0, y_next, y_brk, y_cnt, y_asg, y_setO, y_gNm, y_gTp, y_gsNil, y_gsCons, y_subO, y_par, y_aug, y_expr, y_app, y_ext, y_ifS, y_ret, y_retN, y_for, y_while, y_iSeq, y_iTp, y_iR1, y_iR2, y_iEn, y_iZp, y_lc, y_raise, y_un1, y_call, endsX, outX, Bool.true_eq_false, reduceCtorEq, decide_true, decide_false, ix2_0, ix2_1, ix3_0, ix3_1, ix3_2, LcRun, LpRun, wipeP, restP, noX, dite_true, List.nil_append, List.cons_append, Option.getD_some, Option.getD_none, y_repr, y_tupleL, y_tupleT, y_sum, y_all, y_any, y_eqD, y_neD, y_rev, y_dn, y_orT, y_notT, y_ins, y_bits, y_bAnd, y_bOr, y_rt0, y_rtR, y_nx0, y_rtX, y_nxX, y_exX, inV2, inV3, flatD, vOf, List.all_cons, List.all_nil, Bool.and_self, sz_iff, Nat.reduceAdd, Nat.reduceLeDiff, Nat.zero_add, y_dD, y_dB, y_dI, y_dL, y_dSl, y_dSt, y_dAll0, y_dAllS, dAll_map, y_I0, y_I, y_eqI, y_eqS, y_eqB, y_neI, y_neS, y_neB, y_neg, y_ixL, y_ixT, y_min, y_max, y_abs, y_lenL, y_lenT, y_lenS, y_lenB, y_truL, y_truT, y_inL, y_inT, y_ex1, y_exO, y_exR, at0, at1, at2, at3, isNon, List.getElem?_cons_succ, List.getElem?_cons_zero, List.set_cons_succ, List.set_cons_zero, List.length_cons, List.length_nil, List.map_cons, List.map_nil, true_and, and_true, decide_eq_true_eq, Bool.not_eq_true', Bool.not_true, Bool.not_false, if_true, if_false, Bool.false_eq_true, ite_true, ite_false])
    refine ⟨c, rfl, fun ok => hNX _ ?_, fun i hi => qx i hi⟩
    have q := q ok
    clear hNX NX
    rw [show chD c = .list (c.map stD) from rfl]
    refine y_seq.mpr ?_
    (try simp only [y_var, y_c, y_op, y_un, y_and, y_or, y_not, y_if, y_isN, y_notN, y_bOf, y_bTru, y_bNot, y_bYes, y_aNil, y_aCons, y_aStar, y_tup, y_disp, y_fz, y_cb, y_cat, y_of, y_sl, y_dO0, y_dO1, y_ixN, y_lenN, y_chain, y_call0, y_call, y_callR0, y_next, y_brk, y_cnt, y_asg, y_setO, y_gNm, y_gTp, y_gsNil, y_gsCons, y_subO, y_par, y_aug, y_expr, y_app, y_ext, y_ifS, y_ret, y_retN, y_for, y_while, y_iSeq, y_iTp, y_iR1, y_iR2, y_iEn, y_iZp, y_lc, y_raise, y_un1, y_call, endsX, outX, Bool.true_eq_false, reduceCtorEq, decide_true, decide_false, ix2_0, ix2_1, ix3_0, ix3_1, ix3_2, LcRun, LpRun, wipeP, restP, noX, dite_true, List.nil_append, List.cons_append, Option.getD_some, Option.getD_none, y_repr, y_tupleL, y_tupleT, y_sum, y_all, y_any, y_eqD, y_neD, y_rev, y_dn, y_orT, y_notT, y_ins, y_bits, y_bAnd, y_bOr, y_rt0, y_rtR, y_nx0, y_rtX, y_nxX, y_exX, inV2, inV3, flatD, vOf, List.all_cons, List.all_nil, Bool.and_self, sz_iff, Nat.reduceAdd, Nat.reduceLeDiff, Nat.zero_add, y_dD, y_dB, y_dI, y_dL, y_dSl, y_dSt, y_dAll0, y_dAllS, dAll_map, y_I0, y_I, y_eqI, y_eqS, y_eqB, y_neI, y_neS, y_neB, y_neg, y_ixL, y_ixT, y_min, y_max, y_abs, y_lenL, y_lenT, y_lenS, y_lenB, y_truL, y_truT, y_inL, y_inT, y_ex1, y_exO, y_exR, at0, at1, at2, at3, isNon, List.getElem?_cons_succ, List.getElem?_cons_zero, List.set_cons_succ, List.set_cons_zero, List.length_cons, List.length_nil, List.map_cons, List.map_nil, true_and, and_true, decide_eq_true_eq, Bool.not_eq_true', Bool.not_true, Bool.not_false, if_true, if_false, Bool.false_eq_true, ite_true, ite_false])
    refine loop (fun i ρ => ∃ y2, ρ = [.a (.d (.int (convI y (c.take i)))), .a (.d (.list (c.map stD))), y2]) ⟨_, rfl⟩ (fun i x ρ hx h => ?_) (fun ρ h => ?_)
    · obtain ⟨y2, rfl⟩ := h
      rw [List.map_map, List.getElem?_map] at hx
      obtain ⟨⟨z, m⟩, hz, rfl⟩ := Option.map_eq_some_iff.mp hx
      have hm := List.mem_of_getElem? hz
      (try simp only [y_var, y_c, y_op, y_un, y_and, y_or, y_not, y_if, y_isN, y_notN, y_bOf, y_bTru, y_bNot, y_bYes, y_aNil, y_aCons, y_aStar, y_tup, y_disp, y_fz, y_cb, y_cat, y_of, y_sl, y_dO0, y_dO1, y_ixN, y_lenN, y_chain, y_call0, y_call, y_callR0, y_next, y_brk, y_cnt, y_asg, y_setO, y_gNm, y_gTp, y_gsNil, y_gsCons, y_subO, y_par, y_aug, y_expr, y_app, y_ext, y_ifS, y_ret, y_retN, y_for, y_while, y_iSeq, y_iTp, y_iR1, y_iR2, y_iEn, y_iZp, y_lc, y_raise, y_un1, y_call, endsX, outX, Bool.true_eq_false, reduceCtorEq, decide_true, decide_false, ix2_0, ix2_1, ix3_0, ix3_1, ix3_2, LcRun, LpRun, wipeP, restP, noX, dite_true, List.nil_append, List.cons_append, Option.getD_some, Option.getD_none, y_repr, y_tupleL, y_tupleT, y_sum, y_all, y_any, y_eqD, y_neD, y_rev, y_dn, y_orT, y_notT, y_ins, y_bits, y_bAnd, y_bOr, y_rt0, y_rtR, y_nx0, y_rtX, y_nxX, y_exX, inV2, inV3, flatD, vOf, List.all_cons, List.all_nil, Bool.and_self, sz_iff, Nat.reduceAdd, Nat.reduceLeDiff, Nat.zero_add, y_dD, y_dB, y_dI, y_dL, y_dSl, y_dSt, y_dAll0, y_dAllS, dAll_map, y_I0, y_I, y_eqI, y_eqS, y_eqB, y_neI, y_neS, y_neB, y_neg, y_ixL, y_ixT, y_min, y_max, y_abs, y_lenL, y_lenT, y_lenS, y_lenB, y_truL, y_truT, y_inL, y_inT, y_ex1, y_exO, y_exR, at0, at1, at2, at3, isNon, List.getElem?_cons_succ, List.getElem?_cons_zero, List.set_cons_succ, List.set_cons_zero, List.length_cons, List.length_nil, List.map_cons, List.map_nil, true_and, and_true, decide_eq_true_eq, Bool.not_eq_true', Bool.not_true, Bool.not_false, if_true, if_false, Bool.false_eq_true, ite_true, ite_false])
      refine ⟨_, z, m, rfl, ok_at ok hm, hb.2 _ hm, ?_⟩
      refine ⟨.a (.d (.tuple [.str z, .int m])), ?_⟩
      have e : convI y (c.take (i + 1)) = stepI (convI y (c.take i)) (z, m) := by
        rw [List.take_add_one, hz]
        unfold convI
        rw [List.foldl_append]
        rfl
      rw [e]
      rfl
    · obtain ⟨y2, rfl⟩ := h
      rw [List.length_map, List.length_map, List.take_length]
      (try simp only [y_var, y_c, y_op, y_un, y_and, y_or, y_not, y_if, y_isN, y_notN, y_bOf, y_bTru, y_bNot, y_bYes, y_aNil, y_aCons, y_aStar, y_tup, y_disp, y_fz, y_cb, y_cat, y_of, y_sl, y_dO0, y_dO1, y_ixN, y_lenN, y_chain, y_call0, y_call, y_callR0, y_next, y_brk, y_cnt, y_asg, y_setO, y_gNm, y_gTp, y_gsNil, y_gsCons, y_subO, y_par, y_aug, y_expr, y_app, y_ext, y_ifS, y_ret, y_retN, y_for, y_while, y_iSeq, y_iTp, y_iR1, y_iR2, y_iEn, y_iZp, y_lc, y_raise, y_un1, y_call, endsX, outX, Bool.true_eq_false, reduceCtorEq, decide_true, decide_false, ix2_0, ix2_1, ix3_0, ix3_1, ix3_2, LcRun, LpRun, wipeP, restP, noX, dite_true, List.nil_append, List.cons_append, Option.getD_some, Option.getD_none, y_repr, y_tupleL, y_tupleT, y_sum, y_all, y_any, y_eqD, y_neD, y_rev, y_dn, y_orT, y_notT, y_ins, y_bits, y_bAnd, y_bOr, y_rt0, y_rtR, y_nx0, y_rtX, y_nxX, y_exX, inV2, inV3, flatD, vOf, List.all_cons, List.all_nil, Bool.and_self, sz_iff, Nat.reduceAdd, Nat.reduceLeDiff, Nat.zero_add, y_dD, y_dB, y_dI, y_dL, y_dSl, y_dSt, y_dAll0, y_dAllS, dAll_map, y_I0, y_I, y_eqI, y_eqS, y_eqB, y_neI, y_neS, y_neB, y_neg, y_ixL, y_ixT, y_min, y_max, y_abs, y_lenL, y_lenT, y_lenS, y_lenB, y_truL, y_truT, y_inL, y_inT, y_ex1, y_exO, y_exR, at0, at1, at2, at3, isNon, List.getElem?_cons_succ, List.getElem?_cons_zero, List.set_cons_succ, List.set_cons_zero, List.length_cons, List.length_nil, List.map_cons, List.map_nil, true_and, and_true, decide_eq_true_eq, Bool.not_eq_true', Bool.not_true, Bool.not_false, if_true, if_false, Bool.false_eq_true, ite_true, ite_false])
      exact q
end

section
variable {P : Program} {w : World} {Γ : Gx} {mg : Str → Option Value} {base : Heap}
def phIsCast : Phi := fun _ xs R _ => ∃ (x : Str) (z : Int), xs = [.d (.str x), .d (.int z)] ∧ R (.d (.bool (isC x z))) 0
theorem q_is_cast (T : Tx Γ.K mg "is_cast" s_is_cast) : Pr P w Γ.K mg base CX0 1 "is_cast" ["word", "width"] (spP Γ false phIsCast) := by
  refine mkPP T sc_is_cast (fun _ _ _ _ _ _ us hl => match us, hl with | [_, _], _ => rfl) (fun n xs R Xx h => ?_) (fun n xs R Xx h => h) (fun f cdv A outer s H E hG hr => ?_)
  · obtain ⟨_, _, rfl, _⟩ := h
    rfl
  · have nd := sc_is_cast.nd
    refine ⟨_, _, (dss_one (fun h => pss_one h) (ds_ret (fun h => ps_ret h) (de_and (fun h h' => pe_and h h') (de_op opd_in (fun h h' => pe_cmpR op_in_seq h h' (by rfl)) (de_var (pv 0)) (de_tup (fun h => pe_tup h) (da_cons (fun h t => pa_cons h t) (de_c pe_str (fun _ => .str _)) (da_cons (fun h t => pa_cons h t) (de_c pe_str (fun _ => .str _)) (da_nil pa_nil))))) (de_one (fun h => pe_one h) (de_op opd_bl0 (fun h h' => pe_cmpR op_ge h h' (nomark _)) (de_var (pv 1)) (de_c pe_int (fun _ => .int _))))))), fun n xs R h => ?_⟩
    obtain ⟨x, z, rfl, q⟩ := h
    show (sRet _) [.a (.d (.str x)), .a (.d (.int z))] _
    unfold isC at q
    (try simp only [y_var, y_c, y_op, y_un, y_and, y_or, y_not, y_if, y_isN, y_notN, y_bOf, y_bTru, y_bNot, y_bYes, y_aNil, y_aCons, y_aStar, y_tup, y_disp, y_fz, y_cb, y_cat, y_of, y_sl, y_dO0, y_dO1, y_ixN, y_lenN, y_chain, y_call0, y_call, y_callR0, y_next, y_brk, y_cnt, y_asg, y_setO, y_gNm, y_gTp, y_gsNil, y_gsCons, y_subO, y_par, y_aug, y_expr, y_app, y_ext, y_ifS, y_ret, y_retN, y_for, y_while, y_iSeq, y_iTp, y_iR1, y_iR2, y_iEn, y_iZp, y_lc, y_raise, y_un1, y_call, endsX, outX, Bool.true_eq_false, reduceCtorEq, decide_true, decide_false, ix2_0, ix2_1, ix3_0, ix3_1, ix3_2, LcRun, LpRun, wipeP, restP, noX, dite_true, List.nil_append, List.cons_append, Option.getD_some, Option.getD_none, y_repr, y_tupleL, y_tupleT, y_sum, y_all, y_any, y_eqD, y_neD, y_rev, y_dn, y_orT, y_notT, y_ins, y_bits, y_bAnd, y_bOr, y_rt0, y_rtR, y_nx0, y_rtX, y_nxX, y_exX, inV2, inV3, flatD, vOf, List.all_cons, List.all_nil, Bool.and_self, sz_iff, Nat.reduceAdd, Nat.reduceLeDiff, Nat.zero_add, y_dD, y_dB, y_dI, y_dL, y_dSl, y_dSt, y_dAll0, y_dAllS, dAll_map, y_I0, y_I, y_eqI, y_eqS, y_eqB, y_neI, y_neS, y_neB, y_neg, y_ixL, y_ixT, y_min, y_max, y_abs, y_lenL, y_lenT, y_lenS, y_lenB, y_truL, y_truT, y_inL, y_inT, y_ex1, y_exO, y_exR, at0, at1, at2, at3, isNon, List.getElem?_cons_succ, List.getElem?_cons_zero, List.set_cons_succ, List.set_cons_zero, List.length_cons, List.length_nil, List.map_cons, List.map_nil, true_and, and_true, decide_eq_true_eq, Bool.not_eq_true', Bool.not_true, Bool.not_false, if_true, if_false, Bool.false_eq_true, ite_true, ite_false])
    by_cases h : x = "u" ∨ x = "s"
    · rw [decide_eq_true h, Bool.true_and] at q
      rw [if_pos h]
      exact q
    · rw [decide_eq_false h, Bool.false_and] at q
      rw [if_neg h]
      exact q
end

end Cc

set_option Elab.async false
set_option linter.all false
set_option maxRecDepth 100000
set_option maxHeartbeats 4000000
namespace Cc
open PySem PySem.Spec PyProof.Rows L2
abbrev s_law_step : Stmt := topS 23
theorem sc_law_step : FnScope ["rng", "most", "way", "wide"] ["rng", "most"] (defScope s_law_step) := ⟨rfl, rfl, rfl, by decide +kernel, rfl, by decide +kernel, by decide +kernel⟩
abbrev s_law_chain : Stmt := topS 24
theorem sc_law_chain : FnScope ["rng", "many", "most", "turn"] ["rng", "many", "most"] (defScope s_law_chain) := ⟨rfl, rfl, rfl, by decide +kernel, rfl, by decide +kernel, by decide +kernel⟩
section
variable {P : Program} {w : World} {K : PySem.W.Frag} {mg : Str → Option Value} {base : Heap} {C : Nat → Addr} {CS : Addr}
def okD (p : Str × Int) : Prop := (p.1 = "add" ∧ -(10 ^ 30) ≤ p.2 ∧ p.2 ≤ 10 ^ 30) ∨ ((p.1 = "s" ∨ p.1 = "u") ∧ 1 ≤ p.2 ∧ p.2 ≤ 64)
def stA (p : Str × Int) : Cc.A := .d (.tuple [.str p.1, .int p.2])
def phStepD : Phi := fun n xs R _ => ∃ most : Int, xs = [.d (.int most)] ∧ 1 ≤ most ∧ most ≤ 64 ∧ n < 80000000 ∧ ∀ p, okD p → ∀ m, m ≤ n + 10 → R (stA p) m
theorem q_step (T : Tx K mg "_law_step" s_law_step) (m_min : mg "min" = none) (h__law_draw : Pr P w K mg base CX0 1 "_law_draw" ["rng", "limit"] (spP (poolG K C CS) true phDraw)) (h__law_any : Pr P w K mg base CX0 2 "_law_any" ["rng"] (spP (poolG K C CS) true phAny)) :
    Pr P w K mg base CX0 3 "_law_step" ["rng", "most"] (spP (poolG K C CS) true phStepD) := by
  refine mkPP (Γ := poolG K C CS) T sc_law_step (fun _ _ _ _ _ _ us hl => match us, hl with | [_, _], _ => rfl) (fun n xs R Xx h => ?_) (fun n xs R Xx h => h) (fun f cdv A outer s H E hG hr => ?_)
  · obtain ⟨_, rfl, _⟩ := h
    rfl
  · have nd := sc_law_step.nd
    refine ⟨_, _, (dss_cons (fun h h' => pss_cons h h') (ds_set (i := 2) (fun h => ps_set nd rfl (.inl rfl) h) (de_callR0 (i := 0) (fun h => pe_P h__law_draw hr hG (by rfl) (pa_cons (pv 0) h)) (da_cons (fun h t => pa_cons h t) (de_c pe_int (fun _ => .int _)) (da_nil pa_nil)))) (dss_cons (fun h h' => pss_cons h h') (ds_if (fun h a b => ps_if h a b) (dt_cmp opd_eq (fun h h' => pt_cmpR op_eq h h' (nomark _)) (de_var (pv 2)) (de_c pe_int (fun _ => .int _))) (dss_one (fun h => pss_one h) (ds_ret (fun h => ps_ret h) (de_tup (fun h => pe_tup h) (da_cons (fun h t => pa_cons h t) (de_c pe_str (fun _ => .str _)) (da_cons (fun h t => pa_cons h t) (de_callR0 (i := 0) (fun h => pe_P h__law_any hr hG (by rfl) (pa_cons (pv 0) h)) (da_nil pa_nil)) (da_nil pa_nil)))))) (dss_nil pss_nil)) (dss_cons (fun h h' => pss_cons h h') (ds_set (i := 3) (fun h => ps_set nd rfl (.inl rfl) h) (de_op opd_ix (fun h h' => pe_ix (ixSK rfl) h h' (fun _ _ => rfl)) (de_fz (dl_disp (fun h => pe_lst h) (da_cons (fun h t => pa_cons h t) (de_op opd_int0 (fun h h' => pe_op op_add h h') (de_c pe_int (fun _ => .int _)) (de_callR0 (i := 0) (fun h => pe_P h__law_draw hr hG (by rfl) (pa_cons (pv 0) h)) (da_cons (fun h t => pa_cons h t) (de_var (pv 1)) (da_nil pa_nil)))) (da_cons (fun h t => pa_cons h t) (de_op opd_int0 (fun h h' => pe_op op_add h h') (de_c pe_int (fun _ => .int _)) (de_callR0 (i := 0) (fun h => pe_P h__law_draw hr hG (by rfl) (pa_cons (pv 0) h)) (da_cons (fun h t => pa_cons h t) (de_c pe_int (fun _ => .int _)) (da_nil pa_nil)))) (da_cons (fun h t => pa_cons h t) (de_op opd_ix (fun h h' => pe_ix (ixSK rfl) h h' (fun _ _ => rfl)) (de_fz (dl_disp (fun h => pe_lst h) (da_cons (fun h t => pa_cons h t) (de_c pe_int (fun _ => .int _)) (da_cons (fun h t => pa_cons h t) (de_c pe_int (fun _ => .int _)) (da_cons (fun h t => pa_cons h t) (de_c pe_int (fun _ => .int _)) (da_cons (fun h t => pa_cons h t) (de_c pe_int (fun _ => .int _)) (da_nil pa_nil))))))) (de_callR0 (i := 0) (fun h => pe_P h__law_draw hr hG (by rfl) (pa_cons (pv 0) h)) (da_cons (fun h t => pa_cons h t) (de_c pe_int (fun _ => .int _)) (da_nil pa_nil)))) (da_nil pa_nil)))))) (de_callR0 (i := 0) (fun h => pe_P h__law_draw hr hG (by rfl) (pa_cons (pv 0) h)) (da_cons (fun h t => pa_cons h t) (de_c pe_int (fun _ => .int _)) (da_nil pa_nil))))) (dss_one (fun h => pss_one h) (ds_ret (fun h => ps_ret h) (de_tup (fun h => pe_tup h) (da_cons (fun h t => pa_cons h t) (de_op opd_ix (fun h h' => pe_ix (ixSK rfl) h h' (fun _ _ => rfl)) (de_fz (dl_disp (fun h => pe_lst h) (da_cons (fun h t => pa_cons h t) (de_c pe_str (fun _ => .str _)) (da_cons (fun h t => pa_cons h t) (de_c pe_str (fun _ => .str _)) (da_nil pa_nil))))) (de_op opd_int0 (fun h h' => pe_op op_sub h h') (de_var (pv 2)) (de_c pe_int (fun _ => .int _)))) (da_cons (fun h t => pa_cons h t) (de_cb cd_min (fun h => pe_callB (call_min2 rfl) (by rfl) m_min (by decide +kernel) h) (da_cons (fun h t => pa_cons h t) (de_var (pv 1)) (da_cons (fun h t => pa_cons h t) (de_var (pv 3)) (da_nil pa_nil)))) (da_nil pa_nil))))))))), fun n xs R h => ?_⟩
    obtain ⟨most, rfl, m0, m1, hn, q⟩ := h
    have e30 : (10 : Int) ^ 30 = 1000000000000000000000000000000 := by decide
    show (sSeq _ _) [.rng n, .a (.d (.int most)), .un, .un] _
    refine y_cut fun NX hNX => ?_
    (try simp only [y_var, y_c, y_op, y_un, y_and, y_or, y_not, y_if, y_isN, y_notN, y_bOf, y_bTru, y_bNot, y_bYes, y_aNil, y_aCons, y_aStar, y_tup, y_disp, y_fz, y_cb, y_cat, y_of, y_sl, y_dO0, y_dO1, y_ixN, y_lenN, y_chain, y_call0, y_call, y_callR0, y_next, y_brk, y_cnt, y_asg, y_setO, y_gNm, y_gTp, y_gsNil, y_gsCons, y_subO, y_par, y_aug, y_expr, y_app, y_ext, y_ifS, y_ret, y_retN, y_for, y_while, y_iSeq, y_iTp, y_iR1, y_iR2, y_iEn, y_iZp, y_lc, y_raise, y_un1, y_call, endsX, outX, Bool.true_eq_false, reduceCtorEq, decide_true, decide_false, ix2_0, ix2_1, ix3_0, ix3_1, ix3_2, LcRun, LpRun, wipeP, restP, noX, dite_true, List.nil_append, List.cons_append, Option.getD_some, Option.getD_none, y_repr, y_tupleL, y_tupleT, y_sum, y_all, y_any, y_eqD, y_neD, y_rev, y_dn, y_orT, y_notT, y_ins, y_bits, y_bAnd, y_bOr, y_rt0, y_rtR, y_nx0, y_rtX, y_nxX, y_exX, inV2, inV3, flatD, vOf, List.all_cons, List.all_nil, Bool.and_self, sz_iff, Nat.reduceAdd, Nat.reduceLeDiff, Nat.zero_add, y_dD, y_dB, y_dI, y_dL, y_dSl, y_dSt, y_dAll0, y_dAllS, dAll_map, y_I0, y_I, y_eqI, y_eqS, y_eqB, y_neI, y_neS, y_neB, y_neg, y_ixL, y_ixT, y_min, y_max, y_abs, y_lenL, y_lenT, y_lenS, y_lenB, y_truL, y_truT, y_inL, y_inT, y_ex1, y_exO, y_exR, at0, at1, at2, at3, isNon, List.getElem?_cons_succ, List.getElem?_cons_zero, List.set_cons_succ, List.set_cons_zero, List.length_cons, List.length_nil, List.map_cons, List.map_nil, true_and, and_true, decide_eq_true_eq, Bool.not_eq_true', Bool.not_true, Bool.not_false, if_true, if_false, Bool.false_eq_true, ite_true, ite_false])
    refine ⟨3, rfl, by omega, by omega, by decide, fun v v0 v1 => hNX _ ?_⟩
    clear hNX NX
    refine y_cut fun NX hNX => ?_
    (try simp only [y_var, y_c, y_op, y_un, y_and, y_or, y_not, y_if, y_isN, y_notN, y_bOf, y_bTru, y_bNot, y_bYes, y_aNil, y_aCons, y_aStar, y_tup, y_disp, y_fz, y_cb, y_cat, y_of, y_sl, y_dO0, y_dO1, y_ixN, y_lenN, y_chain, y_call0, y_call, y_callR0, y_next, y_brk, y_cnt, y_asg, y_setO, y_gNm, y_gTp, y_gsNil, y_gsCons, y_subO, y_par, y_aug, y_expr, y_app, y_ext, y_ifS, y_ret, y_retN, y_for, y_while, y_iSeq, y_iTp, y_iR1, y_iR2, y_iEn, y_iZp, y_lc, y_raise, y_un1, y_call, endsX, outX, Bool.true_eq_false, reduceCtorEq, decide_true, decide_false, ix2_0, ix2_1, ix3_0, ix3_1, ix3_2, LcRun, LpRun, wipeP, restP, noX, dite_true, List.nil_append, List.cons_append, Option.getD_some, Option.getD_none, y_repr, y_tupleL, y_tupleT, y_sum, y_all, y_any, y_eqD, y_neD, y_rev, y_dn, y_orT, y_notT, y_ins, y_bits, y_bAnd, y_bOr, y_rt0, y_rtR, y_nx0, y_rtX, y_nxX, y_exX, inV2, inV3, flatD, vOf, List.all_cons, List.all_nil, Bool.and_self, sz_iff, Nat.reduceAdd, Nat.reduceLeDiff, Nat.zero_add, y_dD, y_dB, y_dI, y_dL, y_dSl, y_dSt, y_dAll0, y_dAllS, dAll_map, y_I0, y_I, y_eqI, y_eqS, y_eqB, y_neI, y_neS, y_neB, y_neg, y_ixL, y_ixT, y_min, y_max, y_abs, y_lenL, y_lenT, y_lenS, y_lenB, y_truL, y_truT, y_inL, y_inT, y_ex1, y_exO, y_exR, at0, at1, at2, at3, isNon, List.getElem?_cons_succ, List.getElem?_cons_zero, List.set_cons_succ, List.set_cons_zero, List.length_cons, List.length_nil, List.map_cons, List.map_nil, true_and, and_true, decide_eq_true_eq, Bool.not_eq_true', Bool.not_true, Bool.not_false, if_true, if_false, Bool.false_eq_true, ite_true, ite_false])
    by_cases h0 : v = 0
    · rw [if_pos h0]
      refine ⟨rfl, by omega, fun y y0 y1 => ?_⟩
      exact q ("add", y) (.inl ⟨rfl, y0, y1⟩) _ (by omega)
    · rw [if_neg h0]
      refine hNX _ ?_
      clear hNX NX
      refine y_cut fun NX hNX => ?_
      (try simp only [y_var, y_c, y_op, y_un, y_and, y_or, y_not, y_if, y_isN, y_notN, y_bOf, y_bTru, y_bNot, y_bYes, y_aNil, y_aCons, y_aStar, y_tup, y_disp, y_fz, y_cb, y_cat, y_of, y_sl, y_dO0, y_dO1, y_ixN, y_lenN, y_chain, y_call0, y_call, y_callR0, y_next, y_brk, y_cnt, y_asg, y_setO, y_gNm, y_gTp, y_gsNil, y_gsCons, y_subO, y_par, y_aug, y_expr, y_app, y_ext, y_ifS, y_ret, y_retN, y_for, y_while, y_iSeq, y_iTp, y_iR1, y_iR2, y_iEn, y_iZp, y_lc, y_raise, y_un1, y_call, endsX, outX, Bool.true_eq_false, reduceCtorEq, decide_true, decide_false, ix2_0, ix2_1, ix3_0, ix3_1, ix3_2, LcRun, LpRun, wipeP, restP, noX, dite_true, List.nil_append, List.cons_append, Option.getD_some, Option.getD_none, y_repr, y_tupleL, y_tupleT, y_sum, y_all, y_any, y_eqD, y_neD, y_rev, y_dn, y_orT, y_notT, y_ins, y_bits, y_bAnd, y_bOr, y_rt0, y_rtR, y_nx0, y_rtX, y_nxX, y_exX, inV2, inV3, flatD, vOf, List.all_cons, List.all_nil, Bool.and_self, sz_iff, Nat.reduceAdd, Nat.reduceLeDiff, Nat.zero_add, y_dD, y_dB, y_dI, y_dL, y_dSl, y_dSt, y_dAll0, y_dAllS, dAll_map, y_I0, y_I, y_eqI, y_eqS, y_eqB, y_neI, y_neS, y_neB, y_neg, y_ixL, y_ixT, y_min, y_max, y_abs, y_lenL, y_lenT, y_lenS, y_lenB, y_truL, y_truT, y_inL, y_inT, y_ex1, y_exO, y_exR, at0, at1, at2, at3, isNon, List.getElem?_cons_succ, List.getElem?_cons_zero, List.set_cons_succ, List.set_cons_zero, List.length_cons, List.length_nil, List.map_cons, List.map_nil, true_and, and_true, decide_eq_true_eq, Bool.not_eq_true', Bool.not_true, Bool.not_false, if_true, if_false, Bool.false_eq_true, ite_true, ite_false])
      refine ⟨most, rfl, by omega, m0, Int.lt_of_le_of_lt m1 (by decide +kernel), fun a a0 a1 => ?_⟩
      refine ⟨4, rfl, by omega, by omega, by decide, fun b b0 b1 => ?_⟩
      refine ⟨4, rfl, by omega, by omega, by decide, fun c c0 c1 => ?_⟩
      (try simp only [y_var, y_c, y_op, y_un, y_and, y_or, y_not, y_if, y_isN, y_notN, y_bOf, y_bTru, y_bNot, y_bYes, y_aNil, y_aCons, y_aStar, y_tup, y_disp, y_fz, y_cb, y_cat, y_of, y_sl, y_dO0, y_dO1, y_ixN, y_lenN, y_chain, y_call0, y_call, y_callR0, y_next, y_brk, y_cnt, y_asg, y_setO, y_gNm, y_gTp, y_gsNil, y_gsCons, y_subO, y_par, y_aug, y_expr, y_app, y_ext, y_ifS, y_ret, y_retN, y_for, y_while, y_iSeq, y_iTp, y_iR1, y_iR2, y_iEn, y_iZp, y_lc, y_raise, y_un1, y_call, endsX, outX, Bool.true_eq_false, reduceCtorEq, decide_true, decide_false, ix2_0, ix2_1, ix3_0, ix3_1, ix3_2, LcRun, LpRun, wipeP, restP, noX, dite_true, List.nil_append, List.cons_append, Option.getD_some, Option.getD_none, y_repr, y_tupleL, y_tupleT, y_sum, y_all, y_any, y_eqD, y_neD, y_rev, y_dn, y_orT, y_notT, y_ins, y_bits, y_bAnd, y_bOr, y_rt0, y_rtR, y_nx0, y_rtX, y_nxX, y_exX, inV2, inV3, flatD, vOf, List.all_cons, List.all_nil, Bool.and_self, sz_iff, Nat.reduceAdd, Nat.reduceLeDiff, Nat.zero_add, y_dD, y_dB, y_dI, y_dL, y_dSl, y_dSt, y_dAll0, y_dAllS, dAll_map, y_I0, y_I, y_eqI, y_eqS, y_eqB, y_neI, y_neS, y_neB, y_neg, y_ixL, y_ixT, y_min, y_max, y_abs, y_lenL, y_lenT, y_lenS, y_lenB, y_truL, y_truT, y_inL, y_inT, y_ex1, y_exO, y_exR, at0, at1, at2, at3, isNon, List.getElem?_cons_succ, List.getElem?_cons_zero, List.set_cons_succ, List.set_cons_zero, List.length_cons, List.length_nil, List.map_cons, List.map_nil, true_and, and_true, decide_eq_true_eq, Bool.not_eq_true', Bool.not_true, Bool.not_false, if_true, if_false, Bool.false_eq_true, ite_true, ite_false])
      have tail : ∀ (m : Nat) (t : Int), m ≤ n + 6 → 1 ≤ t → NX [Sl.rng m, Sl.a (Cc.A.d (PyData.int most)), Sl.a (Cc.A.d (PyData.int v)), Sl.a (Cc.A.d (.int t))] := fun m t hm t0 => by
        refine hNX _ ?_
        clear hNX NX
        (try simp only [y_var, y_c, y_op, y_un, y_and, y_or, y_not, y_if, y_isN, y_notN, y_bOf, y_bTru, y_bNot, y_bYes, y_aNil, y_aCons, y_aStar, y_tup, y_disp, y_fz, y_cb, y_cat, y_of, y_sl, y_dO0, y_dO1, y_ixN, y_lenN, y_chain, y_call0, y_call, y_callR0, y_next, y_brk, y_cnt, y_asg, y_setO, y_gNm, y_gTp, y_gsNil, y_gsCons, y_subO, y_par, y_aug, y_expr, y_app, y_ext, y_ifS, y_ret, y_retN, y_for, y_while, y_iSeq, y_iTp, y_iR1, y_iR2, y_iEn, y_iZp, y_lc, y_raise, y_un1, y_call, endsX, outX, Bool.true_eq_false, reduceCtorEq, decide_true, decide_false, ix2_0, ix2_1, ix3_0, ix3_1, ix3_2, LcRun, LpRun, wipeP, restP, noX, dite_true, List.nil_append, List.cons_append, Option.getD_some, Option.getD_none, y_repr, y_tupleL, y_tupleT, y_sum, y_all, y_any, y_eqD, y_neD, y_rev, y_dn, y_orT, y_notT, y_ins, y_bits, y_bAnd, y_bOr, y_rt0, y_rtR, y_nx0, y_rtX, y_nxX, y_exX, inV2, inV3, flatD, vOf, List.all_cons, List.all_nil, Bool.and_self, sz_iff, Nat.reduceAdd, Nat.reduceLeDiff, Nat.zero_add, y_dD, y_dB, y_dI, y_dL, y_dSl, y_dSt, y_dAll0, y_dAllS, dAll_map, y_I0, y_I, y_eqI, y_eqS, y_eqB, y_neI, y_neS, y_neB, y_neg, y_ixL, y_ixT, y_min, y_max, y_abs, y_lenL, y_lenT, y_lenS, y_lenB, y_truL, y_truT, y_inL, y_inT, y_ex1, y_exO, y_exR, at0, at1, at2, at3, isNon, List.getElem?_cons_succ, List.getElem?_cons_zero, List.set_cons_succ, List.set_cons_zero, List.length_cons, List.length_nil, List.map_cons, List.map_nil, true_and, and_true, decide_eq_true_eq, Bool.not_eq_true', Bool.not_true, Bool.not_false, if_true, if_false, Bool.false_eq_true, ite_true, ite_false])
        have hmin : 1 ≤ (if t < most then t else most) ∧ (if t < most then t else most) ≤ 64 := by constructor <;> split <;> omega
        rcases (show v = 1 ∨ v = 2 by omega) with rfl | rfl
        · exact ⟨_, at0, q ("s", _) (.inr ⟨.inl rfl, hmin⟩) _ (by omega)⟩
        · exact ⟨_, at1, q ("u", _) (.inr ⟨.inr rfl, hmin⟩) _ (by omega)⟩
      have key : ∃ g : Int, 1 ≤ g ∧ atI [PyData.int 8, PyData.int 16, PyData.int 32, PyData.int 64] c = some (.int g) := by
        rcases (show c = 0 ∨ c = 1 ∨ c = 2 ∨ c = 3 by omega) with rfl | rfl | rfl | rfl
        · exact ⟨8, by decide, at0⟩
        · exact ⟨16, by decide, at1⟩
        · exact ⟨32, by decide, at2⟩
        · exact ⟨64, by decide, at3⟩
      obtain ⟨g, g1, hg⟩ := key
      refine ⟨_, hg, 3, rfl, by omega, by omega, by decide, fun k k0 k1 => ?_⟩
      (try simp only [y_var, y_c, y_op, y_un, y_and, y_or, y_not, y_if, y_isN, y_notN, y_bOf, y_bTru, y_bNot, y_bYes, y_aNil, y_aCons, y_aStar, y_tup, y_disp, y_fz, y_cb, y_cat, y_of, y_sl, y_dO0, y_dO1, y_ixN, y_lenN, y_chain, y_call0, y_call, y_callR0, y_next, y_brk, y_cnt, y_asg, y_setO, y_gNm, y_gTp, y_gsNil, y_gsCons, y_subO, y_par, y_aug, y_expr, y_app, y_ext, y_ifS, y_ret, y_retN, y_for, y_while, y_iSeq, y_iTp, y_iR1, y_iR2, y_iEn, y_iZp, y_lc, y_raise, y_un1, y_call, endsX, outX, Bool.true_eq_false, reduceCtorEq, decide_true, decide_false, ix2_0, ix2_1, ix3_0, ix3_1, ix3_2, LcRun, LpRun, wipeP, restP, noX, dite_true, List.nil_append, List.cons_append, Option.getD_some, Option.getD_none, y_repr, y_tupleL, y_tupleT, y_sum, y_all, y_any, y_eqD, y_neD, y_rev, y_dn, y_orT, y_notT, y_ins, y_bits, y_bAnd, y_bOr, y_rt0, y_rtR, y_nx0, y_rtX, y_nxX, y_exX, inV2, inV3, flatD, vOf, List.all_cons, List.all_nil, Bool.and_self, sz_iff, Nat.reduceAdd, Nat.reduceLeDiff, Nat.zero_add, y_dD, y_dB, y_dI, y_dL, y_dSl, y_dSt, y_dAll0, y_dAllS, dAll_map, y_I0, y_I, y_eqI, y_eqS, y_eqB, y_neI, y_neS, y_neB, y_neg, y_ixL, y_ixT, y_min, y_max, y_abs, y_lenL, y_lenT, y_lenS, y_lenB, y_truL, y_truT, y_inL, y_inT, y_ex1, y_exO, y_exR, at0, at1, at2, at3, isNon, List.getElem?_cons_succ, List.getElem?_cons_zero, List.set_cons_succ, List.set_cons_zero, List.length_cons, List.length_nil, List.map_cons, List.map_nil, true_and, and_true, decide_eq_true_eq, Bool.not_eq_true', Bool.not_true, Bool.not_false, if_true, if_false, Bool.false_eq_true, ite_true, ite_false])
      rcases (show k = 0 ∨ k = 1 ∨ k = 2 by omega) with rfl | rfl | rfl
      · exact ⟨_, at0, tail _ _ (by omega) (by omega)⟩
      · exact ⟨_, at1, tail _ _ (by omega) (by omega)⟩
      · exact ⟨_, at2, tail _ _ (by omega) (by omega)⟩
def phChain : Phi := fun n xs R _ => ∃ many most : Int, xs = [.d (.int many), .d (.int most)] ∧ 0 ≤ many ∧ many ≤ 100 ∧ 1 ≤ most ∧ most ≤ 64 ∧ n < 60000000 ∧ ∀ c : List (Str × Int), (∀ p ∈ c, okD p) → c.length ≤ many → ∀ m, m ≤ n + 2000 → R (.d (chD c)) m
theorem q_chain (T : Tx K mg "_law_chain" s_law_chain) (m_range : mg "range" = none) (h__law_draw : Pr P w K mg base CX0 1 "_law_draw" ["rng", "limit"] (spP (poolG K C CS) true phDraw)) (h__law_step : Pr P w K mg base CX0 3 "_law_step" ["rng", "most"] (spP (poolG K C CS) true phStepD)) :
    Pr P w K mg base CX0 4 "_law_chain" ["rng", "many", "most"] (spP (poolG K C CS) true phChain) := by
  refine mkPP (Γ := poolG K C CS) T sc_law_chain (fun _ _ _ _ _ _ us hl => match us, hl with | [_, _, _], _ => rfl) (fun n xs R Xx h => ?_) (fun n xs R Xx h => h) (fun f cdv A outer s H E hG hr => ?_)
  · obtain ⟨_, _, rfl, _⟩ := h
    rfl
  · have nd := sc_law_chain.nd
    refine ⟨_, _, (dss_one (fun h => pss_one h) (ds_ret (fun h => ps_ret h) (de_fz (dl_comp (own := [("turn", 3)])  rfl nd (di_r1 (by exact fun h => pi_range1 rfl m_range (pa_cons h pa_nil)) (de_callR0 (i := 0) (fun h => pe_P h__law_draw hr hG (by rfl) (pa_cons (pv 0) h)) (da_cons (fun h t => pa_cons h t) (de_op opd_int0 (fun h h' => pe_op op_add h h') (de_var (pv 1)) (de_c pe_int (fun _ => .int _))) (da_nil pa_nil)))) (blkOk_by (own := [("turn", 3)]) (N := ["rng", "many", "most", "turn"]) (sc := defScope s_law_chain) (by decide +kernel)) (fun _ _ _ _ _ => (dg_name (pg_name (i := 3) nd rfl (.inl rfl)))) (fun _ _ _ _ _ => dts_nil) (fun _ _ _ _ _ => (de_callR0 (i := 0) (fun h => pe_P h__law_step hr hG (by rfl) (pa_cons (pv 0) h)) (da_cons (fun h t => pa_cons h t) (de_var (pv 2)) (da_nil pa_nil)))))))), fun n xs R h => ?_⟩
    obtain ⟨many, most, rfl, k0, k1, m0, m1, hn, q⟩ := h
    show (sRet _) [.rng n, .a (.d (.int many)), .a (.d (.int most)), .un] _
    (try simp only [y_var, y_c, y_op, y_un, y_and, y_or, y_not, y_if, y_isN, y_notN, y_bOf, y_bTru, y_bNot, y_bYes, y_aNil, y_aCons, y_aStar, y_tup, y_disp, y_fz, y_cb, y_cat, y_of, y_sl, y_dO0, y_dO1, y_ixN, y_lenN, y_chain, y_call0, y_call, y_callR0, y_next, y_brk, y_cnt, y_asg, y_setO, y_gNm, y_gTp, y_gsNil, y_gsCons, y_subO, y_par, y_aug, y_expr, y_app, y_ext, y_ifS, y_ret, y_retN, y_for, y_while, y_iSeq, y_iTp, y_iR1, y_iR2, y_iEn, y_iZp, y_lc, y_raise, y_un1, y_call, endsX, outX, Bool.true_eq_false, reduceCtorEq, decide_true, decide_false, ix2_0, ix2_1, ix3_0, ix3_1, ix3_2, LcRun, LpRun, wipeP, restP, noX, dite_true, List.nil_append, List.cons_append, Option.getD_some, Option.getD_none, y_repr, y_tupleL, y_tupleT, y_sum, y_all, y_any, y_eqD, y_neD, y_rev, y_dn, y_orT, y_notT, y_ins, y_bits, y_bAnd, y_bOr, y_rt0, y_rtR, y_nx0, y_rtX, y_nxX, y_exX, inV2, inV3, flatD, vOf, List.all_cons, List.all_nil, Bool.and_self, sz_iff, Nat.reduceAdd, Nat.reduceLeDiff, Nat.zero_add, y_dD, y_dB, y_dI, y_dL, y_dSl, y_dSt, y_dAll0, y_dAllS, dAll_map, y_I0, y_I, y_eqI, y_eqS, y_eqB, y_neI, y_neS, y_neB, y_neg, y_ixL, y_ixT, y_min, y_max, y_abs, y_lenL, y_lenT, y_lenS, y_lenB, y_truL, y_truT, y_inL, y_inT, y_ex1, y_exO, y_exR, at0, at1, at2, at3, isNon, List.getElem?_cons_succ, List.getElem?_cons_zero, List.set_cons_succ, List.set_cons_zero, List.length_cons, List.length_nil, List.map_cons, List.map_nil, true_and, and_true, decide_eq_true_eq, Bool.not_eq_true', Bool.not_true, Bool.not_false, if_true, if_false, Bool.false_eq_true, ite_true, ite_false])
    refine ⟨many + 1, rfl, by omega, by omega, Int.lt_of_le_of_lt (show many + 1 ≤ 101 by omega) (by decide +kernel), fun v v0 v1 => ?_⟩
    (try simp only [y_var, y_c, y_op, y_un, y_and, y_or, y_not, y_if, y_isN, y_notN, y_bOf, y_bTru, y_bNot, y_bYes, y_aNil, y_aCons, y_aStar, y_tup, y_disp, y_fz, y_cb, y_cat, y_of, y_sl, y_dO0, y_dO1, y_ixN, y_lenN, y_chain, y_call0, y_call, y_callR0, y_next, y_brk, y_cnt, y_asg, y_setO, y_gNm, y_gTp, y_gsNil, y_gsCons, y_subO, y_par, y_aug, y_expr, y_app, y_ext, y_ifS, y_ret, y_retN, y_for, y_while, y_iSeq, y_iTp, y_iR1, y_iR2, y_iEn, y_iZp, y_lc, y_raise, y_un1, y_call, endsX, outX, Bool.true_eq_false, reduceCtorEq, decide_true, decide_false, ix2_0, ix2_1, ix3_0, ix3_1, ix3_2, LcRun, LpRun, wipeP, restP, noX, dite_true, List.nil_append, List.cons_append, Option.getD_some, Option.getD_none, y_repr, y_tupleL, y_tupleT, y_sum, y_all, y_any, y_eqD, y_neD, y_rev, y_dn, y_orT, y_notT, y_ins, y_bits, y_bAnd, y_bOr, y_rt0, y_rtR, y_nx0, y_rtX, y_nxX, y_exX, inV2, inV3, flatD, vOf, List.all_cons, List.all_nil, Bool.and_self, sz_iff, Nat.reduceAdd, Nat.reduceLeDiff, Nat.zero_add, y_dD, y_dB, y_dI, y_dL, y_dSl, y_dSt, y_dAll0, y_dAllS, dAll_map, y_I0, y_I, y_eqI, y_eqS, y_eqB, y_neI, y_neS, y_neB, y_neg, y_ixL, y_ixT, y_min, y_max, y_abs, y_lenL, y_lenT, y_lenS, y_lenB, y_truL, y_truT, y_inL, y_inT, y_ex1, y_exO, y_exR, at0, at1, at2, at3, isNon, List.getElem?_cons_succ, List.getElem?_cons_zero, List.set_cons_succ, List.set_cons_zero, List.length_cons, List.length_nil, List.map_cons, List.map_nil, true_and, and_true, decide_eq_true_eq, Bool.not_eq_true', Bool.not_true, Bool.not_false, if_true, if_false, Bool.false_eq_true, ite_true, ite_false])
    refine ⟨by omega, by omega, ?_⟩
    refine comp (fun v hv => by simp only [List.mem_cons, List.not_mem_nil, or_false] at hv; first | (subst hv; exact trivial) | (rcases hv with rfl | rfl <;> exact trivial) | (rcases hv with rfl | rfl | rfl <;> exact trivial)) (fun i acc ρ => ∃ (c : List (Str × Int)) (m : Nat), acc = c.map (fun p => .tuple [.str p.1, .int p.2]) ∧ (∀ p ∈ c, okD p) ∧ c.length = i ∧ ρ = [.rng m, .a (.d (.int many)), .a (.d (.int most)), .un] ∧ m ≤ n + 1 + i * 10) ⟨[], _, rfl, fun _ h => (nomatch h), rfl, rfl, by omega⟩ (fun i x acc ρ hx h => ?_) (fun acc ρ h => ?_)
    · obtain ⟨c, m, rfl, hc, hl, rfl, hm⟩ := h
      have hi := (List.getElem?_eq_some_iff.mp hx).1
      rw [rngA_len] at hi
      (try simp only [y_var, y_c, y_op, y_un, y_and, y_or, y_not, y_if, y_isN, y_notN, y_bOf, y_bTru, y_bNot, y_bYes, y_aNil, y_aCons, y_aStar, y_tup, y_disp, y_fz, y_cb, y_cat, y_of, y_sl, y_dO0, y_dO1, y_ixN, y_lenN, y_chain, y_call0, y_call, y_callR0, y_next, y_brk, y_cnt, y_asg, y_setO, y_gNm, y_gTp, y_gsNil, y_gsCons, y_subO, y_par, y_aug, y_expr, y_app, y_ext, y_ifS, y_ret, y_retN, y_for, y_while, y_iSeq, y_iTp, y_iR1, y_iR2, y_iEn, y_iZp, y_lc, y_raise, y_un1, y_call, endsX, outX, Bool.true_eq_false, reduceCtorEq, decide_true, decide_false, ix2_0, ix2_1, ix3_0, ix3_1, ix3_2, LcRun, LpRun, wipeP, restP, noX, dite_true, List.nil_append, List.cons_append, Option.getD_some, Option.getD_none, y_repr, y_tupleL, y_tupleT, y_sum, y_all, y_any, y_eqD, y_neD, y_rev, y_dn, y_orT, y_notT, y_ins, y_bits, y_bAnd, y_bOr, y_rt0, y_rtR, y_nx0, y_rtX, y_nxX, y_exX, inV2, inV3, flatD, vOf, List.all_cons, List.all_nil, Bool.and_self, sz_iff, Nat.reduceAdd, Nat.reduceLeDiff, Nat.zero_add, y_dD, y_dB, y_dI, y_dL, y_dSl, y_dSt, y_dAll0, y_dAllS, dAll_map, y_I0, y_I, y_eqI, y_eqS, y_eqB, y_neI, y_neS, y_neB, y_neg, y_ixL, y_ixT, y_min, y_max, y_abs, y_lenL, y_lenT, y_lenS, y_lenB, y_truL, y_truT, y_inL, y_inT, y_ex1, y_exO, y_exR, at0, at1, at2, at3, isNon, List.getElem?_cons_succ, List.getElem?_cons_zero, List.set_cons_succ, List.set_cons_zero, List.length_cons, List.length_nil, List.map_cons, List.map_nil, true_and, and_true, decide_eq_true_eq, Bool.not_eq_true', Bool.not_true, Bool.not_false, if_true, if_false, Bool.false_eq_true, ite_true, ite_false])
      refine ⟨most, rfl, m0, m1, by omega, fun p hp m2 hm2 => ?_⟩
      unfold stA
      (try simp only [y_var, y_c, y_op, y_un, y_and, y_or, y_not, y_if, y_isN, y_notN, y_bOf, y_bTru, y_bNot, y_bYes, y_aNil, y_aCons, y_aStar, y_tup, y_disp, y_fz, y_cb, y_cat, y_of, y_sl, y_dO0, y_dO1, y_ixN, y_lenN, y_chain, y_call0, y_call, y_callR0, y_next, y_brk, y_cnt, y_asg, y_setO, y_gNm, y_gTp, y_gsNil, y_gsCons, y_subO, y_par, y_aug, y_expr, y_app, y_ext, y_ifS, y_ret, y_retN, y_for, y_while, y_iSeq, y_iTp, y_iR1, y_iR2, y_iEn, y_iZp, y_lc, y_raise, y_un1, y_call, endsX, outX, Bool.true_eq_false, reduceCtorEq, decide_true, decide_false, ix2_0, ix2_1, ix3_0, ix3_1, ix3_2, LcRun, LpRun, wipeP, restP, noX, dite_true, List.nil_append, List.cons_append, Option.getD_some, Option.getD_none, y_repr, y_tupleL, y_tupleT, y_sum, y_all, y_any, y_eqD, y_neD, y_rev, y_dn, y_orT, y_notT, y_ins, y_bits, y_bAnd, y_bOr, y_rt0, y_rtR, y_nx0, y_rtX, y_nxX, y_exX, inV2, inV3, flatD, vOf, List.all_cons, List.all_nil, Bool.and_self, sz_iff, Nat.reduceAdd, Nat.reduceLeDiff, Nat.zero_add, y_dD, y_dB, y_dI, y_dL, y_dSl, y_dSt, y_dAll0, y_dAllS, dAll_map, y_I0, y_I, y_eqI, y_eqS, y_eqB, y_neI, y_neS, y_neB, y_neg, y_ixL, y_ixT, y_min, y_max, y_abs, y_lenL, y_lenT, y_lenS, y_lenB, y_truL, y_truT, y_inL, y_inT, y_ex1, y_exO, y_exR, at0, at1, at2, at3, isNon, List.getElem?_cons_succ, List.getElem?_cons_zero, List.set_cons_succ, List.set_cons_zero, List.length_cons, List.length_nil, List.map_cons, List.map_nil, true_and, and_true, decide_eq_true_eq, Bool.not_eq_true', Bool.not_true, Bool.not_false, if_true, if_false, Bool.false_eq_true, ite_true, ite_false])
      refine ⟨szS (m := 200) (by rw [List.length_map]; omega) (by decide), c ++ [p], m2, by rw [List.map_append]; rfl, fun p' hp' => ?_, by rw [List.length_append, hl]; rfl, rfl, by omega⟩
      rcases List.mem_append.mp hp' with h | h
      · exact hc _ h
      · rw [List.mem_singleton.mp h]; exact hp
    · obtain ⟨c, m, rfl, hc, hl, rfl, hm⟩ := h
      rw [rngA_len] at hl hm
      (try simp only [y_var, y_c, y_op, y_un, y_and, y_or, y_not, y_if, y_isN, y_notN, y_bOf, y_bTru, y_bNot, y_bYes, y_aNil, y_aCons, y_aStar, y_tup, y_disp, y_fz, y_cb, y_cat, y_of, y_sl, y_dO0, y_dO1, y_ixN, y_lenN, y_chain, y_call0, y_call, y_callR0, y_next, y_brk, y_cnt, y_asg, y_setO, y_gNm, y_gTp, y_gsNil, y_gsCons, y_subO, y_par, y_aug, y_expr, y_app, y_ext, y_ifS, y_ret, y_retN, y_for, y_while, y_iSeq, y_iTp, y_iR1, y_iR2, y_iEn, y_iZp, y_lc, y_raise, y_un1, y_call, endsX, outX, Bool.true_eq_false, reduceCtorEq, decide_true, decide_false, ix2_0, ix2_1, ix3_0, ix3_1, ix3_2, LcRun, LpRun, wipeP, restP, noX, dite_true, List.nil_append, List.cons_append, Option.getD_some, Option.getD_none, y_repr, y_tupleL, y_tupleT, y_sum, y_all, y_any, y_eqD, y_neD, y_rev, y_dn, y_orT, y_notT, y_ins, y_bits, y_bAnd, y_bOr, y_rt0, y_rtR, y_nx0, y_rtX, y_nxX, y_exX, inV2, inV3, flatD, vOf, List.all_cons, List.all_nil, Bool.and_self, sz_iff, Nat.reduceAdd, Nat.reduceLeDiff, Nat.zero_add, y_dD, y_dB, y_dI, y_dL, y_dSl, y_dSt, y_dAll0, y_dAllS, dAll_map, y_I0, y_I, y_eqI, y_eqS, y_eqB, y_neI, y_neS, y_neB, y_neg, y_ixL, y_ixT, y_min, y_max, y_abs, y_lenL, y_lenT, y_lenS, y_lenB, y_truL, y_truT, y_inL, y_inT, y_ex1, y_exO, y_exR, at0, at1, at2, at3, isNon, List.getElem?_cons_succ, List.getElem?_cons_zero, List.set_cons_succ, List.set_cons_zero, List.length_cons, List.length_nil, List.map_cons, List.map_nil, true_and, and_true, decide_eq_true_eq, Bool.not_eq_true', Bool.not_true, Bool.not_false, if_true, if_false, Bool.false_eq_true, ite_true, ite_false])
      exact q c hc (by omega) m (by omega)
end

end Cc

set_option Elab.async false
set_option linter.all false
set_option maxRecDepth 100000
set_option maxHeartbeats 4000000
namespace Cc
open PySem PySem.Spec PyProof.Rows L2
abbrev s_stages : Stmt := topS 16
theorem sc_stages : GScope ["number", "chain", "step"] ["number", "chain"] (defScope s_stages) := ⟨rfl, rfl, rfl, by decide +kernel, rfl, by decide +kernel, by decide +kernel⟩
section
variable {P : Program} {w : World} {K : PySem.W.Frag} {mg : Str → Option Value} {base : Heap} {CS fS : Addr} {fdS : FuncData}
def spCheckF (K : PySem.W.Frag) (CS : Addr) : Sp := fun vs H Q E => ∃ (a : Addr) (c : Ch), vs = [.ref a] ∧ ChAt K H a c ∧ (firstBad c = none → ∀ H', Same H H' → Q .non H') ∧
  ∀ i, firstBad c = some i → ∀ d H', Same H H' → H' d = none → E (.ref CS) (some d) (upd H' d (.xd [("value", .int (i : Nat))]))
theorem p_check_chainF (T : Tx K mg "check_chain" s_check_chain) (XS : XC K mg "InvalidStep" CS fS) (iS : FnOk P w K mg base CX0 1 fS fdS ["self", "value"] (spInit K CS)) (bS : Binds K fdS ["self", "value"] []) (m_enumerate : mg "enumerate" = none)
    (h_is_cast : Pr P w K mg base CX0 1 "is_cast" ["word", "width"] spIsCast) : Pr P w K mg base (L2N.CX P w) 3 "check_chain" ["chain"] (spCheckF K CS) := by
  refine mkPX T sc_check_chain (fun _ _ _ _ _ _ us hl => match us, hl with | [_], _ => rfl) (fun vs H Q E h => ?_) (fun f cdv A outer s H vs Q E hG hr h => ?_)
  · obtain ⟨_, _, rfl, _⟩ := h
    rfl
  · obtain ⟨a, c, rfl, ⟨xs, hL, hS⟩, q, qE⟩ := h
    have nd := sc_check_chain.nd
    refine ⟨_, (pss_one (ps_for (passes_of rfl) rfl (pi_enum (by rfl) m_enumerate (pa_cons (pv 0) pa_nil)) (pg_tup rfl (pgs_cons (pg_name (i := 1) nd rfl (.inl rfl)) (pgs_cons (pg_tup rfl (pgs_cons (pg_name (i := 2) nd rfl (.inl rfl)) (pgs_cons (pg_name (i := 3) nd rfl (.inl rfl)) pgs_nil))) pgs_nil))) (pss_one (ps_if (PW.pt (pw_and (pt_cmpR op_ne (pv 2) pe_str (nomark _)) (pw_and1 (pt_not (pt_val (pe_P h_is_cast hr hG (by rfl) (pa_cons (pv 2) (pa_cons (pv 3) pa_nil)))))))) (pss_one (ps_rs rfl (L2N.takes_of rfl rfl rfl rfl) (pmk_ex XS iS (hr.mono (by decide)) bS (by rfl) (pa_cons (pv 1) pa_nil)))) pss_nil)))), ?_⟩
    show (tFor _ _ _) _ [some (V.ref a), none, none, none] H
    (try simp only [x_asg, x_mkV, x_value, x_lcR1, x_lcL, List.map_cons, List.map_nil, x_yes, x_wipe0, x_wipeS, x_rs, x_callS, x_callKS, x_fld, x_sfld, x_meth, x_make, x_fldaug, x_BM0, x_rAdd, x_retN, x_name, x_sub, x_ret, x_next, x_ifS, x_ite, x_iteN, x_T, x_F, x_tT, x_tF, x_op, x_un, x_var0, x_varS, x_c, x_I0, x_I, x_rU, x_nil, x_cons, x_test, x_B, x_bl, x_call, x_CB, x_tup, x_lst, x_not, x_Eq, x_Ne, x_eqII, x_eqSS, x_eqBB,  x_and, x_or, x_andV, x_orV, x_notV, x_if, x_par, x_two, x_drop, x_BM, x_set0, x_setS, x_gcons, x_gnil, x_forL, x_forT, x_forR1, x_forR2, x_forE, x_ref, x_int1, x_oneI, x_oneB, x_noBI, x_twoI, false_or, x_sl, x_noP, x_part, true_and, List.append_nil, cxK, cxKn]; try simp only [V.str.injEq, V.int.injEq, V.bl.injEq])
    refine ⟨a, xs, rfl, hL, ?_⟩
    refine lpE (xs := xs) (fun i σ H' => (∃ y1 y2 y3, σ = [some (.ref a), y1, y2, y3]) ∧ Same H H' ∧ ∀ j, j < i → ∀ s, c[j]? = some s → okS s = true) ⟨⟨_, _, _, rfl⟩, Same.refl _, fun j hj => absurd hj (Nat.not_lt_zero _)⟩ (fun i σ H' _ h => h.2.1.seq hL) (fun i x σ H' T' hx h nT => ?_)
      (fun σ H' h => q (firstBad_none fun j hj => h.2.2 j (by rw [hS.len]; exact hj)) H' h.2.1)
    obtain ⟨⟨y1, y2, y3, rfl⟩, hH, hp⟩ := h
    obtain ⟨t, w', n, rfl, hc, hT⟩ := hS.get hx
    have more : okS (w', n) = true → ∀ j, j < i + 1 → ∀ s, c[j]? = some s → okS s = true := fun ok j hj s hs => by
      rcases Nat.lt_succ_iff_lt_or_eq.mp hj with h | h
      · exact hp j h s hs
      · subst h
        rw [hc] at hs
        cases hs
        exact ok
    refine x_gtup (SqT.of upd_same) rfl ?_
    (try simp only [x_asg, x_mkV, x_value, x_lcR1, x_lcL, List.map_cons, List.map_nil, x_yes, x_wipe0, x_wipeS, x_rs, x_callS, x_callKS, x_fld, x_sfld, x_meth, x_make, x_fldaug, x_BM0, x_rAdd, x_retN, x_name, x_sub, x_ret, x_next, x_ifS, x_ite, x_iteN, x_T, x_F, x_tT, x_tF, x_op, x_un, x_var0, x_varS, x_c, x_I0, x_I, x_rU, x_nil, x_cons, x_test, x_B, x_bl, x_call, x_CB, x_tup, x_lst, x_not, x_Eq, x_Ne, x_eqII, x_eqSS, x_eqBB,  x_and, x_or, x_andV, x_orV, x_notV, x_if, x_par, x_two, x_drop, x_BM, x_set0, x_setS, x_gcons, x_gnil, x_forL, x_forT, x_forR1, x_forR2, x_forE, x_ref, x_int1, x_oneI, x_oneB, x_noBI, x_twoI, false_or, x_sl, x_noP, x_part, true_and, List.append_nil, cxK, cxKn]; try simp only [V.str.injEq, V.int.injEq, V.bl.injEq])
    refine x_gtup (Same.tup (hH.trans (same_new nT)) hT) rfl ?_
    (try simp only [x_asg, x_mkV, x_value, x_lcR1, x_lcL, List.map_cons, List.map_nil, x_yes, x_wipe0, x_wipeS, x_rs, x_callS, x_callKS, x_fld, x_sfld, x_meth, x_make, x_fldaug, x_BM0, x_rAdd, x_retN, x_name, x_sub, x_ret, x_next, x_ifS, x_ite, x_iteN, x_T, x_F, x_tT, x_tF, x_op, x_un, x_var0, x_varS, x_c, x_I0, x_I, x_rU, x_nil, x_cons, x_test, x_B, x_bl, x_call, x_CB, x_tup, x_lst, x_not, x_Eq, x_Ne, x_eqII, x_eqSS, x_eqBB,  x_and, x_or, x_andV, x_orV, x_notV, x_if, x_par, x_two, x_drop, x_BM, x_set0, x_setS, x_gcons, x_gnil, x_forL, x_forT, x_forR1, x_forR2, x_forE, x_ref, x_int1, x_oneI, x_oneB, x_noBI, x_twoI, false_or, x_sl, x_noP, x_part, true_and, List.append_nil, cxK, cxKn]; try simp only [V.str.injEq, V.int.injEq, V.bl.injEq])
    refine ⟨fun h => ?_, fun h => ⟨⟨_, _, _, rfl⟩, hH.trans (same_new nT), more (by unfold okS; simp [show w' = "add" from h])⟩⟩
    refine ⟨_, _, rfl, fun H2 s2 => ?_⟩
    have sH := (hH.trans (same_new nT)).trans s2
    (try simp only [x_asg, x_mkV, x_value, x_lcR1, x_lcL, List.map_cons, List.map_nil, x_yes, x_wipe0, x_wipeS, x_rs, x_callS, x_callKS, x_fld, x_sfld, x_meth, x_make, x_fldaug, x_BM0, x_rAdd, x_retN, x_name, x_sub, x_ret, x_next, x_ifS, x_ite, x_iteN, x_T, x_F, x_tT, x_tF, x_op, x_un, x_var0, x_varS, x_c, x_I0, x_I, x_rU, x_nil, x_cons, x_test, x_B, x_bl, x_call, x_CB, x_tup, x_lst, x_not, x_Eq, x_Ne, x_eqII, x_eqSS, x_eqBB,  x_and, x_or, x_andV, x_orV, x_notV, x_if, x_par, x_two, x_drop, x_BM, x_set0, x_setS, x_gcons, x_gnil, x_forL, x_forT, x_forR1, x_forR2, x_forE, x_ref, x_int1, x_oneI, x_oneB, x_noBI, x_twoI, false_or, x_sl, x_noP, x_part, true_and, List.append_nil, cxK, cxKn]; try simp only [V.str.injEq, V.int.injEq, V.bl.injEq])
    cases e : isC w' n with
    | true =>
      (try simp only [x_asg, x_mkV, x_value, x_lcR1, x_lcL, List.map_cons, List.map_nil, x_yes, x_wipe0, x_wipeS, x_rs, x_callS, x_callKS, x_fld, x_sfld, x_meth, x_make, x_fldaug, x_BM0, x_rAdd, x_retN, x_name, x_sub, x_ret, x_next, x_ifS, x_ite, x_iteN, x_T, x_F, x_tT, x_tF, x_op, x_un, x_var0, x_varS, x_c, x_I0, x_I, x_rU, x_nil, x_cons, x_test, x_B, x_bl, x_call, x_CB, x_tup, x_lst, x_not, x_Eq, x_Ne, x_eqII, x_eqSS, x_eqBB,  x_and, x_or, x_andV, x_orV, x_notV, x_if, x_par, x_two, x_drop, x_BM, x_set0, x_setS, x_gcons, x_gnil, x_forL, x_forT, x_forR1, x_forR2, x_forE, x_ref, x_int1, x_oneI, x_oneB, x_noBI, x_twoI, false_or, x_sl, x_noP, x_part, true_and, List.append_nil, cxK, cxKn]; try simp only [V.str.injEq, V.int.injEq, V.bl.injEq])
      exact ⟨⟨_, _, _, rfl⟩, sH, more (by unfold okS; rw [e]; simp)⟩
    | false =>
      (try simp only [x_asg, x_mkV, x_value, x_lcR1, x_lcL, List.map_cons, List.map_nil, x_yes, x_wipe0, x_wipeS, x_rs, x_callS, x_callKS, x_fld, x_sfld, x_meth, x_make, x_fldaug, x_BM0, x_rAdd, x_retN, x_name, x_sub, x_ret, x_next, x_ifS, x_ite, x_iteN, x_T, x_F, x_tT, x_tF, x_op, x_un, x_var0, x_varS, x_c, x_I0, x_I, x_rU, x_nil, x_cons, x_test, x_B, x_bl, x_call, x_CB, x_tup, x_lst, x_not, x_Eq, x_Ne, x_eqII, x_eqSS, x_eqBB,  x_and, x_or, x_andV, x_orV, x_notV, x_if, x_par, x_two, x_drop, x_BM, x_set0, x_setS, x_gcons, x_gnil, x_forL, x_forT, x_forR1, x_forR2, x_forE, x_ref, x_int1, x_oneI, x_oneB, x_noBI, x_twoI, false_or, x_sl, x_noP, x_part, true_and, List.append_nil, cxK, cxKn]; try simp only [V.str.injEq, V.int.injEq, V.bl.injEq])
      refine mkR1 fun d nd => ?_
      exact qE i (firstBad_some hc (by unfold okS; rw [e]; simp [h]) hp) d _ sH nd

/-- the first number of the stages, or the error that comes before it -/
def spSt1 (K : PySem.W.Frag) (CS : Addr) : Sp1 := fun vs H Q E => ∃ (y : Int) (a : Addr) (c : Ch), vs = [.int y, .ref a] ∧ ChAt K H a c ∧ (firstBad c = none → ∀ H', Same H H' → Q (.int y) H') ∧
  ∀ i, firstBad c = some i → ∀ d H', Same H H' → H' d = none → E (.ref CS) (some d) (upd H' d (.xd [("value", .int (i : Nat))]))
theorem g1_stages (T : Tx K mg "stages" s_stages) (h_check_chain : Pr P w K mg base (L2N.CX P w) 3 "check_chain" ["chain"] (spCheckF K CS)) : Pr1 P w K mg base 4 "stages" s_stages ["number", "chain"] (spSt1 K CS) := by
  refine mk1 T sc_stages rfl (fun vs H Q E h => ?_) (fun f cdv A outer s H H1 vs Q E b o hG hr hn h1 h => ?_)
  · obtain ⟨_, _, _, rfl, _⟩ := h
    rfl
  · obtain ⟨y, a, c, rfl, hC, q, qE⟩ := h
    have nd := sc_stages.nd
    have s1 : Same H H1 := by rw [h1]; exact same_new hn
    have b1 : H1 b = some (.frz o (.own 0)) := by rw [h1]; exact upd_same
    refine ⟨_, _, ps_expr (pe_PX h_check_chain hr hG (by rfl) (L2N.takes_of rfl rfl rfl rfl) (pa_cons (pv 1) pa_nil)), pv 0, ?_⟩
    (try simp only [x_asg, x_mkV, x_value, x_lcR1, x_lcL, List.map_cons, List.map_nil, x_yes, x_wipe0, x_wipeS, x_rs, x_callS, x_callKS, x_fld, x_sfld, x_meth, x_make, x_fldaug, x_BM0, x_rAdd, x_retN, x_name, x_sub, x_ret, x_next, x_ifS, x_ite, x_iteN, x_T, x_F, x_tT, x_tF, x_op, x_un, x_var0, x_varS, x_c, x_I0, x_I, x_rU, x_nil, x_cons, x_test, x_B, x_bl, x_call, x_CB, x_tup, x_lst, x_not, x_Eq, x_Ne, x_eqII, x_eqSS, x_eqBB,  x_and, x_or, x_andV, x_orV, x_notV, x_if, x_par, x_two, x_drop, x_BM, x_set0, x_setS, x_gcons, x_gnil, x_forL, x_forT, x_forR1, x_forR2, x_forE, x_ref, x_int1, x_oneI, x_oneB, x_noBI, x_twoI, false_or, x_sl, x_noP, x_part, true_and, List.append_nil, cxK, cxKn]; try simp only [V.str.injEq, V.int.injEq, V.bl.injEq])
    refine ⟨_, rfl, ?_⟩
    refine ⟨a, c, rfl, hC.same s1, fun ok H' s => ⟨_, rfl, q ok H' (s1.trans s)⟩, fun i hi d H' s nd => ⟨qE i hi d H' (s1.trans s) nd, ?_⟩⟩
    have e := s _ _ b1
    rw [upd_ne fun z => by rw [z, nd] at e; cases e]
    exact e
end

section
variable {Γ : Gx} {X : Cx} {W : WX} {es : List Expr} {st : Stmt} {i : Nat}
/-- for x in stages(..): break -/
def sFirst (i : Nat) (as : AA) : SS := fun ρ P => as ρ (fun xs ρ1 => ∃ (y : Int) (c : Ch), xs = [.d (.int y), .d (chD c)] ∧ (firstBad c = none → P.nx (ρ1.set i (.a (.d (.int y))))) ∧ ∀ k, firstBad c = some k → P.ex 0 (.int (k : Nat)) ρ1) P.ex
theorem ds_first (hst : PySem.W.subIn Γ.K (.ref (Γ.C 0)) (.type "StopIteration") = some false) (hpe : ∀ {ta : TA}, PA X es ta → PS X st (tFirst Γ.K W (spSt1 Γ.K (Γ.C 0)) ta (gName i) tBreak)) {ta : TA} {as : AA} (h : DA Γ X W es ta as) : DS Γ X W st (tFirst Γ.K W (spSt1 Γ.K (Γ.C 0)) ta (gName i) tBreak) (sFirst i as) := by
  obtain ⟨p, dn⟩ := h
  refine ⟨hpe p, fun f F H σ ρ P D E q o => ?_⟩
  refine dn f F H σ ρ _ _ P.ex E q (fun xs ρ1 F1 H1 us q1 E1 s1 r1 => ?_) (o.ex σ)
  obtain ⟨y, c, rfl, q2, q3⟩ := q1
  match us, r1 with
  | [u1, u2], ⟨r1, r2, _⟩ =>
    cases r1
    obtain ⟨a, rfl, hC⟩ := ch_of r2
    refine ⟨y, a, c, rfl, hC.same E1.s1, fun ok H' s => ?_, fun k hk d H' s nd => ⟨?_, hst⟩⟩
    · have E2 := E1.grow s
      exact o.nx _ _ _ _ (q2 ok) (E2.setA (.int y)) s1
    · exact o.ex σ 0 (.int (k : Nat)) ρ1 _ _ d (.int (k : Nat)) (q3 k hk) ((E1.grow s).alloc nd) upd_same (.int _)
theorem y_first {as : AA} {ρ : List Sl} {P : EndsP} : sFirst i as ρ P ↔ as ρ (fun xs ρ1 => ∃ (y : Int) (c : Ch), xs = [.d (.int y), .d (chD c)] ∧ (firstBad c = none → P.nx (ρ1.set i (.a (.d (.int y))))) ∧ ∀ k, firstBad c = some k → P.ex 0 (.int (k : Nat)) ρ1) P.ex := Iff.rfl
end

end Cc

set_option Elab.async false
set_option linter.all false
set_option maxRecDepth 100000
set_option maxHeartbeats 4000000
namespace Cc
open PySem PySem.Spec PyProof.Rows L2
abbrev s_fits : Stmt := topS 17
theorem sc_fits : FnScope ["number", "word", "width"] ["number", "word", "width"] (defScope s_fits) := ⟨rfl, rfl, rfl, by decide +kernel, rfl, by decide +kernel, by decide +kernel⟩
section
variable {P : Program} {w : World} {Γ : Gx} {mg : Str → Option Value} {base : Heap} {fI : Nat → Addr} {fd : Nat → FuncData} {C0 : Addr}
def phFitsX : Phi := fun _ xs R Xx => ∃ (y : Int) (x : Str) (n : Int), xs = [.d (.int y), .d (.str x), .d (.int n)] ∧ n ≤ big ∧ (isC x n = true → R (.d (.bool (decide (castI y x n = y)))) 0) ∧ (isC x n = false → Xx 0 (.int 0) 0)
theorem k_fits (T : Tx Γ.K mg "fits" s_fits) (Y : Cls P w Γ.K mg base Γ.C fI fd C0) (h_is_cast : Pr P w Γ.K mg base CX0 1 "is_cast" ["word", "width"] (spP Γ false phIsCast)) (h_cast : Pr P w Γ.K mg base CX0 2 "cast" ["number", "word", "width"] (spP Γ false phCast)) :
    PrK P w Γ.K mg base (L2N.CX P w) 3 "fits" s_fits ["number", "word", "width"] (spP Γ false phFitsX) := by
  refine mkPPXK T sc_fits (fun n xs R Xx h => ?_) (fun f cdv A outer s H E hG hr => ?_)
  · obtain ⟨_, _, _, rfl, _⟩ := h
    rfl
  · have nd := sc_fits.nd
    refine ⟨_, _, (dss_cons (fun h h' => pss_cons h h') (ds_if (fun h a b => ps_if h a b) (dt_not (fun h => pt_not h) (dt_val (fun h => pt_val h) (de_call0 (fun h => pe_P h_is_cast hr hG (by rfl) h) (da_cons (fun h t => pa_cons h t) (de_var (pv 1)) (da_cons (fun h t => pa_cons h t) (de_var (pv 2)) (da_nil pa_nil)))))) (dss_one (fun h => pss_one h) (ds_raise (c := 0) (fun h => ps_rs rfl (L2N.takes_of rfl rfl rfl rfl) (pmk_ex (Y.cls 0) (Y.ini 0) (hr.mono (by decide)) (Y.bi 0) (by rfl) (pa_cons h pa_nil))) (de_c pe_int (fun _ => .int _)))) (dss_nil pss_nil)) (dss_one (fun h => pss_one h) (ds_ret (fun h => ps_ret h) (de_op opd_eq (fun h h' => pe_cmpR op_eq h h' (nomark _)) (de_call0 (fun h => pe_P h_cast hr hG (by rfl) h) (da_cons (fun h t => pa_cons h t) (de_var (pv 0)) (da_cons (fun h t => pa_cons h t) (de_var (pv 1)) (da_cons (fun h t => pa_cons h t) (de_var (pv 2)) (da_nil pa_nil))))) (de_var (pv 0)))))), fun n xs R Xx h => ?_⟩
    obtain ⟨y, x, m, rfl, hb, q, qx⟩ := h
    show (sSeq _ _) [.a (.d (.int y)), .a (.d (.str x)), .a (.d (.int m))] _
    refine y_seq.mpr ?_
    (try simp only [y_var, y_c, y_op, y_un, y_and, y_or, y_not, y_if, y_isN, y_notN, y_bOf, y_bTru, y_bNot, y_bYes, y_aNil, y_aCons, y_aStar, y_tup, y_disp, y_fz, y_cb, y_cat, y_of, y_sl, y_dO0, y_dO1, y_ixN, y_lenN, y_chain, y_call0, y_call, y_callR0, y_next, y_brk, y_cnt, y_asg, y_setO, y_gNm, y_gTp, y_gsNil, y_gsCons, y_subO, y_par, y_aug, y_expr, y_app, y_ext, y_ifS, y_ret, y_retN, y_for, y_while, y_iSeq, y_iTp, y_iR1, y_iR2, y_iEn, y_iZp, y_lc, y_raise, y_un1, y_try, y_val, y_isX, y_first, y_call, y_call, endsX, outX, Bool.true_eq_false, reduceCtorEq, decide_true, decide_false, ix2_0, ix2_1, ix3_0, ix3_1, ix3_2, LcRun, LpRun, wipeP, restP, noX, dite_true, List.nil_append, List.cons_append, Option.getD_some, Option.getD_none, y_repr, y_tupleL, y_tupleT, y_sum, y_all, y_any, y_eqD, y_neD, y_rev, y_dn, y_orT, y_notT, y_ins, y_bits, y_bAnd, y_bOr, y_rt0, y_rtR, y_nx0, y_rtX, y_nxX, y_exX, inV2, inV3, flatD, vOf, List.all_cons, List.all_nil, Bool.and_self, sz_iff, Nat.reduceAdd, Nat.reduceLeDiff, Nat.zero_add, y_dD, y_dB, y_dI, y_dL, y_dSl, y_dSt, y_dAll0, y_dAllS, dAll_map, y_I0, y_I, y_eqI, y_eqS, y_eqB, y_neI, y_neS, y_neB, y_neg, y_ixL, y_ixT, y_min, y_max, y_abs, y_lenL, y_lenT, y_lenS, y_lenB, y_truL, y_truT, y_inL, y_inT, y_ex1, y_exO, y_exR, at0, at1, at2, at3, isNon, List.getElem?_cons_succ, List.getElem?_cons_zero, List.set_cons_succ, List.set_cons_zero, List.length_cons, List.length_nil, List.map_cons, List.map_nil, true_and, and_true, decide_eq_true_eq, Bool.not_eq_true', Bool.not_true, Bool.not_false, if_true, if_false, Bool.false_eq_true, ite_true, ite_false])
    refine ⟨x, m, rfl, ?_⟩
    (try simp only [y_var, y_c, y_op, y_un, y_and, y_or, y_not, y_if, y_isN, y_notN, y_bOf, y_bTru, y_bNot, y_bYes, y_aNil, y_aCons, y_aStar, y_tup, y_disp, y_fz, y_cb, y_cat, y_of, y_sl, y_dO0, y_dO1, y_ixN, y_lenN, y_chain, y_call0, y_call, y_callR0, y_next, y_brk, y_cnt, y_asg, y_setO, y_gNm, y_gTp, y_gsNil, y_gsCons, y_subO, y_par, y_aug, y_expr, y_app, y_ext, y_ifS, y_ret, y_retN, y_for, y_while, y_iSeq, y_iTp, y_iR1, y_iR2, y_iEn, y_iZp, y_lc, y_raise, y_un1, y_try, y_val, y_isX, y_first, y_call, y_call, endsX, outX, Bool.true_eq_false, reduceCtorEq, decide_true, decide_false, ix2_0, ix2_1, ix3_0, ix3_1, ix3_2, LcRun, LpRun, wipeP, restP, noX, dite_true, List.nil_append, List.cons_append, Option.getD_some, Option.getD_none, y_repr, y_tupleL, y_tupleT, y_sum, y_all, y_any, y_eqD, y_neD, y_rev, y_dn, y_orT, y_notT, y_ins, y_bits, y_bAnd, y_bOr, y_rt0, y_rtR, y_nx0, y_rtX, y_nxX, y_exX, inV2, inV3, flatD, vOf, List.all_cons, List.all_nil, Bool.and_self, sz_iff, Nat.reduceAdd, Nat.reduceLeDiff, Nat.zero_add, y_dD, y_dB, y_dI, y_dL, y_dSl, y_dSt, y_dAll0, y_dAllS, dAll_map, y_I0, y_I, y_eqI, y_eqS, y_eqB, y_neI, y_neS, y_neB, y_neg, y_ixL, y_ixT, y_min, y_max, y_abs, y_lenL, y_lenT, y_lenS, y_lenB, y_truL, y_truT, y_inL, y_inT, y_ex1, y_exO, y_exR, at0, at1, at2, at3, isNon, List.getElem?_cons_succ, List.getElem?_cons_zero, List.set_cons_succ, List.set_cons_zero, List.length_cons, List.length_nil, List.map_cons, List.map_nil, true_and, and_true, decide_eq_true_eq, Bool.not_eq_true', Bool.not_true, Bool.not_false, if_true, if_false, Bool.false_eq_true, ite_true, ite_false])
    cases e : isC x m with
    | true =>
      rw [if_neg (by decide)]
      have h1 : 1 ≤ m := by
        unfold isC at e
        simp at e
        exact e.2
      refine ⟨y, x, m, rfl, h1, hb, ?_⟩
      (try simp only [y_var, y_c, y_op, y_un, y_and, y_or, y_not, y_if, y_isN, y_notN, y_bOf, y_bTru, y_bNot, y_bYes, y_aNil, y_aCons, y_aStar, y_tup, y_disp, y_fz, y_cb, y_cat, y_of, y_sl, y_dO0, y_dO1, y_ixN, y_lenN, y_chain, y_call0, y_call, y_callR0, y_next, y_brk, y_cnt, y_asg, y_setO, y_gNm, y_gTp, y_gsNil, y_gsCons, y_subO, y_par, y_aug, y_expr, y_app, y_ext, y_ifS, y_ret, y_retN, y_for, y_while, y_iSeq, y_iTp, y_iR1, y_iR2, y_iEn, y_iZp, y_lc, y_raise, y_un1, y_try, y_val, y_isX, y_first, y_call, y_call, endsX, outX, Bool.true_eq_false, reduceCtorEq, decide_true, decide_false, ix2_0, ix2_1, ix3_0, ix3_1, ix3_2, LcRun, LpRun, wipeP, restP, noX, dite_true, List.nil_append, List.cons_append, Option.getD_some, Option.getD_none, y_repr, y_tupleL, y_tupleT, y_sum, y_all, y_any, y_eqD, y_neD, y_rev, y_dn, y_orT, y_notT, y_ins, y_bits, y_bAnd, y_bOr, y_rt0, y_rtR, y_nx0, y_rtX, y_nxX, y_exX, inV2, inV3, flatD, vOf, List.all_cons, List.all_nil, Bool.and_self, sz_iff, Nat.reduceAdd, Nat.reduceLeDiff, Nat.zero_add, y_dD, y_dB, y_dI, y_dL, y_dSl, y_dSt, y_dAll0, y_dAllS, dAll_map, y_I0, y_I, y_eqI, y_eqS, y_eqB, y_neI, y_neS, y_neB, y_neg, y_ixL, y_ixT, y_min, y_max, y_abs, y_lenL, y_lenT, y_lenS, y_lenB, y_truL, y_truT, y_inL, y_inT, y_ex1, y_exO, y_exR, at0, at1, at2, at3, isNon, List.getElem?_cons_succ, List.getElem?_cons_zero, List.set_cons_succ, List.set_cons_zero, List.length_cons, List.length_nil, List.map_cons, List.map_nil, true_and, and_true, decide_eq_true_eq, Bool.not_eq_true', Bool.not_true, Bool.not_false, if_true, if_false, Bool.false_eq_true, ite_true, ite_false])
      exact q e
    | false =>
      rw [if_pos rfl]
      exact qx e
end

section
theorem vals_rev : ∀ {vs : List V} {us : List Value}, Vals vs us → Vals vs.reverse us.reverse
  | _, _, .nil => .nil
  | v :: vs, _ :: us, .cons r t => by
    rw [List.reverse_cons, List.reverse_cons]
    exact (vals_rev t).append (.cons r .nil)
theorem rp_rev {Γ : Gx} {F : Hp} : ∀ {vs : List V} {xs : List Cc.A}, RpAll Γ F vs xs → RpAll Γ F vs.reverse xs.reverse
  | [], [], _ => trivial
  | v :: vs, x :: xs, ⟨h1, h2⟩ => by
    rw [List.reverse_cons, List.reverse_cons]
    exact RpAll.app (rp_rev h2) ⟨h1, trivial⟩
  | [], _ :: _, h => h.elim
  | _ :: _, [], h => h.elim
end

abbrev s_law_told : Stmt := topS 26
theorem sc_law_told : FnScope ["way", "first", "some", "caught", "one", "e", "others"] ["way", "first", "some"] (defScope s_law_told) := ⟨rfl, rfl, rfl, by decide +kernel, rfl, by decide +kernel, by decide +kernel⟩
section
variable {P : Program} {w : World} {Γ : Gx} {mg : Str → Option Value} {base : Heap} {fI : Nat → Addr} {fd : Nat → FuncData} {C0 : Addr}
def errI : Option Nat → PyData
  | none => .none
  | some i => .int (i : Nat)
def phTold : Phi := fun _ xs R _ => ∃ (v y : Int) (c : Ch), xs = [.d (.int v), .d (.int y), .d (chD c)] ∧ bndC c ∧ ((0 ≤ v ∧ v ≤ 2 ∧ R (.d (errI (firstBad c))) 0) ∨ (3 ≤ v ∧ v ≤ 4 ∧ ∃ s, c = [s] ∧ s.2 ≤ big ∧ R (.d (if isC s.1 s.2 = true then .none else .int 0)) 0))
theorem q_told (T : Tx Γ.K mg "_law_told" s_law_told) (Y : Cls P w Γ.K mg base Γ.C fI fd C0) (X0 : ∀ i : Nat, PySem.W.exmOne Γ.K (.ref (Γ.C i)) (.ref C0) = some true) (k0 : ∀ c, PySem.W.kitOne Γ.K (.ref (Γ.C c)) (.ref (Γ.C 0)) = some (decide (c = 0)))
    (kV : ∀ c, PySem.W.kitOne Γ.K (.ref (Γ.C c)) (.type "ValueError") = some true) (kA : ∀ c, PySem.W.kitAny Γ.K (.ref (Γ.C c)) [.ref (Γ.C 4), .ref (Γ.C 1), .ref (Γ.C 2), .ref (Γ.C 3), .ref (Γ.C 5), .ref (Γ.C 6)] = some (decide (c ≠ 0)))
    (hStop : PySem.W.subIn Γ.K (.ref (Γ.C 0)) (.type "StopIteration") = some false) (m_isinstance : mg "isinstance" = none) (m_ValueError : mg "ValueError" = none) (g_stages : Pr1 P w Γ.K mg base 4 "stages" s_stages ["number", "chain"] (spSt1 Γ.K (Γ.C 0)))
    (h_converted : Pr P w Γ.K mg base (L2N.CX P w) 4 "converted" ["number", "chain"] (spP Γ false phConv)) (k_converted : PrK P w Γ.K mg base (L2N.CX P w) 4 "converted" s_converted ["number", "chain"] (spP Γ false phConv))
    (h_fits : Pr P w Γ.K mg base (L2N.CX P w) 3 "fits" ["number", "word", "width"] (spP Γ false phFitsX)) (k_fits : PrK P w Γ.K mg base (L2N.CX P w) 3 "fits" s_fits ["number", "word", "width"] (spP Γ false phFitsX)) :
    Pr P w Γ.K mg base CX0 7 "_law_told" ["way", "first", "some"] (spP Γ false phTold) := by
  refine mkPP T sc_law_told (fun _ _ _ _ _ _ us hl => match us, hl with | [_, _, _], _ => rfl) (fun n xs R Xx h => ?_) (fun n xs R Xx h => h) (fun f cdv A outer s H E hG hr => ?_)
  · obtain ⟨_, _, _, rfl, _⟩ := h
    rfl
  · have nd := sc_law_told.nd
    refine ⟨_, _, (dss_cons (fun h h' => pss_cons h h') (ds_set (i := 3) (fun h => ps_set nd rfl (.inl rfl) h) (de_c pe_non (fun _ => .non))) (dss_cons (fun h h' => pss_cons h h') (ds_tryT (i := 5) (yes := fun _ => true) (fun c => X0 c) tryX (fun hb hs => ps_trk (i := 5) rfl rfl rfl nd rfl rfl ⟨by rfl, by decide, .inl Y.g0⟩ takesN hb hs) (fun W pn xe tk po => (dss_one (fun h => pss_one h) (ds_if (fun h a b => ps_if h a b) (dt_cmp opd_eq (fun h h' => pt_cmpR op_eq h h' (nomark _)) (de_var (pv 0)) (de_c pe_int (fun _ => .int _))) (dss_one (fun h => pss_one h) (ds_expr (fun h => ps_expr h) (de_callX (fun h => pe_PX h_converted hr hG (by rfl) tk h) (da_cons (fun h t => pa_cons h t) (de_var (pv 1)) (da_cons (fun h t => pa_cons h t) (de_var (pv 2)) (da_nil pa_nil)))))) (dss_one (fun h => pss_one h) (ds_if (fun h a b => ps_if h a b) (dt_cmp opd_eq (fun h h' => pt_cmpR op_eq h h' (nomark _)) (de_var (pv 0)) (de_c pe_int (fun _ => .int _))) (dss_one (fun h => pss_one h) (ds_expr (fun h => ps_expr h) (de_callKX (gA := List.reverse) (by exact fun h => rp_rev h) (fun h => pe_KX k_converted hr hG (by rfl) tk (ks := ["chain", "number"]) (g := List.reverse) (gV := List.reverse) (fun _ _ _ _ _ _ us hl => by rw [List.length_reverse] at hl; exact match us, hl with | [_, _], _ => rfl) vals_rev h) (dk_cons (fun h t => pk_cons h t) (de_var (pv 2)) (dk_cons (fun h t => pk_cons h t) (de_var (pv 1)) (dk_nil pk_nil)))))) (dss_one (fun h => pss_one h) (ds_if (fun h a b => ps_if h a b) (dt_cmp opd_eq (fun h h' => pt_cmpR op_eq h h' (nomark _)) (de_var (pv 0)) (de_c pe_int (fun _ => .int _))) (dss_one (fun h => pss_one h) (ds_first hStop (by exact fun h => ps_first g_stages hr hG (by rfl) rfl tk po (fun _ _ _ _ _ _ us hl => match us, hl with | [_, _], _ => rfl) h (pg_name (i := 4) nd rfl (.inl rfl)) (pss_one ps_break)) (da_cons (fun h t => pa_cons h t) (de_var (pv 1)) (da_cons (fun h t => pa_cons h t) (de_var (pv 2)) (da_nil pa_nil))))) (dss_one (fun h => pss_one h) (ds_if (fun h a b => ps_if h a b) (dt_cmp opd_eq (fun h h' => pt_cmpR op_eq h h' (nomark _)) (de_var (pv 0)) (de_c pe_int (fun _ => .int _))) (dss_one (fun h => pss_one h) (ds_expr (fun h => ps_expr h) (de_callX (fun h => pe_PX h_fits hr hG (by rfl) tk h) (da_cons (fun h t => pa_cons h t) (de_var (pv 1)) (da_cons (fun h t => pa_cons h t) (de_op opd_ix (fun h h' => pe_ix (ixSK rfl) h h' (fun _ _ => rfl)) (de_ixN (fun h => pe_ix (ixSK rfl) (pv 2) h (fun _ _ => rfl)) (de_c pe_int (fun _ => .int _))) (de_c pe_int (fun _ => .int _))) (da_cons (fun h t => pa_cons h t) (de_op opd_ix (fun h h' => pe_ix (ixSK rfl) h h' (fun _ _ => rfl)) (de_ixN (fun h => pe_ix (ixSK rfl) (pv 2) h (fun _ _ => rfl)) (de_c pe_int (fun _ => .int _))) (de_c pe_int (fun _ => .int _))) (da_nil pa_nil))))))) (dss_one (fun h => pss_one h) (ds_expr (fun h => ps_expr h) (de_callKX (gA := List.reverse) (by exact fun h => rp_rev h) (fun h => pe_KX k_fits hr hG (by rfl) tk (ks := ["width", "word", "number"]) (g := List.reverse) (gV := List.reverse) (fun _ _ _ _ _ _ us hl => by rw [List.length_reverse] at hl; exact match us, hl with | [_, _, _], _ => rfl) vals_rev h) (dk_cons (fun h t => pk_cons h t) (de_op opd_ix (fun h h' => pe_ix (ixSK rfl) h h' (fun _ _ => rfl)) (de_ixN (fun h => pe_ix (ixSK rfl) (pv 2) h (fun _ _ => rfl)) (de_c pe_int (fun _ => .int _))) (de_c pe_int (fun _ => .int _))) (dk_cons (fun h t => pk_cons h t) (de_op opd_ix (fun h h' => pe_ix (ixSK rfl) h h' (fun _ _ => rfl)) (de_ixN (fun h => pe_ix (ixSK rfl) (pv 2) h (fun _ _ => rfl)) (de_c pe_int (fun _ => .int _))) (de_c pe_int (fun _ => .int _))) (dk_cons (fun h t => pk_cons h t) (de_var (pv 1)) (dk_nil pk_nil)))))))))))))))) (by exact fun a pn => (dss_one (fun h => pss_one h) (ds_set (i := 3) (fun h => ps_set nd rfl (.inl rfl) h) (de_var (pv 5)))))) (dss_cons (fun h h' => pss_cons h h') (ds_if (fun h a b => ps_if h a b) (dt_isN (fun h => pt_cmpR op_isN h pe_non (nomark _)) (de_var (pv 3))) (dss_one (fun h => pss_one h) (ds_ret (fun h => ps_ret h) (de_c pe_non (fun _ => .non)))) (dss_nil pss_nil)) (dss_cons (fun h h' => pss_cons h h') (ds_set (i := 6) (fun h => ps_set nd rfl (.inl rfl) h) (de_isXT (i := 3) (cs := [.ref (Γ.C 4), .ref (Γ.C 1), .ref (Γ.C 2), .ref (Γ.C 3), .ref (Γ.C 5), .ref (Γ.C 6)]) (bb := fun c => decide (c ≠ 0)) (fun c => (Y.cls c).I) (.cons (.own _) (.cons (.own _) (.cons (.own _) (.cons (.own _) (.cons (.own _) (.cons (.own _) .nil)))))) (by show 6 ≤ sizeLine; decide) kA (pe_callB cr_isXT (by rfl) m_isinstance (by decide +kernel) (pa_cons (pv 3) (pa_cons (pe_tup (pa_cons (pe_glob (v := .ref (Γ.C 4)) (by rfl) (Y.cls 4).gC rfl) (pa_cons (pe_glob (v := .ref (Γ.C 1)) (by rfl) (Y.cls 1).gC rfl) (pa_cons (pe_glob (v := .ref (Γ.C 2)) (by rfl) (Y.cls 2).gC rfl) (pa_cons (pe_glob (v := .ref (Γ.C 3)) (by rfl) (Y.cls 3).gC rfl) (pa_cons (pe_glob (v := .ref (Γ.C 5)) (by rfl) (Y.cls 5).gC rfl) (pa_cons (pe_glob (v := .ref (Γ.C 6)) (by rfl) (Y.cls 6).gC rfl) pa_nil))))))) pa_nil))))) (dss_cons (fun h h' => pss_cons h h') (ds_if (fun h a b => ps_if h a b) (dt_pw (fun h => PW.pt h) (dw_or (fun h h' => pw_or h h') (dt_val (fun h => pt_val h) (de_var (pv 6))) (dw_or (fun h h' => pw_or h h') (dt_not (fun h => pt_not h) (dt_val (fun h => pt_val h) (de_isX (i := 3) (cv := .ref (Γ.C 0)) (bb := fun c => decide (c = 0)) (fun c => (Y.cls c).I) (.own _) k0 (pe_callB cr_isX (by rfl) m_isinstance (by decide +kernel) (pa_cons (pv 3) (pa_cons (pe_glob (v := .ref (Γ.C 0)) (by rfl) (Y.cls 0).gC rfl) pa_nil)))))) (dw_or1 (fun h => pw_or1 h) (dt_not (fun h => pt_not h) (dt_val (fun h => pt_val h) (de_isX (i := 3) (cv := .ty "ValueError") (bb := fun _ => true) (fun c => (Y.cls c).I) (.ty _) kV (pe_callB cr_isX (by rfl) m_isinstance (by decide +kernel) (pa_cons (pv 3) (pa_cons (pe_bltn (v := .ty "ValueError") (by rfl) m_ValueError (by decide +kernel) rfl) pa_nil)))))))))) (dss_one (fun h => pss_one h) (ds_ret (fun h => ps_ret h) (de_c pe_str (fun _ => .str _)))) (dss_nil pss_nil)) (dss_one (fun h => pss_one h) (ds_ret (fun h => ps_ret h) (de_val (fun c => (Y.cls c).I) (fun c => (Y.cls c).no) (pe_value (pv 3)))))))))), fun n xs R h => ?_⟩
    obtain ⟨v, y, c, rfl, hb, q⟩ := h
    show (sSeq _ _) [.a (.d (.int v)), .a (.d (.int y)), .a (.d (chD c)), .un, .un, .un, .un] _
    refine y_seq.mpr ?_
    (try simp only [y_var, y_c, y_op, y_un, y_and, y_or, y_not, y_if, y_isN, y_notN, y_bOf, y_bTru, y_bNot, y_bYes, y_aNil, y_aCons, y_aStar, y_tup, y_disp, y_fz, y_cb, y_cat, y_of, y_sl, y_dO0, y_dO1, y_ixN, y_lenN, y_chain, y_call0, y_call, y_callR0, y_next, y_brk, y_cnt, y_asg, y_setO, y_gNm, y_gTp, y_gsNil, y_gsCons, y_subO, y_par, y_aug, y_expr, y_app, y_ext, y_ifS, y_ret, y_retN, y_for, y_while, y_iSeq, y_iTp, y_iR1, y_iR2, y_iEn, y_iZp, y_lc, y_raise, y_un1, y_try, y_val, y_isX, y_first, y_call, y_call, endsX, outX, Bool.true_eq_false, reduceCtorEq, decide_true, decide_false, ix2_0, ix2_1, ix3_0, ix3_1, ix3_2, LcRun, LpRun, wipeP, restP, noX, dite_true, List.nil_append, List.cons_append, Option.getD_some, Option.getD_none, y_repr, y_tupleL, y_tupleT, y_sum, y_all, y_any, y_eqD, y_neD, y_rev, y_dn, y_orT, y_notT, y_ins, y_bits, y_bAnd, y_bOr, y_rt0, y_rtR, y_nx0, y_rtX, y_nxX, y_exX, inV2, inV3, flatD, vOf, List.all_cons, List.all_nil, Bool.and_self, sz_iff, Nat.reduceAdd, Nat.reduceLeDiff, Nat.zero_add, y_dD, y_dB, y_dI, y_dL, y_dSl, y_dSt, y_dAll0, y_dAllS, dAll_map, y_I0, y_I, y_eqI, y_eqS, y_eqB, y_neI, y_neS, y_neB, y_neg, y_ixL, y_ixT, y_min, y_max, y_abs, y_lenL, y_lenT, y_lenS, y_lenB, y_truL, y_truT, y_inL, y_inT, y_ex1, y_exO, y_exR, at0, at1, at2, at3, isNon, List.getElem?_cons_succ, List.getElem?_cons_zero, List.set_cons_succ, List.set_cons_zero, List.length_cons, List.length_nil, List.map_cons, List.map_nil, true_and, and_true, decide_eq_true_eq, Bool.not_eq_true', Bool.not_true, Bool.not_false, if_true, if_false, Bool.false_eq_true, ite_true, ite_false])
    refine y_cut fun NX hNX => ?_
    (try simp only [y_var, y_c, y_op, y_un, y_and, y_or, y_not, y_if, y_isN, y_notN, y_bOf, y_bTru, y_bNot, y_bYes, y_aNil, y_aCons, y_aStar, y_tup, y_disp, y_fz, y_cb, y_cat, y_of, y_sl, y_dO0, y_dO1, y_ixN, y_lenN, y_chain, y_call0, y_call, y_callR0, y_next, y_brk, y_cnt, y_asg, y_setO, y_gNm, y_gTp, y_gsNil, y_gsCons, y_subO, y_par, y_aug, y_expr, y_app, y_ext, y_ifS, y_ret, y_retN, y_for, y_while, y_iSeq, y_iTp, y_iR1, y_iR2, y_iEn, y_iZp, y_lc, y_raise, y_un1, y_try, y_val, y_isX, y_first, y_call, y_call, endsX, outX, Bool.true_eq_false, reduceCtorEq, decide_true, decide_false, ix2_0, ix2_1, ix3_0, ix3_1, ix3_2, LcRun, LpRun, wipeP, restP, noX, dite_true, List.nil_append, List.cons_append, Option.getD_some, Option.getD_none, y_repr, y_tupleL, y_tupleT, y_sum, y_all, y_any, y_eqD, y_neD, y_rev, y_dn, y_orT, y_notT, y_ins, y_bits, y_bAnd, y_bOr, y_rt0, y_rtR, y_nx0, y_rtX, y_nxX, y_exX, inV2, inV3, flatD, vOf, List.all_cons, List.all_nil, Bool.and_self, sz_iff, Nat.reduceAdd, Nat.reduceLeDiff, Nat.zero_add, y_dD, y_dB, y_dI, y_dL, y_dSl, y_dSt, y_dAll0, y_dAllS, dAll_map, y_I0, y_I, y_eqI, y_eqS, y_eqB, y_neI, y_neS, y_neB, y_neg, y_ixL, y_ixT, y_min, y_max, y_abs, y_lenL, y_lenT, y_lenS, y_lenB, y_truL, y_truT, y_inL, y_inT, y_ex1, y_exO, y_exR, at0, at1, at2, at3, isNon, List.getElem?_cons_succ, List.getElem?_cons_zero, List.set_cons_succ, List.set_cons_zero, List.length_cons, List.length_nil, List.map_cons, List.map_nil, true_and, and_true, decide_eq_true_eq, Bool.not_eq_true', Bool.not_true, Bool.not_false, if_true, if_false, Bool.false_eq_true, ite_true, ite_false])
    have good : ∀ o1 : Sl, R (.d .none) 0 → NX [.a (.d (.int v)), .a (.d (.int y)), .a (.d (chD c)), .a (.d .none), o1, .un, .un] := fun o1 e => by
      refine hNX _ ?_
      (try simp only [y_var, y_c, y_op, y_un, y_and, y_or, y_not, y_if, y_isN, y_notN, y_bOf, y_bTru, y_bNot, y_bYes, y_aNil, y_aCons, y_aStar, y_tup, y_disp, y_fz, y_cb, y_cat, y_of, y_sl, y_dO0, y_dO1, y_ixN, y_lenN, y_chain, y_call0, y_call, y_callR0, y_next, y_brk, y_cnt, y_asg, y_setO, y_gNm, y_gTp, y_gsNil, y_gsCons, y_subO, y_par, y_aug, y_expr, y_app, y_ext, y_ifS, y_ret, y_retN, y_for, y_while, y_iSeq, y_iTp, y_iR1, y_iR2, y_iEn, y_iZp, y_lc, y_raise, y_un1, y_try, y_val, y_isX, y_first, y_call, y_call, endsX, outX, Bool.true_eq_false, reduceCtorEq, decide_true, decide_false, ix2_0, ix2_1, ix3_0, ix3_1, ix3_2, LcRun, LpRun, wipeP, restP, noX, dite_true, List.nil_append, List.cons_append, Option.getD_some, Option.getD_none, y_repr, y_tupleL, y_tupleT, y_sum, y_all, y_any, y_eqD, y_neD, y_rev, y_dn, y_orT, y_notT, y_ins, y_bits, y_bAnd, y_bOr, y_rt0, y_rtR, y_nx0, y_rtX, y_nxX, y_exX, inV2, inV3, flatD, vOf, List.all_cons, List.all_nil, Bool.and_self, sz_iff, Nat.reduceAdd, Nat.reduceLeDiff, Nat.zero_add, y_dD, y_dB, y_dI, y_dL, y_dSl, y_dSt, y_dAll0, y_dAllS, dAll_map, y_I0, y_I, y_eqI, y_eqS, y_eqB, y_neI, y_neS, y_neB, y_neg, y_ixL, y_ixT, y_min, y_max, y_abs, y_lenL, y_lenT, y_lenS, y_lenB, y_truL, y_truT, y_inL, y_inT, y_ex1, y_exO, y_exR, at0, at1, at2, at3, isNon, List.getElem?_cons_succ, List.getElem?_cons_zero, List.set_cons_succ, List.set_cons_zero, List.length_cons, List.length_nil, List.map_cons, List.map_nil, true_and, and_true, decide_eq_true_eq, Bool.not_eq_true', Bool.not_true, Bool.not_false, if_true, if_false, Bool.false_eq_true, ite_true, ite_false])
      exact e
    have bad : ∀ k : Int, R (.d (.int k)) 0 → NX [.a (.d (.int v)), .a (.d (.int y)), .a (.d (chD c)), .a (.exc 0 (.int k)), .un, .un, .un] := fun k e => by
      refine hNX _ ?_
      refine y_seq.mpr ?_
      (try simp only [y_var, y_c, y_op, y_un, y_and, y_or, y_not, y_if, y_isN, y_notN, y_bOf, y_bTru, y_bNot, y_bYes, y_aNil, y_aCons, y_aStar, y_tup, y_disp, y_fz, y_cb, y_cat, y_of, y_sl, y_dO0, y_dO1, y_ixN, y_lenN, y_chain, y_call0, y_call, y_callR0, y_next, y_brk, y_cnt, y_asg, y_setO, y_gNm, y_gTp, y_gsNil, y_gsCons, y_subO, y_par, y_aug, y_expr, y_app, y_ext, y_ifS, y_ret, y_retN, y_for, y_while, y_iSeq, y_iTp, y_iR1, y_iR2, y_iEn, y_iZp, y_lc, y_raise, y_un1, y_try, y_val, y_isX, y_first, y_call, y_call, endsX, outX, Bool.true_eq_false, reduceCtorEq, decide_true, decide_false, ix2_0, ix2_1, ix3_0, ix3_1, ix3_2, LcRun, LpRun, wipeP, restP, noX, dite_true, List.nil_append, List.cons_append, Option.getD_some, Option.getD_none, y_repr, y_tupleL, y_tupleT, y_sum, y_all, y_any, y_eqD, y_neD, y_rev, y_dn, y_orT, y_notT, y_ins, y_bits, y_bAnd, y_bOr, y_rt0, y_rtR, y_nx0, y_rtX, y_nxX, y_exX, inV2, inV3, flatD, vOf, List.all_cons, List.all_nil, Bool.and_self, sz_iff, Nat.reduceAdd, Nat.reduceLeDiff, Nat.zero_add, y_dD, y_dB, y_dI, y_dL, y_dSl, y_dSt, y_dAll0, y_dAllS, dAll_map, y_I0, y_I, y_eqI, y_eqS, y_eqB, y_neI, y_neS, y_neB, y_neg, y_ixL, y_ixT, y_min, y_max, y_abs, y_lenL, y_lenT, y_lenS, y_lenB, y_truL, y_truT, y_inL, y_inT, y_ex1, y_exO, y_exR, at0, at1, at2, at3, isNon, List.getElem?_cons_succ, List.getElem?_cons_zero, List.set_cons_succ, List.set_cons_zero, List.length_cons, List.length_nil, List.map_cons, List.map_nil, true_and, and_true, decide_eq_true_eq, Bool.not_eq_true', Bool.not_true, Bool.not_false, if_true, if_false, Bool.false_eq_true, ite_true, ite_false])
      refine y_seq.mpr ?_
      (try simp only [y_var, y_c, y_op, y_un, y_and, y_or, y_not, y_if, y_isN, y_notN, y_bOf, y_bTru, y_bNot, y_bYes, y_aNil, y_aCons, y_aStar, y_tup, y_disp, y_fz, y_cb, y_cat, y_of, y_sl, y_dO0, y_dO1, y_ixN, y_lenN, y_chain, y_call0, y_call, y_callR0, y_next, y_brk, y_cnt, y_asg, y_setO, y_gNm, y_gTp, y_gsNil, y_gsCons, y_subO, y_par, y_aug, y_expr, y_app, y_ext, y_ifS, y_ret, y_retN, y_for, y_while, y_iSeq, y_iTp, y_iR1, y_iR2, y_iEn, y_iZp, y_lc, y_raise, y_un1, y_try, y_val, y_isX, y_first, y_call, y_call, endsX, outX, Bool.true_eq_false, reduceCtorEq, decide_true, decide_false, ix2_0, ix2_1, ix3_0, ix3_1, ix3_2, LcRun, LpRun, wipeP, restP, noX, dite_true, List.nil_append, List.cons_append, Option.getD_some, Option.getD_none, y_repr, y_tupleL, y_tupleT, y_sum, y_all, y_any, y_eqD, y_neD, y_rev, y_dn, y_orT, y_notT, y_ins, y_bits, y_bAnd, y_bOr, y_rt0, y_rtR, y_nx0, y_rtX, y_nxX, y_exX, inV2, inV3, flatD, vOf, List.all_cons, List.all_nil, Bool.and_self, sz_iff, Nat.reduceAdd, Nat.reduceLeDiff, Nat.zero_add, y_dD, y_dB, y_dI, y_dL, y_dSl, y_dSt, y_dAll0, y_dAllS, dAll_map, y_I0, y_I, y_eqI, y_eqS, y_eqB, y_neI, y_neS, y_neB, y_neg, y_ixL, y_ixT, y_min, y_max, y_abs, y_lenL, y_lenT, y_lenS, y_lenB, y_truL, y_truT, y_inL, y_inT, y_ex1, y_exO, y_exR, at0, at1, at2, at3, isNon, List.getElem?_cons_succ, List.getElem?_cons_zero, List.set_cons_succ, List.set_cons_zero, List.length_cons, List.length_nil, List.map_cons, List.map_nil, true_and, and_true, decide_eq_true_eq, Bool.not_eq_true', Bool.not_true, Bool.not_false, if_true, if_false, Bool.false_eq_true, ite_true, ite_false])
      refine y_cut fun NX3 hNX3 => ?_
      (try simp only [y_var, y_c, y_op, y_un, y_and, y_or, y_not, y_if, y_isN, y_notN, y_bOf, y_bTru, y_bNot, y_bYes, y_aNil, y_aCons, y_aStar, y_tup, y_disp, y_fz, y_cb, y_cat, y_of, y_sl, y_dO0, y_dO1, y_ixN, y_lenN, y_chain, y_call0, y_call, y_callR0, y_next, y_brk, y_cnt, y_asg, y_setO, y_gNm, y_gTp, y_gsNil, y_gsCons, y_subO, y_par, y_aug, y_expr, y_app, y_ext, y_ifS, y_ret, y_retN, y_for, y_while, y_iSeq, y_iTp, y_iR1, y_iR2, y_iEn, y_iZp, y_lc, y_raise, y_un1, y_try, y_val, y_isX, y_first, y_call, y_call, endsX, outX, Bool.true_eq_false, reduceCtorEq, decide_true, decide_false, ix2_0, ix2_1, ix3_0, ix3_1, ix3_2, LcRun, LpRun, wipeP, restP, noX, dite_true, List.nil_append, List.cons_append, Option.getD_some, Option.getD_none, y_repr, y_tupleL, y_tupleT, y_sum, y_all, y_any, y_eqD, y_neD, y_rev, y_dn, y_orT, y_notT, y_ins, y_bits, y_bAnd, y_bOr, y_rt0, y_rtR, y_nx0, y_rtX, y_nxX, y_exX, inV2, inV3, flatD, vOf, List.all_cons, List.all_nil, Bool.and_self, sz_iff, Nat.reduceAdd, Nat.reduceLeDiff, Nat.zero_add, y_dD, y_dB, y_dI, y_dL, y_dSl, y_dSt, y_dAll0, y_dAllS, dAll_map, y_I0, y_I, y_eqI, y_eqS, y_eqB, y_neI, y_neS, y_neB, y_neg, y_ixL, y_ixT, y_min, y_max, y_abs, y_lenL, y_lenT, y_lenS, y_lenB, y_truL, y_truT, y_inL, y_inT, y_ex1, y_exO, y_exR, at0, at1, at2, at3, isNon, List.getElem?_cons_succ, List.getElem?_cons_zero, List.set_cons_succ, List.set_cons_zero, List.length_cons, List.length_nil, List.map_cons, List.map_nil, true_and, and_true, decide_eq_true_eq, Bool.not_eq_true', Bool.not_true, Bool.not_false, if_true, if_false, Bool.false_eq_true, ite_true, ite_false])
      rw [if_neg (by decide)]
      refine hNX3 _ ?_
      (try simp only [y_var, y_c, y_op, y_un, y_and, y_or, y_not, y_if, y_isN, y_notN, y_bOf, y_bTru, y_bNot, y_bYes, y_aNil, y_aCons, y_aStar, y_tup, y_disp, y_fz, y_cb, y_cat, y_of, y_sl, y_dO0, y_dO1, y_ixN, y_lenN, y_chain, y_call0, y_call, y_callR0, y_next, y_brk, y_cnt, y_asg, y_setO, y_gNm, y_gTp, y_gsNil, y_gsCons, y_subO, y_par, y_aug, y_expr, y_app, y_ext, y_ifS, y_ret, y_retN, y_for, y_while, y_iSeq, y_iTp, y_iR1, y_iR2, y_iEn, y_iZp, y_lc, y_raise, y_un1, y_try, y_val, y_isX, y_first, y_call, y_call, endsX, outX, Bool.true_eq_false, reduceCtorEq, decide_true, decide_false, ix2_0, ix2_1, ix3_0, ix3_1, ix3_2, LcRun, LpRun, wipeP, restP, noX, dite_true, List.nil_append, List.cons_append, Option.getD_some, Option.getD_none, y_repr, y_tupleL, y_tupleT, y_sum, y_all, y_any, y_eqD, y_neD, y_rev, y_dn, y_orT, y_notT, y_ins, y_bits, y_bAnd, y_bOr, y_rt0, y_rtR, y_nx0, y_rtX, y_nxX, y_exX, inV2, inV3, flatD, vOf, List.all_cons, List.all_nil, Bool.and_self, sz_iff, Nat.reduceAdd, Nat.reduceLeDiff, Nat.zero_add, y_dD, y_dB, y_dI, y_dL, y_dSl, y_dSt, y_dAll0, y_dAllS, dAll_map, y_I0, y_I, y_eqI, y_eqS, y_eqB, y_neI, y_neS, y_neB, y_neg, y_ixL, y_ixT, y_min, y_max, y_abs, y_lenL, y_lenT, y_lenS, y_lenB, y_truL, y_truT, y_inL, y_inT, y_ex1, y_exO, y_exR, at0, at1, at2, at3, isNon, List.getElem?_cons_succ, List.getElem?_cons_zero, List.set_cons_succ, List.set_cons_zero, List.length_cons, List.length_nil, List.map_cons, List.map_nil, true_and, and_true, decide_eq_true_eq, Bool.not_eq_true', Bool.not_true, Bool.not_false, if_true, if_false, Bool.false_eq_true, ite_true, ite_false])
      exact e
    clear hNX
    rcases q with ⟨v0, v2, q⟩ | ⟨v3, v4, s, rfl, hs, q⟩
    · have q1 : firstBad c = none → R (.d .none) 0 := fun e => by rw [e] at q; exact q
      have q2 : ∀ i, firstBad c = some i → R (.d (.int (i : Nat))) 0 := fun i e => by rw [e] at q; exact q
      rcases (show v = 0 ∨ v = 1 ∨ v = 2 by omega) with rfl | rfl | rfl
      · rw [if_pos rfl]
        exact ⟨y, c, rfl, hb, fun e => good _ (q1 e), fun i e => bad _ (q2 i e)⟩
      · rw [if_neg (by decide), if_pos rfl]
        exact ⟨y, c, rfl, hb, fun e => good _ (q1 e), fun i e => bad _ (q2 i e)⟩
      · rw [if_neg (by decide), if_neg (by decide), if_pos rfl]
        exact ⟨y, c, rfl, fun e => good _ (q1 e), fun i e => bad _ (q2 i e)⟩
    · have q1 : isC s.1 s.2 = true → R (.d .none) 0 := fun e => by rw [if_pos e] at q; exact q
      have q2 : isC s.1 s.2 = false → R (.d (.int 0)) 0 := fun e => by rw [if_neg (by rw [e]; decide)] at q; exact q
      rw [show chD [s] = .list [.tuple [.str s.1, .int s.2]] from rfl] at good bad ⊢
      rcases (show v = 3 ∨ v = 4 by omega) with rfl | rfl
      · rw [if_neg (by decide), if_neg (by decide), if_neg (by decide), if_pos rfl]
        exact ⟨_, at0, _, at0, _, at0, _, at1, y, s.1, s.2, rfl, hs, fun e => good _ (q1 e), fun e => bad _ (q2 e)⟩
      · rw [if_neg (by decide), if_neg (by decide), if_neg (by decide), if_neg (by decide)]
        exact ⟨_, at0, _, at1, _, at0, _, at0, y, s.1, s.2, rfl, hs, fun e => good _ (q1 e), fun e => bad _ (q2 e)⟩
end

end Cc

set_option Elab.async false
set_option linter.all false
set_option maxRecDepth 100000
set_option maxHeartbeats 4000000
namespace Cc
open PySem PySem.Spec PyProof.Rows L2
section
variable {Γ : Gx} {X : Cx} {W : WX} {st : Stmt} {e1 e2 : Expr} {a : EE} {l : LL} {i j : Nat}
/-- two names at once, the first an own list made before the other is asked -/
def sParO1 (i j : Nat) (l : LL) (a : EE) : SS := fun ρ P => l ρ (fun ds ρ1 => a ρ1 (fun x ρ2 => P.nx ((ρ2.set i (.own ds)).set j (.a x))) P.ex) P.ex
theorem y_parO1 {ρ : List Sl} {P : EndsP} : sParO1 i j l a ρ P ↔ l ρ (fun ds ρ1 => a ρ1 (fun x ρ2 => P.nx ((ρ2.set i (.own ds)).set j (.a x))) P.ex) P.ex := Iff.rfl
theorem ds_parO1 (hpe : ∀ {t u : TE}, PE X e1 t → PE X e2 u → PS X st (tPar i j (tCons t (tCons u tNil)))) {t : TE} (h : DL Γ X W e1 t l) {u : TE} (h' : DE Γ X W e2 u a) : DS Γ X W st (tPar i j (tCons t (tCons u tNil))) (sParO1 i j l a) := by
  obtain ⟨p, dn⟩ := h
  obtain ⟨p', dn'⟩ := h'
  refine ⟨hpe p p', fun f F H σ ρ P D E q o => ?_⟩
  refine dn f F H σ ρ _ _ P.ex E q (fun ds ρ1 F1 H1 b xs q1 E1 s1 w => ?_) (o.ex σ)
  have nM : ¬ (f.from σ ρ1 F1 H1).M b := fun z => z.elim (fun m => E1.ml b m w.h0) w.hO
  refine dn' (f.from σ ρ1 F1 H1) F1 H1 σ ρ1 _ _ P.ex E1.self q1 (fun x ρ2 F2 H2 v q2 E2' s2 r2 => ?_) (fun c d ρ' F' H' dx v q E' h1 h2 => o.ex σ c d ρ' F' H' dx v q (E1.trans E') h1 h2)
  have E2 := E1.trans E2'
  have hb : H2 b = some (.lst xs) := E2'.chg b _ w.hH nM
  have hF : F2 b = none := by
    cases e : F2 b with
    | none => rfl
    | some o2 =>
      rcases E2'.new b o2 e with h | h | h
      · have h : F1 b = some o2 := h
        rw [w.hF] at h
        cases h
      · have h : H1 b = none := h
        rw [w.hH] at h
        cases h
      · exact absurd h nM
  have hO : ¬ OwnA σ ρ2 b := fun ⟨k, es, h1, h2⟩ => by
    have := E2'.sl k _ h1
    rw [h2] at this
    obtain ⟨a', xs', e, _, _, _, h3⟩ := this
    cases e
    rcases h3 with h3 | h3
    · have h3 : H1 b = none := h3
      rw [w.hH] at h3
      cases h3
    · exact nM h3
  have E3 := E2.setO (i := i) hb (DqAll.same s2 _ w.hD) hF (.inl w.h0) hO w.hR
  exact ⟨_, _, rfl, o.nx _ _ _ _ q2 (E3.setA (i := j) r2) (s1.trans s2)⟩
end

section
variable {Γ : Gx} {X : Cx} {W : WX} {st : Stmt} {e1 e2 : Expr} {l l' : LL} {i j : Nat}
/-- two own lists -/
def sPar11 (i j : Nat) (l l' : LL) : SS := fun ρ P => l ρ (fun ds ρ1 => l' ρ1 (fun es ρ2 => P.nx ((ρ2.set i (.own ds)).set j (.own es))) P.ex) P.ex
theorem ds_par11 (hpe : ∀ {t u : TE}, PE X e1 t → PE X e2 u → PS X st (tPar i j (tCons t (tCons u tNil)))) {t : TE} (h : DL Γ X W e1 t l) {u : TE} (h' : DL Γ X W e2 u l') : DS Γ X W st (tPar i j (tCons t (tCons u tNil))) (sPar11 i j l l') := by
  obtain ⟨p, dn⟩ := h
  obtain ⟨p', dn'⟩ := h'
  refine ⟨hpe p p', fun f F H σ ρ P D E q o => ?_⟩
  refine dn f F H σ ρ _ _ P.ex E q (fun ds ρ1 F1 H1 b xs q1 E1 s1 w => ?_) (o.ex σ)
  have f0 := w.f0 E1
  have E1' := E1.keep w
  refine dn' _ F1 H1 σ ρ1 _ _ P.ex E1' q1 (fun es ρ2 F2 H2 b2 ys q2 E2 s2 w2 => ?_) ((o.ex σ).keep w.h0 E1.ml f0)
  have f02 := w2.f0 E2
  have E2' := E2.keep w2
  obtain ⟨E4, a1, a2, a3, a4⟩ := E2'.back w2.h0 E2.ml f02
  obtain ⟨E5, b1, b2', b3, b4⟩ := E4.back w.h0 E1.ml f0
  have hne : b2 ≠ b := fun e => by
    have h : upd f.H0 b (.lst xs) b2 = none := w2.h0
    rw [e, upd_same] at h
    cases h
  have h02 : f.H0 b2 = none := by
    have h : upd f.H0 b (.lst xs) b2 = none := w2.h0
    rwa [upd_ne hne] at h
  have E6 := E5.setO (i := i) b1 (DqAll.same s2 ds w.hD) b2' (.inl w.h0) b3 b4
  have E7 := E6.setO (i := j) a1 w2.hD a2 (.inl h02) (fun ⟨n, fs, h1, h2⟩ => ?_) a4
  · exact ⟨_, _, rfl, o.nx _ _ _ _ q2 E7 (s1.trans s2)⟩
  · by_cases hn : n = i
    · rw [hn] at h2
      rw [List.getElem?_set] at h2
      rw [if_pos rfl] at h2
      split at h2
      · cases h2
        exact hne rfl
      · cases h2
    · rw [List.getElem?_set_ne (fun z => hn z.symm)] at h1 h2
      exact a3 ⟨n, fs, h1, h2⟩
theorem y_par11 {ρ : List Sl} {P : EndsP} : sPar11 i j l l' ρ P ↔ l ρ (fun ds ρ1 => l' ρ1 (fun es ρ2 => P.nx ((ρ2.set i (.own ds)).set j (.own es))) P.ex) P.ex := Iff.rfl
end

section
theorem cutA_to {α : Type} (W : List α) (i : Int) (h0 : 0 ≤ i) : cutA W none (some i) = W.take i.toNat := by
  have e : ((i.toNat : Nat) : Int) = i := Int.toNat_of_nonneg h0
  unfold cutA
  rw [HT.sIx_none, ← e, show HT.sIx W.length W.length (some ((i.toNat : Nat) : Int)) = min i.toNat W.length from HT.sIx_nat _ _ _, Nat.sub_zero, List.drop_zero, e]
  by_cases h : i.toNat ≤ W.length
  · rw [Nat.min_eq_left h]
  · rw [Nat.min_eq_right (by omega), List.take_of_length_le (Nat.le_refl _), List.take_of_length_le (by omega)]
end

abbrev s_law_spoilt : Stmt := topS 25
theorem sc_law_spoilt : FnScope ["rng", "some", "found", "words", "turn", "wrong", "low", "spot", "step"] ["rng", "some"] (defScope s_law_spoilt) := ⟨rfl, rfl, rfl, by decide +kernel, rfl, by decide +kernel, by decide +kernel⟩
section
variable {P : Program} {w : World} {K : PySem.W.Frag} {mg : Str → Option Value} {base : Heap} {C : Nat → Addr} {CS : Addr}
def wordsL : List Str := ["U", "S", "", "ADD", "sub", "us", "u8", "unsigned", "+"]
def wordsA : List Str := ["add", "u", "s", "U", "S", "", "ADD", "sub", "us", "u8", "unsigned", "+"]
theorem word_at {v : Int} (v0 : 0 ≤ v) (v1 : v < 9) : ∃ x ∈ wordsL, atI (wordsL.map PyData.str) v = some (.str x) := by
  obtain ⟨k, rfl⟩ : ∃ k : Nat, v = k := ⟨v.toNat, by omega⟩
  have hk : k < wordsL.length := by show k < 9; omega
  exact ⟨wordsL[k], List.getElem_mem hk, atI_nat (j := k) (by rw [List.getElem?_map, List.getElem?_eq_getElem hk]; rfl)⟩
theorem word_in : ∀ x ∈ wordsL, x ∈ wordsA ∧ ¬ x = "add" := by decide +kernel
def okW (s : Str × Int) : Prop := s.1 ∈ wordsA ∧ -(10 ^ 30) ≤ s.2 ∧ s.2 ≤ 10 ^ 30 ∧ (¬ s.1 = "add" → s.2 ≤ 64)
theorem bad_snoc {c : Ch} {s : Str × Int} {i : Nat} (h : c.length = i) : firstBad (c ++ [s]) = (firstBad c).or (if okS s = true then none else some i) := by
  unfold firstBad
  rw [List.findIdx?_append, h]
  cases e : okS s
  · have : List.findIdx? (fun s => !okS s) [s] = some 0 := by simp [List.findIdx?_cons, e]
    rw [this, if_neg (by decide)]
    simp
  · have : List.findIdx? (fun s => !okS s) [s] = none := by simp [List.findIdx?_cons, e]
    rw [this, if_pos rfl]
    simp
def phSpoil : Phi := fun n xs R _ => ∃ c : Ch, xs = [.d (chD c)] ∧ (∀ p ∈ c, okD p) ∧ c.length ≤ 12 ∧ n < 60000000 ∧ ∀ f : Ch, f.length ≤ 12 → (∀ s ∈ f, okW s) → ∀ m, m ≤ n + 20 → R (.d (.list [chD f, errI (firstBad f)])) m
theorem q_spoil (T : Tx K mg "_law_spoilt" s_law_spoilt) (m_list : mg "list" = none) (m_range : mg "range" = none) (m_len : mg "len" = none) (m_enumerate : mg "enumerate" = none) (h__law_draw : Pr P w K mg base CX0 1 "_law_draw" ["rng", "limit"] (spP (poolG K C CS) true phDraw)) :
    Pr P w K mg base CX0 2 "_law_spoilt" ["rng", "some"] (spP (poolG K C CS) true phSpoil) := by
  refine mkPP (Γ := poolG K C CS) T sc_law_spoilt (fun _ _ _ _ _ _ us hl => match us, hl with | [_, _], _ => rfl) (fun n xs R Xx h => ?_) (fun n xs R Xx h => h) (fun f cdv A outer s H E hG hr => ?_)
  · obtain ⟨_, rfl, _⟩ := h
    rfl
  · have nd := sc_law_spoilt.nd
    refine ⟨_, _, (dss_cons (fun h h' => pss_cons h h') (ds_parO1 (i := 2) (j := 3) (fun h h' => ps_par (by rfl) nd rfl rfl (by decide) rfl rfl (pa_cons h (pa_cons h' pa_nil)) (by rfl)) (dl_of (fun h => pe_callTy call_list_of (by rfl) m_list (by decide +kernel) (pa_cons h pa_nil)) (de_var (pv 1))) (de_fz (dl_disp (fun h => pe_lst h) (da_cons (fun h t => pa_cons h t) (de_c pe_str (fun _ => .str _)) (da_cons (fun h t => pa_cons h t) (de_c pe_str (fun _ => .str _)) (da_cons (fun h t => pa_cons h t) (de_c pe_str (fun _ => .str _)) (da_cons (fun h t => pa_cons h t) (de_c pe_str (fun _ => .str _)) (da_cons (fun h t => pa_cons h t) (de_c pe_str (fun _ => .str _)) (da_cons (fun h t => pa_cons h t) (de_c pe_str (fun _ => .str _)) (da_cons (fun h t => pa_cons h t) (de_c pe_str (fun _ => .str _)) (da_cons (fun h t => pa_cons h t) (de_c pe_str (fun _ => .str _)) (da_cons (fun h t => pa_cons h t) (de_c pe_str (fun _ => .str _)) (da_nil pa_nil))))))))))))) (dss_cons (fun h h' => pss_cons h h') (ds_for (fun hi hg hb => ps_for PassesOwn.never rfl hi hg hb) (di_r1 (by exact fun h => pi_range1 rfl m_range (pa_cons h pa_nil)) (de_op opd_ix (fun h h' => pe_ix (ixSK rfl) h h' (fun _ _ => rfl)) (de_fz (dl_disp (fun h => pe_lst h) (da_cons (fun h t => pa_cons h t) (de_c pe_int (fun _ => .int _)) (da_cons (fun h t => pa_cons h t) (de_c pe_int (fun _ => .int _)) (da_cons (fun h t => pa_cons h t) (de_c pe_int (fun _ => .int _)) (da_cons (fun h t => pa_cons h t) (de_c pe_int (fun _ => .int _)) (da_nil pa_nil))))))) (de_callR0 (i := 0) (fun h => pe_P h__law_draw hr hG (by rfl) (pa_cons (pv 0) h)) (da_cons (fun h t => pa_cons h t) (de_c pe_int (fun _ => .int _)) (da_nil pa_nil))))) (dg_name (pg_name (i := 4) nd rfl (.inl rfl))) (dss_cons (fun h h' => pss_cons h h') (ds_set (i := 5) (fun h => ps_set nd rfl (.inl rfl) h) (de_tup (fun h => pe_tup h) (da_cons (fun h t => pa_cons h t) (de_op opd_ix (fun h h' => pe_ix (ixSK rfl) h h' (fun _ _ => rfl)) (de_fz (dl_disp (fun h => pe_lst h) (da_cons (fun h t => pa_cons h t) (de_c pe_str (fun _ => .str _)) (da_cons (fun h t => pa_cons h t) (de_c pe_str (fun _ => .str _)) (da_nil pa_nil))))) (de_callR0 (i := 0) (fun h => pe_P h__law_draw hr hG (by rfl) (pa_cons (pv 0) h)) (da_cons (fun h t => pa_cons h t) (de_c pe_int (fun _ => .int _)) (da_nil pa_nil)))) (da_cons (fun h t => pa_cons h t) (de_op opd_ix (fun h h' => pe_ix (ixSK rfl) h h' (fun _ _ => rfl)) (de_fz (dl_disp (fun h => pe_lst h) (da_cons (fun h t => pa_cons h t) (de_c pe_int (fun _ => .int _)) (da_cons (fun h t => pa_cons h t) (de_un (fun h => pe_un un_neg h) (de_c pe_int (fun _ => .int _))) (da_cons (fun h t => pa_cons h t) (de_op opd_int0 (fun h h' => pe_op op_sub h h') (de_c pe_int (fun _ => .int _)) (de_callR0 (i := 0) (fun h => pe_P h__law_draw hr hG (by rfl) (pa_cons (pv 0) h)) (da_cons (fun h t => pa_cons h t) (de_op opd_int (fun h h' => pe_op op_powX h h') (de_c pe_int (fun _ => .int _)) (de_c pe_int (fun _ => .int _))) (da_nil pa_nil)))) (da_nil pa_nil)))))) (de_callR0 (i := 0) (fun h => pe_P h__law_draw hr hG (by rfl) (pa_cons (pv 0) h)) (da_cons (fun h t => pa_cons h t) (de_c pe_int (fun _ => .int _)) (da_nil pa_nil)))) (da_nil pa_nil))))) (dss_cons (fun h h' => pss_cons h h') (ds_set (i := 5) (fun h => ps_set nd rfl (.inl rfl) h) (de_op opd_ix (fun h h' => pe_ix (ixSK rfl) h h' (fun _ _ => rfl)) (de_fz (dl_disp (fun h => pe_lst h) (da_cons (fun h t => pa_cons h t) (de_var (pv 5)) (da_cons (fun h t => pa_cons h t) (de_tup (fun h => pe_tup h) (da_cons (fun h t => pa_cons h t) (de_ixN (fun h => pe_ix (ixSK rfl) (pv 3) h (fun _ _ => rfl)) (de_callR0 (i := 0) (fun h => pe_P h__law_draw hr hG (by rfl) (pa_cons (pv 0) h)) (da_cons (fun h t => pa_cons h t) (de_c pe_int (fun _ => .int _)) (da_nil pa_nil)))) (da_cons (fun h t => pa_cons h t) (de_callR0 (i := 0) (fun h => pe_P h__law_draw hr hG (by rfl) (pa_cons (pv 0) h)) (da_cons (fun h t => pa_cons h t) (de_c pe_int (fun _ => .int _)) (da_nil pa_nil))) (da_nil pa_nil)))) (da_nil pa_nil))))) (de_callR0 (i := 0) (fun h => pe_P h__law_draw hr hG (by rfl) (pa_cons (pv 0) h)) (da_cons (fun h t => pa_cons h t) (de_c pe_int (fun _ => .int _)) (da_nil pa_nil))))) (dss_one (fun h => pss_one h) (ds_ins (i := 2) (fun h h' => ps_expr (pe_bm PySem.F.plainAttrs_list PySem.F.slot_list_insert PySem.F.type_list_insert mt_insert (pv 2) (pa_cons h (pa_cons h' pa_nil)))) (de_callR0 (i := 0) (fun h => pe_P h__law_draw hr hG (by rfl) (pa_cons (pv 0) h)) (da_cons (fun h t => pa_cons h t) (de_op opd_int0 (fun h h' => pe_op op_add h h') (de_lenN (pe_callB call_len_seq (by rfl) m_len (by decide +kernel) (pa_cons (pv 2) pa_nil))) (de_c pe_int (fun _ => .int _))) (da_nil pa_nil))) (de_var (pv 5))))))) (dss_cons (fun h h' => pss_cons h h') (ds_par11 (i := 2) (j := 6) (fun h h' => ps_par (by rfl) nd rfl rfl (by decide) rfl rfl (pa_cons h (pa_cons h' pa_nil)) (by rfl)) (dl_sl (fun h l u => pe_slice (slLK rfl) h l u) (de_var (pv 2)) (do_none po_none) (do_some (fun h => po_some h) (de_c pe_int (fun _ => .int _)))) (dl_disp (fun h => pe_lst h) (da_nil pa_nil))) (dss_cons (fun h h' => pss_cons h h') (ds_for (fun hi hg hb => ps_for PassesOwn.never rfl hi hg hb) (di_en (fun h => pi_enum (by rfl) m_enumerate (pa_cons h pa_nil)) (de_var (pv 2))) (dg_tup (n := 2) (fun h => pg_tup rfl h) (dgs_cons (fun g h => pgs_cons g h) (dg_name (pg_name (i := 7) nd rfl (.inl rfl))) (dgs_cons (fun g h => pgs_cons g h) (dg_name (pg_name (i := 8) nd rfl (.inl rfl))) (dgs_nil pgs_nil)))) (dss_one (fun h => pss_one h) (ds_if (fun h a b => ps_if h a b) (dt_pw (fun h => PW.pt h) (dw_or (fun h h' => pw_or h h') (dt_cmp opd_in (fun h h' => pt_cmpR op_notIn_seq h h' (by rfl)) (de_ixN (fun h => pe_ix (ixSK rfl) (pv 8) h (fun _ _ => rfl)) (de_c pe_int (fun _ => .int _))) (de_fz (dl_disp (fun h => pe_lst h) (da_cons (fun h t => pa_cons h t) (de_c pe_str (fun _ => .str _)) (da_cons (fun h t => pa_cons h t) (de_c pe_str (fun _ => .str _)) (da_cons (fun h t => pa_cons h t) (de_c pe_str (fun _ => .str _)) (da_nil pa_nil))))))) (dw_or1 (fun h => pw_or1 h) (dt_pw (fun h => PW.pt h) (dw_and (fun h h' => pw_and h h') (dt_cmp opd_ne (fun h h' => pt_cmpR op_ne h h' (nomark _)) (de_ixN (fun h => pe_ix (ixSK rfl) (pv 8) h (fun _ _ => rfl)) (de_c pe_int (fun _ => .int _))) (de_c pe_str (fun _ => .str _))) (dw_and1 (fun h => pw_and1 h) (dt_cmp opd_bl0 (fun h h' => pt_cmpR op_lt h h' (nomark _)) (de_ixN (fun h => pe_ix (ixSK rfl) (pv 8) h (fun _ _ => rfl)) (de_c pe_int (fun _ => .int _))) (de_c pe_int (fun _ => .int _))))))))) (dss_one (fun h => pss_one h) (ds_app (i := 6) (fun h => ps_expr (pe_bm PySem.F.plainAttrs_list PySem.F.slot_list_append PySem.F.type_list_append mt_append (pv 6) (pa_cons h pa_nil))) (de_var (pv 7)))) (dss_nil pss_nil)))) (dss_one (fun h => pss_one h) (ds_ret (fun h => ps_ret h) (de_fz (dl_disp (fun h => pe_lst h) (da_cons (fun h t => pa_cons h t) (de_var (pv 2)) (da_cons (fun h t => pa_cons h t) (de_ifExp (fun h a b => pe_ifExp h a b) (dt_neO (i := 6) (fun h => pt_cmpR (op_neD hr.units) (pv 6) h (nomark _)) (de_fz (dl_disp (fun h => pe_lst h) (da_nil pa_nil)))) (de_ixN (fun h => pe_ix (ixSK rfl) (pv 6) h (fun _ _ => rfl)) (de_c pe_int (fun _ => .int _))) (de_c pe_non (fun _ => .non))) (da_nil pa_nil))))))))))), fun n xs R h => ?_⟩
    obtain ⟨c, rfl, hc, hl, hn, q⟩ := h
    rw [show chD c = .list (c.map stD) from rfl]
    show (sSeq _ _) [.rng n, .a (.d (.list (c.map stD))), .un, .un, .un, .un, .un, .un, .un] _
    refine y_cut fun NX hNX => ?_
    (try simp only [y_var, y_c, y_op, y_un, y_and, y_or, y_not, y_if, y_isN, y_notN, y_bOf, y_bTru, y_bNot, y_bYes, y_aNil, y_aCons, y_aStar, y_tup, y_disp, y_fz, y_cb, y_cat, y_of, y_sl, y_dO0, y_dO1, y_ixN, y_lenN, y_chain, y_call0, y_call, y_callR0, y_next, y_brk, y_cnt, y_asg, y_setO, y_gNm, y_gTp, y_gsNil, y_gsCons, y_subO, y_par, y_aug, y_expr, y_app, y_ext, y_ifS, y_ret, y_retN, y_for, y_while, y_iSeq, y_iTp, y_iR1, y_iR2, y_iEn, y_iZp, y_lc, y_raise, y_un1, y_par11, y_parO1, y_cmpO, y_iEn, y_parO1, y_try, y_val, y_isX, y_first, y_call, y_call, endsX, outX, Bool.true_eq_false, reduceCtorEq, decide_true, decide_false, ix2_0, ix2_1, ix3_0, ix3_1, ix3_2, LcRun, LpRun, wipeP, restP, noX, dite_true, List.nil_append, List.cons_append, Option.getD_some, Option.getD_none, y_repr, y_tupleL, y_tupleT, y_sum, y_all, y_any, y_eqD, y_neD, y_rev, y_dn, y_orT, y_notT, y_ins, y_bits, y_bAnd, y_bOr, y_rt0, y_rtR, y_nx0, y_rtX, y_nxX, y_exX, inV2, inV3, flatD, vOf, List.all_cons, List.all_nil, Bool.and_self, sz_iff, Nat.reduceAdd, Nat.reduceLeDiff, Nat.zero_add, y_dD, y_dB, y_dI, y_dL, y_dSl, y_dSt, y_dAll0, y_dAllS, dAll_map, y_I0, y_I, y_eqI, y_eqS, y_eqB, y_neI, y_neS, y_neB, y_neg, y_ixL, y_ixT, y_min, y_max, y_abs, y_lenL, y_lenT, y_lenS, y_lenB, y_truL, y_truT, y_inL, y_inT, y_ex1, y_exO, y_exR, at0, at1, at2, at3, isNon, List.getElem?_cons_succ, List.getElem?_cons_zero, List.set_cons_succ, List.set_cons_zero, List.length_cons, List.length_nil, List.map_cons, List.map_nil, true_and, and_true, decide_eq_true_eq, Bool.not_eq_true', Bool.not_true, Bool.not_false, if_true, if_false, Bool.false_eq_true, ite_true, ite_false])
    refine hNX _ ?_
    clear hNX NX
    rw [show [PyData.str (Str.ofString "U"), PyData.str (Str.ofString "S"), PyData.str (Str.ofString ""), PyData.str (Str.ofString "ADD"), PyData.str (Str.ofString "sub"), PyData.str (Str.ofString "us"), PyData.str (Str.ofString "u8"), PyData.str (Str.ofString "unsigned"), PyData.str (Str.ofString "+")] = wordsL.map PyData.str from rfl]
    have hw0 : ∀ s ∈ c, okW s := fun s hs => by
      have e30 : (10 : Int) ^ 30 = 1000000000000000000000000000000 := by decide
      rcases hc s hs with ⟨e, a, b⟩ | ⟨e, a, b⟩
      · exact ⟨by rw [e]; decide +kernel, a, b, fun z => absurd e z⟩
      · refine ⟨?_, by omega, by omega, fun _ => b⟩
        rcases e with e | e <;> rw [e] <;> decide +kernel
    refine y_cut fun NX hNX => ?_
    (try simp only [y_var, y_c, y_op, y_un, y_and, y_or, y_not, y_if, y_isN, y_notN, y_bOf, y_bTru, y_bNot, y_bYes, y_aNil, y_aCons, y_aStar, y_tup, y_disp, y_fz, y_cb, y_cat, y_of, y_sl, y_dO0, y_dO1, y_ixN, y_lenN, y_chain, y_call0, y_call, y_callR0, y_next, y_brk, y_cnt, y_asg, y_setO, y_gNm, y_gTp, y_gsNil, y_gsCons, y_subO, y_par, y_aug, y_expr, y_app, y_ext, y_ifS, y_ret, y_retN, y_for, y_while, y_iSeq, y_iTp, y_iR1, y_iR2, y_iEn, y_iZp, y_lc, y_raise, y_un1, y_par11, y_parO1, y_cmpO, y_iEn, y_parO1, y_try, y_val, y_isX, y_first, y_call, y_call, endsX, outX, Bool.true_eq_false, reduceCtorEq, decide_true, decide_false, ix2_0, ix2_1, ix3_0, ix3_1, ix3_2, LcRun, LpRun, wipeP, restP, noX, dite_true, List.nil_append, List.cons_append, Option.getD_some, Option.getD_none, y_repr, y_tupleL, y_tupleT, y_sum, y_all, y_any, y_eqD, y_neD, y_rev, y_dn, y_orT, y_notT, y_ins, y_bits, y_bAnd, y_bOr, y_rt0, y_rtR, y_nx0, y_rtX, y_nxX, y_exX, inV2, inV3, flatD, vOf, List.all_cons, List.all_nil, Bool.and_self, sz_iff, Nat.reduceAdd, Nat.reduceLeDiff, Nat.zero_add, y_dD, y_dB, y_dI, y_dL, y_dSl, y_dSt, y_dAll0, y_dAllS, dAll_map, y_I0, y_I, y_eqI, y_eqS, y_eqB, y_neI, y_neS, y_neB, y_neg, y_ixL, y_ixT, y_min, y_max, y_abs, y_lenL, y_lenT, y_lenS, y_lenB, y_truL, y_truT, y_inL, y_inT, y_ex1, y_exO, y_exR, at0, at1, at2, at3, isNon, List.getElem?_cons_succ, List.getElem?_cons_zero, List.set_cons_succ, List.set_cons_zero, List.length_cons, List.length_nil, List.map_cons, List.map_nil, true_and, and_true, decide_eq_true_eq, Bool.not_eq_true', Bool.not_true, Bool.not_false, if_true, if_false, Bool.false_eq_true, ite_true, ite_false])
    refine ⟨4, rfl, by omega, by omega, by decide, fun v v0 v1 => ?_⟩
    (try simp only [y_var, y_c, y_op, y_un, y_and, y_or, y_not, y_if, y_isN, y_notN, y_bOf, y_bTru, y_bNot, y_bYes, y_aNil, y_aCons, y_aStar, y_tup, y_disp, y_fz, y_cb, y_cat, y_of, y_sl, y_dO0, y_dO1, y_ixN, y_lenN, y_chain, y_call0, y_call, y_callR0, y_next, y_brk, y_cnt, y_asg, y_setO, y_gNm, y_gTp, y_gsNil, y_gsCons, y_subO, y_par, y_aug, y_expr, y_app, y_ext, y_ifS, y_ret, y_retN, y_for, y_while, y_iSeq, y_iTp, y_iR1, y_iR2, y_iEn, y_iZp, y_lc, y_raise, y_un1, y_par11, y_parO1, y_cmpO, y_iEn, y_parO1, y_try, y_val, y_isX, y_first, y_call, y_call, endsX, outX, Bool.true_eq_false, reduceCtorEq, decide_true, decide_false, ix2_0, ix2_1, ix3_0, ix3_1, ix3_2, LcRun, LpRun, wipeP, restP, noX, dite_true, List.nil_append, List.cons_append, Option.getD_some, Option.getD_none, y_repr, y_tupleL, y_tupleT, y_sum, y_all, y_any, y_eqD, y_neD, y_rev, y_dn, y_orT, y_notT, y_ins, y_bits, y_bAnd, y_bOr, y_rt0, y_rtR, y_nx0, y_rtX, y_nxX, y_exX, inV2, inV3, flatD, vOf, List.all_cons, List.all_nil, Bool.and_self, sz_iff, Nat.reduceAdd, Nat.reduceLeDiff, Nat.zero_add, y_dD, y_dB, y_dI, y_dL, y_dSl, y_dSt, y_dAll0, y_dAllS, dAll_map, y_I0, y_I, y_eqI, y_eqS, y_eqB, y_neI, y_neS, y_neB, y_neg, y_ixL, y_ixT, y_min, y_max, y_abs, y_lenL, y_lenT, y_lenS, y_lenB, y_truL, y_truT, y_inL, y_inT, y_ex1, y_exO, y_exR, at0, at1, at2, at3, isNon, List.getElem?_cons_succ, List.getElem?_cons_zero, List.set_cons_succ, List.set_cons_zero, List.length_cons, List.length_nil, List.map_cons, List.map_nil, true_and, and_true, decide_eq_true_eq, Bool.not_eq_true', Bool.not_true, Bool.not_false, if_true, if_false, Bool.false_eq_true, ite_true, ite_false])
    have kt : ∃ t : Int, 0 ≤ t ∧ t ≤ 2 ∧ atI [PyData.int 0, PyData.int 1, PyData.int 1, PyData.int 2] v = some (.int t) := by
      rcases (show v = 0 ∨ v = 1 ∨ v = 2 ∨ v = 3 by omega) with rfl | rfl | rfl | rfl
      · exact ⟨0, by decide, by decide, at0⟩
      · exact ⟨1, by decide, by decide, at1⟩
      · exact ⟨1, by decide, by decide, at2⟩
      · exact ⟨2, by decide, by decide, at3⟩
    obtain ⟨t, t0, t1, et⟩ := kt
    refine ⟨_, et, ?_⟩
    (try simp only [y_var, y_c, y_op, y_un, y_and, y_or, y_not, y_if, y_isN, y_notN, y_bOf, y_bTru, y_bNot, y_bYes, y_aNil, y_aCons, y_aStar, y_tup, y_disp, y_fz, y_cb, y_cat, y_of, y_sl, y_dO0, y_dO1, y_ixN, y_lenN, y_chain, y_call0, y_call, y_callR0, y_next, y_brk, y_cnt, y_asg, y_setO, y_gNm, y_gTp, y_gsNil, y_gsCons, y_subO, y_par, y_aug, y_expr, y_app, y_ext, y_ifS, y_ret, y_retN, y_for, y_while, y_iSeq, y_iTp, y_iR1, y_iR2, y_iEn, y_iZp, y_lc, y_raise, y_un1, y_par11, y_parO1, y_cmpO, y_iEn, y_parO1, y_try, y_val, y_isX, y_first, y_call, y_call, endsX, outX, Bool.true_eq_false, reduceCtorEq, decide_true, decide_false, ix2_0, ix2_1, ix3_0, ix3_1, ix3_2, LcRun, LpRun, wipeP, restP, noX, dite_true, List.nil_append, List.cons_append, Option.getD_some, Option.getD_none, y_repr, y_tupleL, y_tupleT, y_sum, y_all, y_any, y_eqD, y_neD, y_rev, y_dn, y_orT, y_notT, y_ins, y_bits, y_bAnd, y_bOr, y_rt0, y_rtR, y_nx0, y_rtX, y_nxX, y_exX, inV2, inV3, flatD, vOf, List.all_cons, List.all_nil, Bool.and_self, sz_iff, Nat.reduceAdd, Nat.reduceLeDiff, Nat.zero_add, y_dD, y_dB, y_dI, y_dL, y_dSl, y_dSt, y_dAll0, y_dAllS, dAll_map, y_I0, y_I, y_eqI, y_eqS, y_eqB, y_neI, y_neS, y_neB, y_neg, y_ixL, y_ixT, y_min, y_max, y_abs, y_lenL, y_lenT, y_lenS, y_lenB, y_truL, y_truT, y_inL, y_inT, y_ex1, y_exO, y_exR, at0, at1, at2, at3, isNon, List.getElem?_cons_succ, List.getElem?_cons_zero, List.set_cons_succ, List.set_cons_zero, List.length_cons, List.length_nil, List.map_cons, List.map_nil, true_and, and_true, decide_eq_true_eq, Bool.not_eq_true', Bool.not_true, Bool.not_false, if_true, if_false, Bool.false_eq_true, ite_true, ite_false])
    refine ⟨by omega, by omega, ?_⟩
    refine loopQ (fun i ρ => ∃ (g : Ch) (m : Nat) (y4 y5 : Sl), ρ = [.rng m, .a (.d (.list (c.map stD))), .own (g.map stD), .a (.d (.list (wordsL.map PyData.str))), y4, y5, .un, .un, .un] ∧ (∀ s ∈ g, okW s) ∧ g.length ≤ 12 + i ∧ m ≤ n + 1 + i * 8) ⟨c, _, _, _, rfl, hw0, by omega, by omega⟩ (fun BK i ρ hi h => ?_) (fun ρ h => ?_)
    · obtain ⟨g, m, y4, y5, rfl, hg, gl, hm⟩ := h
      have hi2 : i < 2 := by omega
      (try simp only [y_var, y_c, y_op, y_un, y_and, y_or, y_not, y_if, y_isN, y_notN, y_bOf, y_bTru, y_bNot, y_bYes, y_aNil, y_aCons, y_aStar, y_tup, y_disp, y_fz, y_cb, y_cat, y_of, y_sl, y_dO0, y_dO1, y_ixN, y_lenN, y_chain, y_call0, y_call, y_callR0, y_next, y_brk, y_cnt, y_asg, y_setO, y_gNm, y_gTp, y_gsNil, y_gsCons, y_subO, y_par, y_aug, y_expr, y_app, y_ext, y_ifS, y_ret, y_retN, y_for, y_while, y_iSeq, y_iTp, y_iR1, y_iR2, y_iEn, y_iZp, y_lc, y_raise, y_un1, y_par11, y_parO1, y_cmpO, y_iEn, y_parO1, y_try, y_val, y_isX, y_first, y_call, y_call, endsX, outX, Bool.true_eq_false, reduceCtorEq, decide_true, decide_false, ix2_0, ix2_1, ix3_0, ix3_1, ix3_2, LcRun, LpRun, wipeP, restP, noX, dite_true, List.nil_append, List.cons_append, Option.getD_some, Option.getD_none, y_repr, y_tupleL, y_tupleT, y_sum, y_all, y_any, y_eqD, y_neD, y_rev, y_dn, y_orT, y_notT, y_ins, y_bits, y_bAnd, y_bOr, y_rt0, y_rtR, y_nx0, y_rtX, y_nxX, y_exX, inV2, inV3, flatD, vOf, List.all_cons, List.all_nil, Bool.and_self, sz_iff, Nat.reduceAdd, Nat.reduceLeDiff, Nat.zero_add, y_dD, y_dB, y_dI, y_dL, y_dSl, y_dSt, y_dAll0, y_dAllS, dAll_map, y_I0, y_I, y_eqI, y_eqS, y_eqB, y_neI, y_neS, y_neB, y_neg, y_ixL, y_ixT, y_min, y_max, y_abs, y_lenL, y_lenT, y_lenS, y_lenB, y_truL, y_truT, y_inL, y_inT, y_ex1, y_exO, y_exR, at0, at1, at2, at3, isNon, List.getElem?_cons_succ, List.getElem?_cons_zero, List.set_cons_succ, List.set_cons_zero, List.length_cons, List.length_nil, List.map_cons, List.map_nil, true_and, and_true, decide_eq_true_eq, Bool.not_eq_true', Bool.not_true, Bool.not_false, if_true, if_false, Bool.false_eq_true, ite_true, ite_false])
      refine y_cut fun NX2 hNX2 => ?_
      (try simp only [y_var, y_c, y_op, y_un, y_and, y_or, y_not, y_if, y_isN, y_notN, y_bOf, y_bTru, y_bNot, y_bYes, y_aNil, y_aCons, y_aStar, y_tup, y_disp, y_fz, y_cb, y_cat, y_of, y_sl, y_dO0, y_dO1, y_ixN, y_lenN, y_chain, y_call0, y_call, y_callR0, y_next, y_brk, y_cnt, y_asg, y_setO, y_gNm, y_gTp, y_gsNil, y_gsCons, y_subO, y_par, y_aug, y_expr, y_app, y_ext, y_ifS, y_ret, y_retN, y_for, y_while, y_iSeq, y_iTp, y_iR1, y_iR2, y_iEn, y_iZp, y_lc, y_raise, y_un1, y_par11, y_parO1, y_cmpO, y_iEn, y_parO1, y_try, y_val, y_isX, y_first, y_call, y_call, endsX, outX, Bool.true_eq_false, reduceCtorEq, decide_true, decide_false, ix2_0, ix2_1, ix3_0, ix3_1, ix3_2, LcRun, LpRun, wipeP, restP, noX, dite_true, List.nil_append, List.cons_append, Option.getD_some, Option.getD_none, y_repr, y_tupleL, y_tupleT, y_sum, y_all, y_any, y_eqD, y_neD, y_rev, y_dn, y_orT, y_notT, y_ins, y_bits, y_bAnd, y_bOr, y_rt0, y_rtR, y_nx0, y_rtX, y_nxX, y_exX, inV2, inV3, flatD, vOf, List.all_cons, List.all_nil, Bool.and_self, sz_iff, Nat.reduceAdd, Nat.reduceLeDiff, Nat.zero_add, y_dD, y_dB, y_dI, y_dL, y_dSl, y_dSt, y_dAll0, y_dAllS, dAll_map, y_I0, y_I, y_eqI, y_eqS, y_eqB, y_neI, y_neS, y_neB, y_neg, y_ixL, y_ixT, y_min, y_max, y_abs, y_lenL, y_lenT, y_lenS, y_lenB, y_truL, y_truT, y_inL, y_inT, y_ex1, y_exO, y_exR, at0, at1, at2, at3, isNon, List.getElem?_cons_succ, List.getElem?_cons_zero, List.set_cons_succ, List.set_cons_zero, List.length_cons, List.length_nil, List.map_cons, List.map_nil, true_and, and_true, decide_eq_true_eq, Bool.not_eq_true', Bool.not_true, Bool.not_false, if_true, if_false, Bool.false_eq_true, ite_true, ite_false])
      have e30 : (10 : Int) ^ (30 : Int).toNat = 10 ^ 30 := rfl
      have n30 : (10 : Int) ^ 30 = 1000000000000000000000000000000 := by decide
      rw [e30]
      have cont : ∀ (x : Str) (k : Int) (m2 : Nat), okW (x, k) → m2 ≤ m + 3 → NX2 [.rng m2, .a (.d (.list (c.map stD))), .own (g.map stD), .a (.d (.list (wordsL.map PyData.str))), .a (.d (.int (0 + (i : Nat)))), .a (.d (.tuple [.str x, .int k])), .un, .un, .un] := fun x k m2 hk hm2 => by
        refine hNX2 _ ?_
        clear hNX2 NX2
        refine y_cut fun NX2 hNX2 => ?_
        (try simp only [y_var, y_c, y_op, y_un, y_and, y_or, y_not, y_if, y_isN, y_notN, y_bOf, y_bTru, y_bNot, y_bYes, y_aNil, y_aCons, y_aStar, y_tup, y_disp, y_fz, y_cb, y_cat, y_of, y_sl, y_dO0, y_dO1, y_ixN, y_lenN, y_chain, y_call0, y_call, y_callR0, y_next, y_brk, y_cnt, y_asg, y_setO, y_gNm, y_gTp, y_gsNil, y_gsCons, y_subO, y_par, y_aug, y_expr, y_app, y_ext, y_ifS, y_ret, y_retN, y_for, y_while, y_iSeq, y_iTp, y_iR1, y_iR2, y_iEn, y_iZp, y_lc, y_raise, y_un1, y_par11, y_parO1, y_cmpO, y_iEn, y_parO1, y_try, y_val, y_isX, y_first, y_call, y_call, endsX, outX, Bool.true_eq_false, reduceCtorEq, decide_true, decide_false, ix2_0, ix2_1, ix3_0, ix3_1, ix3_2, LcRun, LpRun, wipeP, restP, noX, dite_true, List.nil_append, List.cons_append, Option.getD_some, Option.getD_none, y_repr, y_tupleL, y_tupleT, y_sum, y_all, y_any, y_eqD, y_neD, y_rev, y_dn, y_orT, y_notT, y_ins, y_bits, y_bAnd, y_bOr, y_rt0, y_rtR, y_nx0, y_rtX, y_nxX, y_exX, inV2, inV3, flatD, vOf, List.all_cons, List.all_nil, Bool.and_self, sz_iff, Nat.reduceAdd, Nat.reduceLeDiff, Nat.zero_add, y_dD, y_dB, y_dI, y_dL, y_dSl, y_dSt, y_dAll0, y_dAllS, dAll_map, y_I0, y_I, y_eqI, y_eqS, y_eqB, y_neI, y_neS, y_neB, y_neg, y_ixL, y_ixT, y_min, y_max, y_abs, y_lenL, y_lenT, y_lenS, y_lenB, y_truL, y_truT, y_inL, y_inT, y_ex1, y_exO, y_exR, at0, at1, at2, at3, isNon, List.getElem?_cons_succ, List.getElem?_cons_zero, List.set_cons_succ, List.set_cons_zero, List.length_cons, List.length_nil, List.map_cons, List.map_nil, true_and, and_true, decide_eq_true_eq, Bool.not_eq_true', Bool.not_true, Bool.not_false, if_true, if_false, Bool.false_eq_true, ite_true, ite_false])
        have ins : ∀ (x : Str) (k : Int) (m2 : Nat), okW (x, k) → m2 ≤ m + 6 → NX2 [.rng m2, .a (.d (.list (c.map stD))), .own (g.map stD), .a (.d (.list (wordsL.map PyData.str))), .a (.d (.int (0 + (i : Nat)))), .a (.d (.tuple [.str x, .int k])), .un, .un, .un] := fun x k m2 hk hm2 => by
          refine hNX2 _ ?_
          clear hNX2 NX2
          (try simp only [y_var, y_c, y_op, y_un, y_and, y_or, y_not, y_if, y_isN, y_notN, y_bOf, y_bTru, y_bNot, y_bYes, y_aNil, y_aCons, y_aStar, y_tup, y_disp, y_fz, y_cb, y_cat, y_of, y_sl, y_dO0, y_dO1, y_ixN, y_lenN, y_chain, y_call0, y_call, y_callR0, y_next, y_brk, y_cnt, y_asg, y_setO, y_gNm, y_gTp, y_gsNil, y_gsCons, y_subO, y_par, y_aug, y_expr, y_app, y_ext, y_ifS, y_ret, y_retN, y_for, y_while, y_iSeq, y_iTp, y_iR1, y_iR2, y_iEn, y_iZp, y_lc, y_raise, y_un1, y_par11, y_parO1, y_cmpO, y_iEn, y_parO1, y_try, y_val, y_isX, y_first, y_call, y_call, endsX, outX, Bool.true_eq_false, reduceCtorEq, decide_true, decide_false, ix2_0, ix2_1, ix3_0, ix3_1, ix3_2, LcRun, LpRun, wipeP, restP, noX, dite_true, List.nil_append, List.cons_append, Option.getD_some, Option.getD_none, y_repr, y_tupleL, y_tupleT, y_sum, y_all, y_any, y_eqD, y_neD, y_rev, y_dn, y_orT, y_notT, y_ins, y_bits, y_bAnd, y_bOr, y_rt0, y_rtR, y_nx0, y_rtX, y_nxX, y_exX, inV2, inV3, flatD, vOf, List.all_cons, List.all_nil, Bool.and_self, sz_iff, Nat.reduceAdd, Nat.reduceLeDiff, Nat.zero_add, y_dD, y_dB, y_dI, y_dL, y_dSl, y_dSt, y_dAll0, y_dAllS, dAll_map, y_I0, y_I, y_eqI, y_eqS, y_eqB, y_neI, y_neS, y_neB, y_neg, y_ixL, y_ixT, y_min, y_max, y_abs, y_lenL, y_lenT, y_lenS, y_lenB, y_truL, y_truT, y_inL, y_inT, y_ex1, y_exO, y_exR, at0, at1, at2, at3, isNon, List.getElem?_cons_succ, List.getElem?_cons_zero, List.set_cons_succ, List.set_cons_zero, List.length_cons, List.length_nil, List.map_cons, List.map_nil, true_and, and_true, decide_eq_true_eq, Bool.not_eq_true', Bool.not_true, Bool.not_false, if_true, if_false, Bool.false_eq_true, ite_true, ite_false])
          rw [List.length_map]
          have gl2 : List.length g + 1 ≤ 200 := by omega
          refine ⟨(g.length : Nat) + 1, rfl, by omega, by omega, Int.lt_of_le_of_lt (show ((g.length : Nat) : Int) + 1 ≤ 20 by omega) (by decide +kernel), fun a a0 a1 => ?_⟩
          (try simp only [y_var, y_c, y_op, y_un, y_and, y_or, y_not, y_if, y_isN, y_notN, y_bOf, y_bTru, y_bNot, y_bYes, y_aNil, y_aCons, y_aStar, y_tup, y_disp, y_fz, y_cb, y_cat, y_of, y_sl, y_dO0, y_dO1, y_ixN, y_lenN, y_chain, y_call0, y_call, y_callR0, y_next, y_brk, y_cnt, y_asg, y_setO, y_gNm, y_gTp, y_gsNil, y_gsCons, y_subO, y_par, y_aug, y_expr, y_app, y_ext, y_ifS, y_ret, y_retN, y_for, y_while, y_iSeq, y_iTp, y_iR1, y_iR2, y_iEn, y_iZp, y_lc, y_raise, y_un1, y_par11, y_parO1, y_cmpO, y_iEn, y_parO1, y_try, y_val, y_isX, y_first, y_call, y_call, endsX, outX, Bool.true_eq_false, reduceCtorEq, decide_true, decide_false, ix2_0, ix2_1, ix3_0, ix3_1, ix3_2, LcRun, LpRun, wipeP, restP, noX, dite_true, List.nil_append, List.cons_append, Option.getD_some, Option.getD_none, y_repr, y_tupleL, y_tupleT, y_sum, y_all, y_any, y_eqD, y_neD, y_rev, y_dn, y_orT, y_notT, y_ins, y_bits, y_bAnd, y_bOr, y_rt0, y_rtR, y_nx0, y_rtX, y_nxX, y_exX, inV2, inV3, flatD, vOf, List.all_cons, List.all_nil, Bool.and_self, sz_iff, Nat.reduceAdd, Nat.reduceLeDiff, Nat.zero_add, y_dD, y_dB, y_dI, y_dL, y_dSl, y_dSt, y_dAll0, y_dAllS, dAll_map, y_I0, y_I, y_eqI, y_eqS, y_eqB, y_neI, y_neS, y_neB, y_neg, y_ixL, y_ixT, y_min, y_max, y_abs, y_lenL, y_lenT, y_lenS, y_lenB, y_truL, y_truT, y_inL, y_inT, y_ex1, y_exO, y_exR, at0, at1, at2, at3, isNon, List.getElem?_cons_succ, List.getElem?_cons_zero, List.set_cons_succ, List.set_cons_zero, List.length_cons, List.length_nil, List.map_cons, List.map_nil, true_and, and_true, decide_eq_true_eq, Bool.not_eq_true', Bool.not_true, Bool.not_false, if_true, if_false, Bool.false_eq_true, ite_true, ite_false])
          refine ⟨szS (m := 200) gl2 (by decide), a0, by omega, g.take a.toNat ++ [(x, k)] ++ g.drop a.toNat, m2 + 1, .a (.d (.int (0 + (i : Nat)))), .a (.d (.tuple [.str x, .int k])), ?_, fun s hs => ?_, ?_, by omega⟩
          · rw [List.map_append, List.map_append, List.map_take, List.map_drop]
            rfl
          · rcases List.mem_append.mp hs with hs | hs
            · rcases List.mem_append.mp hs with hs | hs
              · exact hg s (List.mem_of_mem_take hs)
              · rw [List.mem_singleton.mp hs]; exact hk
            · exact hg s (List.mem_of_mem_drop hs)
          · simp only [List.length_append, List.length_take, List.length_drop, List.length_singleton]
            have : List.length g ≤ 12 + i := gl
            omega
        refine ⟨9, rfl, by omega, by omega, by decide, fun a a0 a1 => ?_⟩
        (try simp only [y_var, y_c, y_op, y_un, y_and, y_or, y_not, y_if, y_isN, y_notN, y_bOf, y_bTru, y_bNot, y_bYes, y_aNil, y_aCons, y_aStar, y_tup, y_disp, y_fz, y_cb, y_cat, y_of, y_sl, y_dO0, y_dO1, y_ixN, y_lenN, y_chain, y_call0, y_call, y_callR0, y_next, y_brk, y_cnt, y_asg, y_setO, y_gNm, y_gTp, y_gsNil, y_gsCons, y_subO, y_par, y_aug, y_expr, y_app, y_ext, y_ifS, y_ret, y_retN, y_for, y_while, y_iSeq, y_iTp, y_iR1, y_iR2, y_iEn, y_iZp, y_lc, y_raise, y_un1, y_par11, y_parO1, y_cmpO, y_iEn, y_parO1, y_try, y_val, y_isX, y_first, y_call, y_call, endsX, outX, Bool.true_eq_false, reduceCtorEq, decide_true, decide_false, ix2_0, ix2_1, ix3_0, ix3_1, ix3_2, LcRun, LpRun, wipeP, restP, noX, dite_true, List.nil_append, List.cons_append, Option.getD_some, Option.getD_none, y_repr, y_tupleL, y_tupleT, y_sum, y_all, y_any, y_eqD, y_neD, y_rev, y_dn, y_orT, y_notT, y_ins, y_bits, y_bAnd, y_bOr, y_rt0, y_rtR, y_nx0, y_rtX, y_nxX, y_exX, inV2, inV3, flatD, vOf, List.all_cons, List.all_nil, Bool.and_self, sz_iff, Nat.reduceAdd, Nat.reduceLeDiff, Nat.zero_add, y_dD, y_dB, y_dI, y_dL, y_dSl, y_dSt, y_dAll0, y_dAllS, dAll_map, y_I0, y_I, y_eqI, y_eqS, y_eqB, y_neI, y_neS, y_neB, y_neg, y_ixL, y_ixT, y_min, y_max, y_abs, y_lenL, y_lenT, y_lenS, y_lenB, y_truL, y_truT, y_inL, y_inT, y_ex1, y_exO, y_exR, at0, at1, at2, at3, isNon, List.getElem?_cons_succ, List.getElem?_cons_zero, List.set_cons_succ, List.set_cons_zero, List.length_cons, List.length_nil, List.map_cons, List.map_nil, true_and, and_true, decide_eq_true_eq, Bool.not_eq_true', Bool.not_true, Bool.not_false, if_true, if_false, Bool.false_eq_true, ite_true, ite_false])
        obtain ⟨z, hz, ez⟩ := word_at a0 a1
        refine ⟨_, ez, 40, rfl, by omega, by omega, by decide, fun b b0 b1 => ?_⟩
        refine ⟨2, rfl, by omega, by omega, by decide, fun d d0 d1 => ?_⟩
        (try simp only [y_var, y_c, y_op, y_un, y_and, y_or, y_not, y_if, y_isN, y_notN, y_bOf, y_bTru, y_bNot, y_bYes, y_aNil, y_aCons, y_aStar, y_tup, y_disp, y_fz, y_cb, y_cat, y_of, y_sl, y_dO0, y_dO1, y_ixN, y_lenN, y_chain, y_call0, y_call, y_callR0, y_next, y_brk, y_cnt, y_asg, y_setO, y_gNm, y_gTp, y_gsNil, y_gsCons, y_subO, y_par, y_aug, y_expr, y_app, y_ext, y_ifS, y_ret, y_retN, y_for, y_while, y_iSeq, y_iTp, y_iR1, y_iR2, y_iEn, y_iZp, y_lc, y_raise, y_un1, y_par11, y_parO1, y_cmpO, y_iEn, y_parO1, y_try, y_val, y_isX, y_first, y_call, y_call, endsX, outX, Bool.true_eq_false, reduceCtorEq, decide_true, decide_false, ix2_0, ix2_1, ix3_0, ix3_1, ix3_2, LcRun, LpRun, wipeP, restP, noX, dite_true, List.nil_append, List.cons_append, Option.getD_some, Option.getD_none, y_repr, y_tupleL, y_tupleT, y_sum, y_all, y_any, y_eqD, y_neD, y_rev, y_dn, y_orT, y_notT, y_ins, y_bits, y_bAnd, y_bOr, y_rt0, y_rtR, y_nx0, y_rtX, y_nxX, y_exX, inV2, inV3, flatD, vOf, List.all_cons, List.all_nil, Bool.and_self, sz_iff, Nat.reduceAdd, Nat.reduceLeDiff, Nat.zero_add, y_dD, y_dB, y_dI, y_dL, y_dSl, y_dSt, y_dAll0, y_dAllS, dAll_map, y_I0, y_I, y_eqI, y_eqS, y_eqB, y_neI, y_neS, y_neB, y_neg, y_ixL, y_ixT, y_min, y_max, y_abs, y_lenL, y_lenT, y_lenS, y_lenB, y_truL, y_truT, y_inL, y_inT, y_ex1, y_exO, y_exR, at0, at1, at2, at3, isNon, List.getElem?_cons_succ, List.getElem?_cons_zero, List.set_cons_succ, List.set_cons_zero, List.length_cons, List.length_nil, List.map_cons, List.map_nil, true_and, and_true, decide_eq_true_eq, Bool.not_eq_true', Bool.not_true, Bool.not_false, if_true, if_false, Bool.false_eq_true, ite_true, ite_false])
        rcases (show d = 0 ∨ d = 1 by omega) with rfl | rfl
        · exact ⟨_, at0, ins x k _ hk (by omega)⟩
        · exact ⟨_, at1, ins z b _ ⟨(word_in z hz).1, by dsimp only; omega, by dsimp only; omega, fun _ => by dsimp only; omega⟩ (by omega)⟩
      refine ⟨2, rfl, by omega, by omega, by decide, fun a a0 a1 => ?_⟩
      (try simp only [y_var, y_c, y_op, y_un, y_and, y_or, y_not, y_if, y_isN, y_notN, y_bOf, y_bTru, y_bNot, y_bYes, y_aNil, y_aCons, y_aStar, y_tup, y_disp, y_fz, y_cb, y_cat, y_of, y_sl, y_dO0, y_dO1, y_ixN, y_lenN, y_chain, y_call0, y_call, y_callR0, y_next, y_brk, y_cnt, y_asg, y_setO, y_gNm, y_gTp, y_gsNil, y_gsCons, y_subO, y_par, y_aug, y_expr, y_app, y_ext, y_ifS, y_ret, y_retN, y_for, y_while, y_iSeq, y_iTp, y_iR1, y_iR2, y_iEn, y_iZp, y_lc, y_raise, y_un1, y_par11, y_parO1, y_cmpO, y_iEn, y_parO1, y_try, y_val, y_isX, y_first, y_call, y_call, endsX, outX, Bool.true_eq_false, reduceCtorEq, decide_true, decide_false, ix2_0, ix2_1, ix3_0, ix3_1, ix3_2, LcRun, LpRun, wipeP, restP, noX, dite_true, List.nil_append, List.cons_append, Option.getD_some, Option.getD_none, y_repr, y_tupleL, y_tupleT, y_sum, y_all, y_any, y_eqD, y_neD, y_rev, y_dn, y_orT, y_notT, y_ins, y_bits, y_bAnd, y_bOr, y_rt0, y_rtR, y_nx0, y_rtX, y_nxX, y_exX, inV2, inV3, flatD, vOf, List.all_cons, List.all_nil, Bool.and_self, sz_iff, Nat.reduceAdd, Nat.reduceLeDiff, Nat.zero_add, y_dD, y_dB, y_dI, y_dL, y_dSl, y_dSt, y_dAll0, y_dAllS, dAll_map, y_I0, y_I, y_eqI, y_eqS, y_eqB, y_neI, y_neS, y_neB, y_neg, y_ixL, y_ixT, y_min, y_max, y_abs, y_lenL, y_lenT, y_lenS, y_lenB, y_truL, y_truT, y_inL, y_inT, y_ex1, y_exO, y_exR, at0, at1, at2, at3, isNon, List.getElem?_cons_succ, List.getElem?_cons_zero, List.set_cons_succ, List.set_cons_zero, List.length_cons, List.length_nil, List.map_cons, List.map_nil, true_and, and_true, decide_eq_true_eq, Bool.not_eq_true', Bool.not_true, Bool.not_false, if_true, if_false, Bool.false_eq_true, ite_true, ite_false])
      have mid : ∀ x : Str, (x = "u" ∨ x = "s") → (0 ≤ (30 : Int) ∧ (30 : Int) ≤ 64 ∧ Int.natAbs 10 < 2 ^ 4000) ∧ phDraw (m + 1) [Cc.A.d (PyData.int (10 ^ 30))]
              (fun y n' => dD y fun w => pI0 (fun i j => PyData.int (i - j)) (PyData.int 0) w fun d_1 => phDraw n' [Cc.A.d (PyData.int 3)]
                      (fun y n' => dD y fun w => pIx (PyData.list [PyData.int 0, PyData.int (-1), d_1]) w fun d_2 =>
                            NX2 [Sl.rng n', Sl.a (Cc.A.d (PyData.list (List.map stD c))), Sl.own (List.map stD g), Sl.a (Cc.A.d (PyData.list (List.map PyData.str wordsL))), Sl.a (Cc.A.d (PyData.int (0 + (i : Nat)))), Sl.a (Cc.A.d (PyData.tuple [.str x, d_2])), Sl.un, Sl.un, Sl.un]) fun _ _ _ => False) fun _ _ _ => False := fun x hx => by
        refine ⟨⟨by decide, by decide, by decide⟩, 10 ^ 30, rfl, by omega, by omega, by decide, fun b b0 b1 => ?_⟩
        (try simp only [y_var, y_c, y_op, y_un, y_and, y_or, y_not, y_if, y_isN, y_notN, y_bOf, y_bTru, y_bNot, y_bYes, y_aNil, y_aCons, y_aStar, y_tup, y_disp, y_fz, y_cb, y_cat, y_of, y_sl, y_dO0, y_dO1, y_ixN, y_lenN, y_chain, y_call0, y_call, y_callR0, y_next, y_brk, y_cnt, y_asg, y_setO, y_gNm, y_gTp, y_gsNil, y_gsCons, y_subO, y_par, y_aug, y_expr, y_app, y_ext, y_ifS, y_ret, y_retN, y_for, y_while, y_iSeq, y_iTp, y_iR1, y_iR2, y_iEn, y_iZp, y_lc, y_raise, y_un1, y_par11, y_parO1, y_cmpO, y_iEn, y_parO1, y_try, y_val, y_isX, y_first, y_call, y_call, endsX, outX, Bool.true_eq_false, reduceCtorEq, decide_true, decide_false, ix2_0, ix2_1, ix3_0, ix3_1, ix3_2, LcRun, LpRun, wipeP, restP, noX, dite_true, List.nil_append, List.cons_append, Option.getD_some, Option.getD_none, y_repr, y_tupleL, y_tupleT, y_sum, y_all, y_any, y_eqD, y_neD, y_rev, y_dn, y_orT, y_notT, y_ins, y_bits, y_bAnd, y_bOr, y_rt0, y_rtR, y_nx0, y_rtX, y_nxX, y_exX, inV2, inV3, flatD, vOf, List.all_cons, List.all_nil, Bool.and_self, sz_iff, Nat.reduceAdd, Nat.reduceLeDiff, Nat.zero_add, y_dD, y_dB, y_dI, y_dL, y_dSl, y_dSt, y_dAll0, y_dAllS, dAll_map, y_I0, y_I, y_eqI, y_eqS, y_eqB, y_neI, y_neS, y_neB, y_neg, y_ixL, y_ixT, y_min, y_max, y_abs, y_lenL, y_lenT, y_lenS, y_lenB, y_truL, y_truT, y_inL, y_inT, y_ex1, y_exO, y_exR, at0, at1, at2, at3, isNon, List.getElem?_cons_succ, List.getElem?_cons_zero, List.set_cons_succ, List.set_cons_zero, List.length_cons, List.length_nil, List.map_cons, List.map_nil, true_and, and_true, decide_eq_true_eq, Bool.not_eq_true', Bool.not_true, Bool.not_false, if_true, if_false, Bool.false_eq_true, ite_true, ite_false])
        refine ⟨3, rfl, by omega, by omega, by decide, fun d d0 d1 => ?_⟩
        (try simp only [y_var, y_c, y_op, y_un, y_and, y_or, y_not, y_if, y_isN, y_notN, y_bOf, y_bTru, y_bNot, y_bYes, y_aNil, y_aCons, y_aStar, y_tup, y_disp, y_fz, y_cb, y_cat, y_of, y_sl, y_dO0, y_dO1, y_ixN, y_lenN, y_chain, y_call0, y_call, y_callR0, y_next, y_brk, y_cnt, y_asg, y_setO, y_gNm, y_gTp, y_gsNil, y_gsCons, y_subO, y_par, y_aug, y_expr, y_app, y_ext, y_ifS, y_ret, y_retN, y_for, y_while, y_iSeq, y_iTp, y_iR1, y_iR2, y_iEn, y_iZp, y_lc, y_raise, y_un1, y_par11, y_parO1, y_cmpO, y_iEn, y_parO1, y_try, y_val, y_isX, y_first, y_call, y_call, endsX, outX, Bool.true_eq_false, reduceCtorEq, decide_true, decide_false, ix2_0, ix2_1, ix3_0, ix3_1, ix3_2, LcRun, LpRun, wipeP, restP, noX, dite_true, List.nil_append, List.cons_append, Option.getD_some, Option.getD_none, y_repr, y_tupleL, y_tupleT, y_sum, y_all, y_any, y_eqD, y_neD, y_rev, y_dn, y_orT, y_notT, y_ins, y_bits, y_bAnd, y_bOr, y_rt0, y_rtR, y_nx0, y_rtX, y_nxX, y_exX, inV2, inV3, flatD, vOf, List.all_cons, List.all_nil, Bool.and_self, sz_iff, Nat.reduceAdd, Nat.reduceLeDiff, Nat.zero_add, y_dD, y_dB, y_dI, y_dL, y_dSl, y_dSt, y_dAll0, y_dAllS, dAll_map, y_I0, y_I, y_eqI, y_eqS, y_eqB, y_neI, y_neS, y_neB, y_neg, y_ixL, y_ixT, y_min, y_max, y_abs, y_lenL, y_lenT, y_lenS, y_lenB, y_truL, y_truT, y_inL, y_inT, y_ex1, y_exO, y_exR, at0, at1, at2, at3, isNon, List.getElem?_cons_succ, List.getElem?_cons_zero, List.set_cons_succ, List.set_cons_zero, List.length_cons, List.length_nil, List.map_cons, List.map_nil, true_and, and_true, decide_eq_true_eq, Bool.not_eq_true', Bool.not_true, Bool.not_false, if_true, if_false, Bool.false_eq_true, ite_true, ite_false])
        have okx : ∀ k : Int, -(10 ^ 30) ≤ k → k ≤ 0 → okW (x, k) := fun k k0 k1 => ⟨by show x ∈ wordsA; rcases hx with rfl | rfl <;> decide +kernel, k0, by dsimp only; omega, fun _ => by dsimp only; omega⟩
        rcases (show d = 0 ∨ d = 1 ∨ d = 2 by omega) with rfl | rfl | rfl
        · exact ⟨_, at0, cont x 0 _ (okx _ (by omega) (by omega)) (by omega)⟩
        · exact ⟨_, at1, cont x (-1) _ (okx _ (by omega) (by omega)) (by omega)⟩
        · exact ⟨_, at2, cont x (0 - b) _ (okx _ (by omega) (by omega)) (by omega)⟩
      rcases (show a = 0 ∨ a = 1 by omega) with rfl | rfl
      · exact ⟨_, at0, mid "u" (.inl rfl)⟩
      · exact ⟨_, at1, mid "s" (.inr rfl)⟩
    · obtain ⟨g, m, y4, y5, rfl, hg, gl, hm⟩ := h
      refine hNX _ ?_
      clear hNX NX
      refine y_cut fun NX hNX => ?_
      (try simp only [y_var, y_c, y_op, y_un, y_and, y_or, y_not, y_if, y_isN, y_notN, y_bOf, y_bTru, y_bNot, y_bYes, y_aNil, y_aCons, y_aStar, y_tup, y_disp, y_fz, y_cb, y_cat, y_of, y_sl, y_dO0, y_dO1, y_ixN, y_lenN, y_chain, y_call0, y_call, y_callR0, y_next, y_brk, y_cnt, y_asg, y_setO, y_gNm, y_gTp, y_gsNil, y_gsCons, y_subO, y_par, y_aug, y_expr, y_app, y_ext, y_ifS, y_ret, y_retN, y_for, y_while, y_iSeq, y_iTp, y_iR1, y_iR2, y_iEn, y_iZp, y_lc, y_raise, y_un1, y_par11, y_parO1, y_cmpO, y_iEn, y_parO1, y_try, y_val, y_isX, y_first, y_call, y_call, endsX, outX, Bool.true_eq_false, reduceCtorEq, decide_true, decide_false, ix2_0, ix2_1, ix3_0, ix3_1, ix3_2, LcRun, LpRun, wipeP, restP, noX, dite_true, List.nil_append, List.cons_append, Option.getD_some, Option.getD_none, y_repr, y_tupleL, y_tupleT, y_sum, y_all, y_any, y_eqD, y_neD, y_rev, y_dn, y_orT, y_notT, y_ins, y_bits, y_bAnd, y_bOr, y_rt0, y_rtR, y_nx0, y_rtX, y_nxX, y_exX, inV2, inV3, flatD, vOf, List.all_cons, List.all_nil, Bool.and_self, sz_iff, Nat.reduceAdd, Nat.reduceLeDiff, Nat.zero_add, y_dD, y_dB, y_dI, y_dL, y_dSl, y_dSt, y_dAll0, y_dAllS, dAll_map, y_I0, y_I, y_eqI, y_eqS, y_eqB, y_neI, y_neS, y_neB, y_neg, y_ixL, y_ixT, y_min, y_max, y_abs, y_lenL, y_lenT, y_lenS, y_lenB, y_truL, y_truT, y_inL, y_inT, y_ex1, y_exO, y_exR, at0, at1, at2, at3, isNon, List.getElem?_cons_succ, List.getElem?_cons_zero, List.set_cons_succ, List.set_cons_zero, List.length_cons, List.length_nil, List.map_cons, List.map_nil, true_and, and_true, decide_eq_true_eq, Bool.not_eq_true', Bool.not_true, Bool.not_false, if_true, if_false, Bool.false_eq_true, ite_true, ite_false])
      rw [cutA_to _ _ (by decide), show (12 : Int).toNat = 12 from rfl, ← List.map_take]
      refine hNX _ ?_
      clear hNX NX
      have hf : ∀ s ∈ g.take 12, okW s := fun s hs => hg s (List.mem_of_mem_take hs)
      have fl : (g.take 12).length ≤ 12 := by rw [List.length_take]; omega
      generalize g.take 12 = f at hf fl
      refine y_cut fun NX hNX => ?_
      (try simp only [y_var, y_c, y_op, y_un, y_and, y_or, y_not, y_if, y_isN, y_notN, y_bOf, y_bTru, y_bNot, y_bYes, y_aNil, y_aCons, y_aStar, y_tup, y_disp, y_fz, y_cb, y_cat, y_of, y_sl, y_dO0, y_dO1, y_ixN, y_lenN, y_chain, y_call0, y_call, y_callR0, y_next, y_brk, y_cnt, y_asg, y_setO, y_gNm, y_gTp, y_gsNil, y_gsCons, y_subO, y_par, y_aug, y_expr, y_app, y_ext, y_ifS, y_ret, y_retN, y_for, y_while, y_iSeq, y_iTp, y_iR1, y_iR2, y_iEn, y_iZp, y_lc, y_raise, y_un1, y_par11, y_parO1, y_cmpO, y_iEn, y_parO1, y_try, y_val, y_isX, y_first, y_call, y_call, endsX, outX, Bool.true_eq_false, reduceCtorEq, decide_true, decide_false, ix2_0, ix2_1, ix3_0, ix3_1, ix3_2, LcRun, LpRun, wipeP, restP, noX, dite_true, List.nil_append, List.cons_append, Option.getD_some, Option.getD_none, y_repr, y_tupleL, y_tupleT, y_sum, y_all, y_any, y_eqD, y_neD, y_rev, y_dn, y_orT, y_notT, y_ins, y_bits, y_bAnd, y_bOr, y_rt0, y_rtR, y_nx0, y_rtX, y_nxX, y_exX, inV2, inV3, flatD, vOf, List.all_cons, List.all_nil, Bool.and_self, sz_iff, Nat.reduceAdd, Nat.reduceLeDiff, Nat.zero_add, y_dD, y_dB, y_dI, y_dL, y_dSl, y_dSt, y_dAll0, y_dAllS, dAll_map, y_I0, y_I, y_eqI, y_eqS, y_eqB, y_neI, y_neS, y_neB, y_neg, y_ixL, y_ixT, y_min, y_max, y_abs, y_lenL, y_lenT, y_lenS, y_lenB, y_truL, y_truT, y_inL, y_inT, y_ex1, y_exO, y_exR, at0, at1, at2, at3, isNon, List.getElem?_cons_succ, List.getElem?_cons_zero, List.set_cons_succ, List.set_cons_zero, List.length_cons, List.length_nil, List.map_cons, List.map_nil, true_and, and_true, decide_eq_true_eq, Bool.not_eq_true', Bool.not_true, Bool.not_false, if_true, if_false, Bool.false_eq_true, ite_true, ite_false])
      refine loop (fun i ρ => ∃ (L : List Nat) (z7 z8 : Sl), ρ = [.rng m, .a (.d (.list (c.map stD))), .a (.d (.list (f.map stD))), .a (.d (.list (wordsL.map PyData.str))), y4, y5, .own (L.map fun (j : Nat) => PyData.int j), z7, z8] ∧ L.length ≤ i ∧ L.head? = firstBad (f.take i)) ⟨[], _, _, rfl, Nat.le_refl _, rfl⟩ (fun i x ρ hx h => ?_) (fun ρ h => ?_)
      · obtain ⟨L, z7, z8, rfl, ll, hd⟩ := h
        have hi := (List.getElem?_eq_some_iff.mp hx).1
        rw [enA_len, List.length_map] at hi
        rw [enA_get (show (f.map stD)[i]? = some (stD f[i]) by rw [List.getElem?_map, List.getElem?_eq_getElem hi]; rfl)] at hx
        cases hx
        have hs := hf _ (List.getElem_mem hi)
        have e : firstBad (f.take (i + 1)) = (firstBad (f.take i)).or (if okS f[i] = true then none else some i) := by
          rw [List.take_add_one, List.getElem?_eq_getElem hi]
          exact bad_snoc (by rw [List.length_take]; omega)
        have stay : okS f[i] = true → L.head? = firstBad (f.take (i + 1)) := fun g => by rw [e, if_pos g, Option.or_none]; exact hd
        have more : okS f[i] = false → (L ++ [i]).head? = firstBad (f.take (i + 1)) := fun g => by rw [e, if_neg (by rw [g]; decide), List.head?_append, hd]; rfl
        generalize f[i] = s at hs stay more
        obtain ⟨x, k⟩ := s
        rw [show stD (x, k) = .tuple [.str x, .int k] from rfl]
        (try simp only [y_var, y_c, y_op, y_un, y_and, y_or, y_not, y_if, y_isN, y_notN, y_bOf, y_bTru, y_bNot, y_bYes, y_aNil, y_aCons, y_aStar, y_tup, y_disp, y_fz, y_cb, y_cat, y_of, y_sl, y_dO0, y_dO1, y_ixN, y_lenN, y_chain, y_call0, y_call, y_callR0, y_next, y_brk, y_cnt, y_asg, y_setO, y_gNm, y_gTp, y_gsNil, y_gsCons, y_subO, y_par, y_aug, y_expr, y_app, y_ext, y_ifS, y_ret, y_retN, y_for, y_while, y_iSeq, y_iTp, y_iR1, y_iR2, y_iEn, y_iZp, y_lc, y_raise, y_un1, y_par11, y_parO1, y_cmpO, y_iEn, y_parO1, y_try, y_val, y_isX, y_first, y_call, y_call, endsX, outX, Bool.true_eq_false, reduceCtorEq, decide_true, decide_false, ix2_0, ix2_1, ix3_0, ix3_1, ix3_2, LcRun, LpRun, wipeP, restP, noX, dite_true, List.nil_append, List.cons_append, Option.getD_some, Option.getD_none, y_repr, y_tupleL, y_tupleT, y_sum, y_all, y_any, y_eqD, y_neD, y_rev, y_dn, y_orT, y_notT, y_ins, y_bits, y_bAnd, y_bOr, y_rt0, y_rtR, y_nx0, y_rtX, y_nxX, y_exX, inV2, inV3, flatD, vOf, List.all_cons, List.all_nil, Bool.and_self, sz_iff, Nat.reduceAdd, Nat.reduceLeDiff, Nat.zero_add, y_dD, y_dB, y_dI, y_dL, y_dSl, y_dSt, y_dAll0, y_dAllS, dAll_map, y_I0, y_I, y_eqI, y_eqS, y_eqB, y_neI, y_neS, y_neB, y_neg, y_ixL, y_ixT, y_min, y_max, y_abs, y_lenL, y_lenT, y_lenS, y_lenB, y_truL, y_truT, y_inL, y_inT, y_ex1, y_exO, y_exR, at0, at1, at2, at3, isNon, List.getElem?_cons_succ, List.getElem?_cons_zero, List.set_cons_succ, List.set_cons_zero, List.length_cons, List.length_nil, List.map_cons, List.map_nil, true_and, and_true, decide_eq_true_eq, Bool.not_eq_true', Bool.not_true, Bool.not_false, if_true, if_false, Bool.false_eq_true, ite_true, ite_false])
        have lz : szL ((L.map fun (j : Nat) => PyData.int j).length + 1) := szS (m := 200) (show (L.map fun (j : Nat) => PyData.int j).length + 1 ≤ 200 by rw [List.length_map]; omega) (by decide)
        have ok : okS (x, k) = (decide (x = "add") || (decide (x = "u" ∨ x = "s") && decide (1 ≤ k))) := rfl
        by_cases h1 : x = "u" ∨ x = "s" ∨ x = "add"
        · rw [if_neg (by rw [decide_eq_true h1]; decide)]
          by_cases h2 : x = "add"
          · rw [if_neg (by rw [decide_eq_true h2]; decide)]
            exact ⟨L, _, _, rfl, Nat.le_succ_of_le ll, stay (by rw [ok, decide_eq_true h2]; rfl)⟩
          · have h3 : x = "u" ∨ x = "s" := by
              rcases h1 with h | h | h
              · exact .inl h
              · exact .inr h
              · exact absurd h h2
            rw [if_pos (by rw [decide_eq_false h2])]
            by_cases h4 : k < 1
            · rw [if_pos h4]
              exact ⟨lz, L ++ [i], _, _, by rw [List.map_append]; rfl, by rw [List.length_append]; exact Nat.succ_le_succ ll, more (by rw [ok, decide_eq_false h2, decide_eq_false (show ¬ 1 ≤ k by omega), Bool.and_false]; rfl)⟩
            · rw [if_neg h4]
              exact ⟨L, _, _, rfl, Nat.le_succ_of_le ll, stay (by rw [ok, decide_eq_true h3, decide_eq_true (show 1 ≤ k by omega), Bool.and_self, Bool.or_true])⟩
        · rw [if_pos (by rw [decide_eq_false h1])]
          exact ⟨lz, L ++ [i], _, _, by rw [List.map_append]; rfl, by rw [List.length_append]; exact Nat.succ_le_succ ll, more (by rw [ok, decide_eq_false (fun h => h1 (.inr (.inr h))), decide_eq_false (fun h => h1 (h.elim .inl fun h => .inr (.inl h)))]; rfl)⟩
      · obtain ⟨L, z7, z8, rfl, ll, hd⟩ := h
        rw [enA_len, List.length_map, List.take_length] at hd
        rw [enA_len, List.length_map] at ll
        (try simp only [y_var, y_c, y_op, y_un, y_and, y_or, y_not, y_if, y_isN, y_notN, y_bOf, y_bTru, y_bNot, y_bYes, y_aNil, y_aCons, y_aStar, y_tup, y_disp, y_fz, y_cb, y_cat, y_of, y_sl, y_dO0, y_dO1, y_ixN, y_lenN, y_chain, y_call0, y_call, y_callR0, y_next, y_brk, y_cnt, y_asg, y_setO, y_gNm, y_gTp, y_gsNil, y_gsCons, y_subO, y_par, y_aug, y_expr, y_app, y_ext, y_ifS, y_ret, y_retN, y_for, y_while, y_iSeq, y_iTp, y_iR1, y_iR2, y_iEn, y_iZp, y_lc, y_raise, y_un1, y_par11, y_parO1, y_cmpO, y_iEn, y_parO1, y_try, y_val, y_isX, y_first, y_call, y_call, endsX, outX, Bool.true_eq_false, reduceCtorEq, decide_true, decide_false, ix2_0, ix2_1, ix3_0, ix3_1, ix3_2, LcRun, LpRun, wipeP, restP, noX, dite_true, List.nil_append, List.cons_append, Option.getD_some, Option.getD_none, y_repr, y_tupleL, y_tupleT, y_sum, y_all, y_any, y_eqD, y_neD, y_rev, y_dn, y_orT, y_notT, y_ins, y_bits, y_bAnd, y_bOr, y_rt0, y_rtR, y_nx0, y_rtX, y_nxX, y_exX, inV2, inV3, flatD, vOf, List.all_cons, List.all_nil, Bool.and_self, sz_iff, Nat.reduceAdd, Nat.reduceLeDiff, Nat.zero_add, y_dD, y_dB, y_dI, y_dL, y_dSl, y_dSt, y_dAll0, y_dAllS, dAll_map, y_I0, y_I, y_eqI, y_eqS, y_eqB, y_neI, y_neS, y_neB, y_neg, y_ixL, y_ixT, y_min, y_max, y_abs, y_lenL, y_lenT, y_lenS, y_lenB, y_truL, y_truT, y_inL, y_inT, y_ex1, y_exO, y_exR, at0, at1, at2, at3, isNon, List.getElem?_cons_succ, List.getElem?_cons_zero, List.set_cons_succ, List.set_cons_zero, List.length_cons, List.length_nil, List.map_cons, List.map_nil, true_and, and_true, decide_eq_true_eq, Bool.not_eq_true', Bool.not_true, Bool.not_false, if_true, if_false, Bool.false_eq_true, ite_true, ite_false])
        refine hNX _ ?_
        clear hNX NX
        (try simp only [y_var, y_c, y_op, y_un, y_and, y_or, y_not, y_if, y_isN, y_notN, y_bOf, y_bTru, y_bNot, y_bYes, y_aNil, y_aCons, y_aStar, y_tup, y_disp, y_fz, y_cb, y_cat, y_of, y_sl, y_dO0, y_dO1, y_ixN, y_lenN, y_chain, y_call0, y_call, y_callR0, y_next, y_brk, y_cnt, y_asg, y_setO, y_gNm, y_gTp, y_gsNil, y_gsCons, y_subO, y_par, y_aug, y_expr, y_app, y_ext, y_ifS, y_ret, y_retN, y_for, y_while, y_iSeq, y_iTp, y_iR1, y_iR2, y_iEn, y_iZp, y_lc, y_raise, y_un1, y_par11, y_parO1, y_cmpO, y_iEn, y_parO1, y_try, y_val, y_isX, y_first, y_call, y_call, endsX, outX, Bool.true_eq_false, reduceCtorEq, decide_true, decide_false, ix2_0, ix2_1, ix3_0, ix3_1, ix3_2, LcRun, LpRun, wipeP, restP, noX, dite_true, List.nil_append, List.cons_append, Option.getD_some, Option.getD_none, y_repr, y_tupleL, y_tupleT, y_sum, y_all, y_any, y_eqD, y_neD, y_rev, y_dn, y_orT, y_notT, y_ins, y_bits, y_bAnd, y_bOr, y_rt0, y_rtR, y_nx0, y_rtX, y_nxX, y_exX, inV2, inV3, flatD, vOf, List.all_cons, List.all_nil, Bool.and_self, sz_iff, Nat.reduceAdd, Nat.reduceLeDiff, Nat.zero_add, y_dD, y_dB, y_dI, y_dL, y_dSl, y_dSt, y_dAll0, y_dAllS, dAll_map, y_I0, y_I, y_eqI, y_eqS, y_eqB, y_neI, y_neS, y_neB, y_neg, y_ixL, y_ixT, y_min, y_max, y_abs, y_lenL, y_lenT, y_lenS, y_lenB, y_truL, y_truT, y_inL, y_inT, y_ex1, y_exO, y_exR, at0, at1, at2, at3, isNon, List.getElem?_cons_succ, List.getElem?_cons_zero, List.set_cons_succ, List.set_cons_zero, List.length_cons, List.length_nil, List.map_cons, List.map_nil, true_and, and_true, decide_eq_true_eq, Bool.not_eq_true', Bool.not_true, Bool.not_false, if_true, if_false, Bool.false_eq_true, ite_true, ite_false])
        have ev : (PyData.list (L.map fun (j : Nat) => PyData.int j)).eqv (.list []) = L.isEmpty := by cases L <;> rfl
        rw [ev]
        refine ⟨by rw [show (L.map fun (j : Nat) => PyData.int j) = (L.map fun (j : Nat) => (j : Int)).map PyData.int by rw [List.map_map]; rfl]; exact shL0 _, rfl, ?_⟩
        have q := q f fl hf m (by omega)
        rw [← hd] at q
        cases L with
        | nil =>
          rw [if_neg (by decide)]
          exact q
        | cons j L =>
          rw [if_pos (by rfl)]
          exact ⟨_, at0, q⟩
end

end Cc

set_option Elab.async false
set_option linter.all false
set_option maxRecDepth 100000
set_option maxHeartbeats 4000000
namespace Cc
open PySem PySem.Spec PyProof.Rows L2
section
variable {P : Program} {w : World} {K : PySem.W.Frag} {mg : Str → Option Value} {base : Heap} {C : Nat → Addr} {CS : Addr}
def spLaw (K : PySem.W.Frag) : Sp := fun vs H Q _ => ∃ (a : Addr) (ns : List Int), vs = [.ref a] ∧ SqL K H a (ns.map V.int) ∧ ns.length ≤ 63 ∧ ∀ H', Q (.bl true) H'
def tailP : EndsP := ⟨fun _ => False, fun x _ => x = .d (.bool true), fun _ => False, fun _ => False, fun _ _ _ => False⟩
/-- a part of the heap that holds one list -/
theorem sq_part {H : Hp} {a : Addr} {xs : List V} (h : SqL K H a xs) : ∃ F : Hp, Same F H ∧ SqL K F a xs ∧ ∀ b o, F b = some o → okO F b o := by
  have one : ∀ o : HO, H a = some o → Same (fun b => if b = a then some o else none) H := fun o h b u e => by
    by_cases hb : b = a
    · have e : (if b = a then some o else none) = some u := e
      rw [if_pos hb] at e
      rw [hb, ← e]
      exact h
    · have e : (if b = a then some o else none) = some u := e
      rw [if_neg hb] at e
      cases e
  rcases h with (h | ⟨u, h⟩) | h
  · refine ⟨_, one _ h, .inl (.inl (if_pos rfl)), fun b o e => ?_⟩
    by_cases hb : b = a
    · have e := (if_pos hb).symm.trans e
      cases e
      trivial
    · have e := (if_neg hb).symm.trans e
      cases e
  · refine ⟨_, one _ h, .inl (.inr ⟨u, if_pos rfl⟩), fun b o e => ?_⟩
    by_cases hb : b = a
    · have e := (if_pos hb).symm.trans e
      cases e
      exact .inl ⟨_, rfl⟩
    · have e := (if_neg hb).symm.trans e
      cases e
  · exact ⟨fun _ => none, fun _ _ z => (nomatch z), .inr h, fun _ _ z => (nomatch z)⟩
/-- the draws' list has just been made -/
theorem ent_rng {F H H' : Hp} {a r : Addr} {ns : List Int} {m : Nat} (hS : SqL K F a (ns.map V.int)) (sF : Same F H) (cl : ∀ b o, F b = some o → okO F b o) (nr : H r = none) (hB : RngAt H' r 0) (s : Same H H') :
    Ent (poolG K C CS) ⟨fun b => b = r, fun b => b = r, r, 1, F, H'⟩ F H' (some (.ref a) :: some (.ref r) :: List.replicate m none) (.a (.scr ns) :: .rng 0 :: List.replicate m .un) := by
  have live : ∀ b, b = r → H' b ≠ none := fun b hb => by
    obtain ⟨_, _, _, e, _⟩ := id hB
    subst hb
    rw [e]
    exact nofun
  have noOwn : ∀ (i : Nat) (ds : List PyData), (Sl.a (.scr ns) :: .rng 0 :: List.replicate m .un)[i]? = some (Sl.own ds) → False := fun i ds h => by
    match i, h with
    | 0, h => cases h
    | 1, h => cases h
    | i + 2, h =>
      have h : (List.replicate m Sl.un)[i]? = some (Sl.own ds) := h
      rw [List.getElem?_replicate] at h
      split at h <;> cases h
  refine ⟨Same.refl _, sF.trans s, fun b o e => .inl e, fun b o e _ => e, fun b e => e, by simp, fun i sl h => ?_, fun i j a ds es h1 => (noOwn i ds h1).elim, fun b h => h, fun b h => ?_, live, fun b _ ⟨i, ds, h1, _⟩ => noOwn i ds h1, live, cl⟩
  · match i, h with
    | 0, h =>
      cases h
      exact ⟨_, rfl, a, rfl, hS⟩
    | 1, h =>
      cases h
      exact ⟨⟨rfl, rfl⟩, fun _ => Iff.rfl, hB⟩
    | i + 2, h =>
      have h : (List.replicate m Sl.un)[i]? = some sl := h
      rw [List.getElem?_replicate] at h
      split at h
      · cases h
        trivial
      · cases h
  · cases e : F b with
    | none => rfl
    | some o =>
      have := sF b o e
      subst h
      rw [nr] at this
      cases this
end

section
theorem dl_rep {Γ : Gx} {X : Cx} {W : WX} {e e1 e2 : Expr} {a b : EE} (hpe : ∀ {ta tb : TE}, PE X e1 ta → PE X e2 tb → PE X e (tOp rRep ta tb)) {ta : TE} (h1 : DE Γ X W e1 ta a) {tb : TE} (h2 : DE Γ X W e2 tb b) : DL Γ X W e (tOp rRep ta tb) (lRep a b) := by
  obtain ⟨p1, d1⟩ := h1
  obtain ⟨p2, d2⟩ := h2
  refine ⟨hpe p1 p2, fun f F H σ ρ Q R Xx E q o ox => ?_⟩
  refine d1 f F H σ ρ _ _ Xx E q (fun x ρ1 F1 H1 v1 q1 E1 s1 r1 => ?_) ox
  refine d2 f F1 H1 σ ρ1 _ _ Xx E1 q1 (fun y ρ2 F2 H2 v2 q2 E2 s2 r2 => ?_) ox
  obtain ⟨u, rfl, q2'⟩ := dL_of q2
  clear q2; have q2 := q2'
  obtain ⟨k, rfl, k0, k1, hz, q2'⟩ := dI_of q2
  clear q2; have q2 := q2'
  cases r2
  cases r1 with
  | lst hs ha =>
    refine ⟨_, _, _, rfl, rfl, E2.s1 _ _ (s2 _ _ hs), k0, k1, by rw [ha.len]; exact hz, fun p np => ?_⟩
    have rep : ∀ m : Nat, DqAll Γ.K F2 (List.replicate m _).flatten (List.replicate m u).flatten := fun m => by
      induction m with
      | zero => exact .nil
      | succ m ih =>
        rw [List.replicate_succ, List.replicate_succ, List.flatten_cons, List.flatten_cons]
        exact (DqAll.same s2 u ha).app ih
    exact o _ _ _ _ _ _ q2 (E2.raw np) (s1.trans s2) (own_new E2 (rep k.toNat) np)
theorem y_rep {a b : EE} {ρ : List Sl} {RL : List PyData → List Sl → Prop} {Xx : XX} : lRep a b ρ RL Xx ↔ a ρ (fun x ρ1 => b ρ1 (fun y ρ2 => dL x fun u => dI y fun k => -(2 ^ 63) ≤ k ∧ k < 2 ^ 63 ∧ szL (u.length * k.toNat) ∧ RL (List.replicate k.toNat u).flatten ρ2) Xx) Xx := Iff.rfl
end

abbrev s_law : Stmt := topS 27
theorem sc_law : FnScope ["script", "rng", "lap", "some", "wrong", "first", "kept", "one", "due", "way"] ["script"] (defScope s_law) := ⟨rfl, rfl, rfl, by decide +kernel, rfl, by decide +kernel, by decide +kernel⟩
section
theorem okW_bnd {c : Ch} (h : ∀ s ∈ c, okW s) (hl : c.length ≤ 12) : bndC c := ⟨by omega, fun s hs => by
  obtain ⟨_, _, _, b⟩ := h s hs
  by_cases e : s.1 = "add"
  · rw [if_pos e]; exact Int.le_refl _
  · rw [if_neg e]
    have := b e
    unfold big
    omega⟩
theorem wordsA_len : ∀ x ∈ wordsA, x.length ≤ 8 ∧ smallD (.str x) := by
  intro x hx
  unfold wordsA at hx
  simp only [List.mem_cons, List.not_mem_nil, or_false] at hx
  rcases hx with e | e | e | e | e | e | e | e | e | e | e | e <;> rw [e] <;> exact ⟨by decide, by simp only [smallD]; decide +kernel⟩
theorem rok_W {c : Ch} (h : ∀ s ∈ c, okW s) (hl : c.length ≤ 12) : Rok (.list (c.map stD)) := by
  have e30 : (10 : Int) ^ 30 = 1000000000000000000000000000000 := by decide
  have sm : ∀ {c : Ch}, (∀ s ∈ c, okW s) → smallL (c.map stD) ∧ PyData.bulkAll (c.map stD) ≤ 20 * c.length ∧ PyData.depthAll (c.map stD) ≤ 1 := fun {c} => by
    induction c with
    | nil => exact fun _ => ⟨trivial, Nat.le_refl _, by simp [PyData.depthAll]⟩
    | cons p c ih =>
      intro h
      obtain ⟨i1, i2, i3⟩ := ih fun q hq => h q (List.mem_cons_of_mem _ hq)
      have o := h p (List.mem_cons_self ..)
      obtain ⟨o1, o2⟩ := wordsA_len _ o.1
      have ob : p.2.natAbs ≤ 1000000000000000000000000000000 := by
        have := o.2.1
        have := o.2.2.1
        omega
      refine ⟨⟨?_, i1⟩, ?_, ?_⟩
      · simp only [stD, smallD, smallL] at o2 ⊢
        exact ⟨o2, Nat.lt_of_le_of_lt ob (by decide +kernel), trivial⟩
      · have e : p.1.cps.size = p.1.length := rfl
        rw [List.map_cons, List.length_cons]
        simp only [stD, PyData.bulk, PyData.bulkAll]
        omega
      · rw [List.map_cons]
        simp only [PyData.depthAll, PyData.depth, stD]
        omega
  obtain ⟨a1, a2, a3⟩ := sm h
  refine rok_of (by simp only [smallD]; exact a1) ?_ ?_
  · simp only [PyData.depth]
    omega
  · simp only [PyData.bulk]
    omega
def tabS : Ch := [("add", 5), ("add", 0), ("u", 0), ("s", -3), ("", 4), ("U", 8), ("u", 1), ("s", 64), ("us", 4)]
theorem tab_at {v : Int} (v0 : 0 ≤ v) (v1 : v < 9) : ∃ s ∈ tabS, atI (tabS.map stD) v = some (stD s) := by
  obtain ⟨k, rfl⟩ : ∃ k : Nat, v = k := ⟨v.toNat, by omega⟩
  have hk : k < tabS.length := by show k < 9; omega
  exact ⟨tabS[k], List.getElem_mem hk, atI_nat (j := k) (by rw [List.getElem?_map, List.getElem?_eq_getElem hk]; rfl)⟩
theorem tab_ok : ∀ s ∈ tabS, -64 ≤ s.2 ∧ s.2 ≤ 64 := by decide +kernel
theorem errI_small {f : Ch} (fl : f.length ≤ 12) : smallD (errI (firstBad f)) ∧ PyData.depth (errI (firstBad f)) ≤ 0 ∧ PyData.bulk (errI (firstBad f)) ≤ 1 := by
  cases e : firstBad f with
  | none => exact ⟨trivial, Nat.le_refl _, by decide⟩
  | some i =>
    have : i < f.length := by
      unfold firstBad at e
      exact (List.findIdx?_eq_some_iff_getElem.mp e).1
    refine ⟨?_, Nat.le_refl _, by simp [errI, PyData.bulk]⟩
    show ((i : Nat) : Int).natAbs < 10 ^ 500
    exact Nat.lt_of_le_of_lt (show ((i : Nat) : Int).natAbs ≤ 12 by omega) (by decide +kernel)
theorem rok_same {x : PyData} (h : smallD x ∧ PyData.depth x ≤ 0 ∧ PyData.bulk x ≤ 1) (n : Nat) (hn : n ≤ 3) : Rok (.list (List.replicate n x)) := by
  have sm : ∀ n, smallL (List.replicate n x) ∧ PyData.bulkAll (List.replicate n x) ≤ 4 * n ∧ PyData.depthAll (List.replicate n x) ≤ 0 := fun n => by
    induction n with
    | zero => exact ⟨trivial, Nat.le_refl _, by simp [PyData.depthAll]⟩
    | succ n ih =>
      rw [List.replicate_succ]
      refine ⟨⟨h.1, ih.1⟩, ?_, ?_⟩
      · simp only [PyData.bulkAll]
        omega
      · simp only [PyData.depthAll]
        omega
  obtain ⟨a1, a2, a3⟩ := sm n
  refine rok_of (by simp only [smallD]; exact a1) ?_ ?_
  · simp only [PyData.depth]
    omega
  · simp only [PyData.bulk]
    omega
variable {P : Program} {w : World} {K : PySem.W.Frag} {mg : Str → Option Value} {base : Heap} {C : Nat → Addr} {CS : Addr}
theorem p_law (m_range : mg "range" = none) (m_min : mg "min" = none) (m_len : mg "len" = none) (m_repr : mg "repr" = none)
    (h__law_rng : Pr P w K mg base CX0 1 "_law_rng" ["script"] (spRng K)) (h__law_draw : Pr P w K mg base CX0 1 "_law_draw" ["rng", "limit"] (spP (poolG K C CS) true phDraw)) (h__law_any : Pr P w K mg base CX0 2 "_law_any" ["rng"] (spP (poolG K C CS) true phAny)) (h__law_chain : Pr P w K mg base CX0 4 "_law_chain" ["rng", "many", "most"] (spP (poolG K C CS) true phChain))
    (h__law_spoilt : Pr P w K mg base CX0 2 "_law_spoilt" ["rng", "some"] (spP (poolG K C CS) true phSpoil)) (h__law_told : Pr P w K mg base CX0 7 "_law_told" ["way", "first", "some"] (spP (poolG K C CS) false phTold)) : PrAt P w K mg base CX0 8 "law" s_law ["script"] (spLaw K) := by
  refine mkA sc_law (fun vs H Q E h => ?_) (fun f cdv A outer s H vs Q E hG hr h => ?_)
  · obtain ⟨_, _, rfl, _⟩ := h
    rfl
  · obtain ⟨a, ns, rfl, hS, hl, q⟩ := h
    have nd := sc_law.nd
    have tail : ∃ t κ, DSs (poolG K C CS) (cxOf CX0 P w K mg base ["script", "rng", "lap", "some", "wrong", "first", "kept", "one", "due", "way"] "law" (defScope s_law) f cdv A outer s H E).nox (fun _ _ _ _ => False) ((defBody s_law).drop 1) t κ ∧ κ (.a (.scr ns) :: .rng 0 :: List.replicate 8 .un) tailP := by
      refine ⟨_, _, (dss_cons (fun h h' => pss_cons h h') (ds_for (fun hi hg hb => ps_for PassesOwn.never rfl hi hg hb) (di_r1 (by exact fun h => pi_range1 rfl m_range (pa_cons h pa_nil)) (de_op opd_int0 (fun h h' => pe_op op_add h h') (de_c pe_int (fun _ => .int _)) (de_cb cd_min (fun h => pe_callB (call_min2 rfl) (by rfl) m_min (by decide +kernel) h) (da_cons (fun h t => pa_cons h t) (de_c pe_int (fun _ => .int _)) (da_cons (fun h t => pa_cons h t) (de_lenN (pe_callB call_len_seq (by rfl) m_len (by decide +kernel) (pa_cons (pv 0) pa_nil))) (da_nil pa_nil)))))) (dg_name (pg_name (i := 2) nd rfl (.inl rfl))) (dss_cons (fun h h' => pss_cons h h') (ds_asg (fun h g => ps_asg h g) (de_callR0 (i := 1) (fun h => pe_P h__law_spoilt hr hG (by rfl) (pa_cons (pv 1) h)) (da_cons (fun h t => pa_cons h t) (de_callR0 (i := 1) (fun h => pe_P h__law_chain hr hG (by rfl) (pa_cons (pv 1) h)) (da_cons (fun h t => pa_cons h t) (de_c pe_int (fun _ => .int _)) (da_cons (fun h t => pa_cons h t) (de_c pe_int (fun _ => .int _)) (da_nil pa_nil)))) (da_nil pa_nil))) (dg_unl (n := 2) (fun h => pg_unl rfl h) (dgs_cons (fun g h => pgs_cons g h) (dg_name (pg_name (i := 3) nd rfl (.inr rfl))) (dgs_cons (fun g h => pgs_cons g h) (dg_name (pg_name (i := 4) nd rfl (.inl rfl))) (dgs_nil pgs_nil))))) (dss_cons (fun h h' => pss_cons h h') (ds_asg (fun h g => ps_asg h g) (de_tup (fun h => pe_tup h) (da_cons (fun h t => pa_cons h t) (de_callR0 (i := 1) (fun h => pe_P h__law_any hr hG (by rfl) (pa_cons (pv 1) h)) (da_nil pa_nil)) (da_cons (fun h t => pa_cons h t) (de_cb cd_repr (fun h => pe_callB (cr_repD hG hr.units) (by rfl) m_repr (by decide +kernel) h) (da_cons (fun h t => pa_cons h t) (de_var (pv 3)) (da_nil pa_nil))) (da_nil pa_nil)))) (dg_tup (n := 2) (fun h => pg_tup rfl h) (dgs_cons (fun g h => pgs_cons g h) (dg_name (pg_name (i := 5) nd rfl (.inr rfl))) (dgs_cons (fun g h => pgs_cons g h) (dg_name (pg_name (i := 6) nd rfl (.inl rfl))) (dgs_nil pgs_nil))))) (dss_cons (fun h h' => pss_cons h h') (ds_if (fun h a b => ps_if h a b) (dt_pw (fun h => PW.pt h) (dw_or (fun h h' => pw_or h h') (dt_cmp opd_ne (fun h h' => pt_cmpR op_ne h h' (nomark _)) (de_cb cd_repr (fun h => pe_callB (cr_repD hG hr.units) (by rfl) m_repr (by decide +kernel) h) (da_cons (fun h t => pa_cons h t) (de_fz (dl_comp (own := [("way", 9)])  rfl nd (di_r1 (by exact fun h => pi_range1 rfl m_range (pa_cons h pa_nil)) (de_c pe_int (fun _ => .int _))) (blkOk_by (own := [("way", 9)]) (N := ["script", "rng", "lap", "some", "wrong", "first", "kept", "one", "due", "way"]) (sc := defScope s_law) (by decide +kernel)) (fun _ _ _ _ _ => (dg_name (pg_name (i := 9) nd rfl (.inl rfl)))) (fun _ _ _ _ _ => dts_nil) (fun _ _ _ _ _ => (de_call0 (fun h => pe_P h__law_told hr hG (by rfl) h) (da_cons (fun h t => pa_cons h t) (de_var (pv 9)) (da_cons (fun h t => pa_cons h t) (de_var (pv 5)) (da_cons (fun h t => pa_cons h t) (de_var (pv 3)) (da_nil pa_nil)))))))) (da_nil pa_nil))) (de_cb cd_repr (fun h => pe_callB (cr_repD hG hr.units) (by rfl) m_repr (by decide +kernel) h) (da_cons (fun h t => pa_cons h t) (de_fz (dl_rep (fun h h' => pe_op op_rep h h') (de_fz (dl_disp (fun h => pe_lst h) (da_cons (fun h t => pa_cons h t) (de_var (pv 4)) (da_nil pa_nil)))) (de_c pe_int (fun _ => .int _)))) (da_nil pa_nil)))) (dw_or1 (fun h => pw_or1 h) (dt_cmp opd_ne (fun h h' => pt_cmpR op_ne h h' (nomark _)) (de_cb cd_repr (fun h => pe_callB (cr_repD hG hr.units) (by rfl) m_repr (by decide +kernel) h) (da_cons (fun h t => pa_cons h t) (de_var (pv 3)) (da_nil pa_nil))) (de_var (pv 6)))))) (dss_one (fun h => pss_one h) (ds_ret (fun h => ps_ret h) (de_c pe_bl (fun _ => .bl _)))) (dss_nil pss_nil)) (dss_cons (fun h h' => pss_cons h h') (ds_set (i := 7) (fun h => ps_set nd rfl (.inr rfl) h) (de_fz (dl_disp (fun h => pe_lst h) (da_cons (fun h t => pa_cons h t) (de_tup (fun h => pe_tup h) (da_cons (fun h t => pa_cons h t) (de_c pe_str (fun _ => .str _)) (da_cons (fun h t => pa_cons h t) (de_c pe_int (fun _ => .int _)) (da_nil pa_nil)))) (da_cons (fun h t => pa_cons h t) (de_tup (fun h => pe_tup h) (da_cons (fun h t => pa_cons h t) (de_c pe_str (fun _ => .str _)) (da_cons (fun h t => pa_cons h t) (de_c pe_int (fun _ => .int _)) (da_nil pa_nil)))) (da_cons (fun h t => pa_cons h t) (de_tup (fun h => pe_tup h) (da_cons (fun h t => pa_cons h t) (de_c pe_str (fun _ => .str _)) (da_cons (fun h t => pa_cons h t) (de_c pe_int (fun _ => .int _)) (da_nil pa_nil)))) (da_cons (fun h t => pa_cons h t) (de_tup (fun h => pe_tup h) (da_cons (fun h t => pa_cons h t) (de_c pe_str (fun _ => .str _)) (da_cons (fun h t => pa_cons h t) (de_un (fun h => pe_un un_neg h) (de_c pe_int (fun _ => .int _))) (da_nil pa_nil)))) (da_cons (fun h t => pa_cons h t) (de_tup (fun h => pe_tup h) (da_cons (fun h t => pa_cons h t) (de_c pe_str (fun _ => .str _)) (da_cons (fun h t => pa_cons h t) (de_c pe_int (fun _ => .int _)) (da_nil pa_nil)))) (da_cons (fun h t => pa_cons h t) (de_tup (fun h => pe_tup h) (da_cons (fun h t => pa_cons h t) (de_c pe_str (fun _ => .str _)) (da_cons (fun h t => pa_cons h t) (de_c pe_int (fun _ => .int _)) (da_nil pa_nil)))) (da_cons (fun h t => pa_cons h t) (de_tup (fun h => pe_tup h) (da_cons (fun h t => pa_cons h t) (de_c pe_str (fun _ => .str _)) (da_cons (fun h t => pa_cons h t) (de_c pe_int (fun _ => .int _)) (da_nil pa_nil)))) (da_cons (fun h t => pa_cons h t) (de_tup (fun h => pe_tup h) (da_cons (fun h t => pa_cons h t) (de_c pe_str (fun _ => .str _)) (da_cons (fun h t => pa_cons h t) (de_c pe_int (fun _ => .int _)) (da_nil pa_nil)))) (da_cons (fun h t => pa_cons h t) (de_tup (fun h => pe_tup h) (da_cons (fun h t => pa_cons h t) (de_c pe_str (fun _ => .str _)) (da_cons (fun h t => pa_cons h t) (de_c pe_int (fun _ => .int _)) (da_nil pa_nil)))) (da_nil pa_nil))))))))))))) (dss_cons (fun h h' => pss_cons h h') (ds_set (i := 7) (fun h => ps_set nd rfl (.inr rfl) h) (de_ixN (fun h => pe_ix (ixSK rfl) (pv 7) h (fun _ _ => rfl)) (de_callR0 (i := 1) (fun h => pe_P h__law_draw hr hG (by rfl) (pa_cons (pv 1) h)) (da_cons (fun h t => pa_cons h t) (de_c pe_int (fun _ => .int _)) (da_nil pa_nil))))) (dss_cons (fun h h' => pss_cons h h') (ds_set (i := 8) (fun h => ps_set nd rfl (.inl rfl) h) (de_ifExp (fun h a b => pe_ifExp h a b) (dt_pw (fun h => PW.pt h) (dw_and (fun h h' => pw_and h h') (dt_cmp opd_in (fun h h' => pt_cmpR op_in_seq h h' (by rfl)) (de_ixN (fun h => pe_ix (ixSK rfl) (pv 7) h (fun _ _ => rfl)) (de_c pe_int (fun _ => .int _))) (de_fz (dl_disp (fun h => pe_lst h) (da_cons (fun h t => pa_cons h t) (de_c pe_str (fun _ => .str _)) (da_cons (fun h t => pa_cons h t) (de_c pe_str (fun _ => .str _)) (da_nil pa_nil)))))) (dw_and1 (fun h => pw_and1 h) (dt_cmp opd_bl0 (fun h h' => pt_cmpR op_gt h h' (nomark _)) (de_ixN (fun h => pe_ix (ixSK rfl) (pv 7) h (fun _ _ => rfl)) (de_c pe_int (fun _ => .int _))) (de_c pe_int (fun _ => .int _)))))) (de_c pe_non (fun _ => .non)) (de_c pe_int (fun _ => .int _)))) (dss_one (fun h => pss_one h) (ds_if (fun h a b => ps_if h a b) (dt_cmp opd_ne (fun h h' => pt_cmpR op_ne h h' (nomark _)) (de_cb cd_repr (fun h => pe_callB (cr_repD hG hr.units) (by rfl) m_repr (by decide +kernel) h) (da_cons (fun h t => pa_cons h t) (de_fz (dl_comp (own := [("way", 9)])  rfl nd (di_tup (fun h => pi_tup h) (de_tup (fun h => pe_tup h) (da_cons (fun h t => pa_cons h t) (de_c pe_int (fun _ => .int _)) (da_cons (fun h t => pa_cons h t) (de_c pe_int (fun _ => .int _)) (da_nil pa_nil))))) (blkOk_by (own := [("way", 9)]) (N := ["script", "rng", "lap", "some", "wrong", "first", "kept", "one", "due", "way"]) (sc := defScope s_law) (by decide +kernel)) (fun _ _ _ _ _ => (dg_name (pg_name (i := 9) nd rfl (.inl rfl)))) (fun _ _ _ _ _ => dts_nil) (fun _ _ _ _ _ => (de_call0 (fun h => pe_P h__law_told hr hG (by rfl) h) (da_cons (fun h t => pa_cons h t) (de_var (pv 9)) (da_cons (fun h t => pa_cons h t) (de_var (pv 5)) (da_cons (fun h t => pa_cons h t) (de_fz (dl_disp (fun h => pe_lst h) (da_cons (fun h t => pa_cons h t) (de_var (pv 7)) (da_nil pa_nil)))) (da_nil pa_nil)))))))) (da_nil pa_nil))) (de_cb cd_repr (fun h => pe_callB (cr_repD hG hr.units) (by rfl) m_repr (by decide +kernel) h) (da_cons (fun h t => pa_cons h t) (de_fz (dl_disp (fun h => pe_lst h) (da_cons (fun h t => pa_cons h t) (de_var (pv 8)) (da_cons (fun h t => pa_cons h t) (de_var (pv 8)) (da_nil pa_nil))))) (da_nil pa_nil)))) (dss_one (fun h => pss_one h) (ds_ret (fun h => ps_ret h) (de_c pe_bl (fun _ => .bl _)))) (dss_nil pss_nil)))))))))) (dss_one (fun h => pss_one h) (ds_ret (fun h => ps_ret h) (de_and (fun h h' => pe_and h h') (de_op opd_eq (fun h h' => pe_cmpR op_eq h h' (nomark _)) (de_call0 (fun h => pe_P h__law_told hr hG (by rfl) h) (da_cons (fun h t => pa_cons h t) (de_c pe_int (fun _ => .int _)) (da_cons (fun h t => pa_cons h t) (de_c pe_int (fun _ => .int _)) (da_cons (fun h t => pa_cons h t) (de_fz (dl_disp (fun h => pe_lst h) (da_cons (fun h t => pa_cons h t) (de_tup (fun h => pe_tup h) (da_cons (fun h t => pa_cons h t) (de_c pe_str (fun _ => .str _)) (da_cons (fun h t => pa_cons h t) (de_c pe_int (fun _ => .int _)) (da_nil pa_nil)))) (da_cons (fun h t => pa_cons h t) (de_tup (fun h => pe_tup h) (da_cons (fun h t => pa_cons h t) (de_c pe_str (fun _ => .str _)) (da_cons (fun h t => pa_cons h t) (de_c pe_int (fun _ => .int _)) (da_nil pa_nil)))) (da_cons (fun h t => pa_cons h t) (de_tup (fun h => pe_tup h) (da_cons (fun h t => pa_cons h t) (de_c pe_str (fun _ => .str _)) (da_cons (fun h t => pa_cons h t) (de_c pe_int (fun _ => .int _)) (da_nil pa_nil)))) (da_nil pa_nil)))))) (da_nil pa_nil))))) (de_c pe_int (fun _ => .int _))) (de_one (fun h => pe_one h) (de_op opd_eq (fun h h' => pe_cmpR op_eq h h' (nomark _)) (de_call0 (fun h => pe_P h__law_told hr hG (by rfl) h) (da_cons (fun h t => pa_cons h t) (de_c pe_int (fun _ => .int _)) (da_cons (fun h t => pa_cons h t) (de_c pe_int (fun _ => .int _)) (da_cons (fun h t => pa_cons h t) (de_fz (dl_disp (fun h => pe_lst h) (da_cons (fun h t => pa_cons h t) (de_tup (fun h => pe_tup h) (da_cons (fun h t => pa_cons h t) (de_c pe_str (fun _ => .str _)) (da_cons (fun h t => pa_cons h t) (de_un (fun h => pe_un un_neg h) (de_c pe_int (fun _ => .int _))) (da_nil pa_nil)))) (da_nil pa_nil)))) (da_nil pa_nil))))) (de_c pe_int (fun _ => .int _)))))))), ?_⟩
      show (sSeq _ _) [.a (.scr ns), .rng 0, .un, .un, .un, .un, .un, .un, .un, .un] _
      refine y_cut fun NX hNX => ?_
      (try simp only [y_var, y_c, y_op, y_un, y_and, y_or, y_not, y_if, y_isN, y_notN, y_bOf, y_bTru, y_bNot, y_bYes, y_aNil, y_aCons, y_aStar, y_tup, y_disp, y_fz, y_cb, y_cat, y_of, y_sl, y_dO0, y_dO1, y_ixN, y_lenN, y_chain, y_call0, y_call, y_callR0, y_next, y_brk, y_cnt, y_asg, y_setO, y_gNm, y_gTp, y_gsNil, y_gsCons, y_subO, y_par, y_aug, y_expr, y_app, y_ext, y_ifS, y_ret, y_retN, y_for, y_while, y_iSeq, y_iTp, y_iR1, y_iR2, y_iEn, y_iZp, y_lc, y_raise, y_un1, y_rep, y_par11, y_parO1, y_cmpO, y_iEn, y_parO1, y_try, y_val, y_isX, y_first, y_call, y_call, endsX, outX, Bool.true_eq_false, reduceCtorEq, decide_true, decide_false, ix2_0, ix2_1, ix3_0, ix3_1, ix3_2, LcRun, LpRun, wipeP, restP, noX, dite_true, List.nil_append, List.cons_append, Option.getD_some, Option.getD_none, y_repr, y_tupleL, y_tupleT, y_sum, y_all, y_any, y_eqD, y_neD, y_rev, y_dn, y_orT, y_notT, y_ins, y_bits, y_bAnd, y_bOr, y_rt0, y_rtR, y_nx0, y_rtX, y_nxX, y_exX, inV2, inV3, flatD, vOf, List.all_cons, List.all_nil, Bool.and_self, sz_iff, Nat.reduceAdd, Nat.reduceLeDiff, Nat.zero_add, y_dD, y_dB, y_dI, y_dL, y_dSl, y_dSt, y_dAll0, y_dAllS, dAll_map, y_I0, y_I, y_eqI, y_eqS, y_eqB, y_neI, y_neS, y_neB, y_neg, y_ixL, y_ixT, y_min, y_max, y_abs, y_lenL, y_lenT, y_lenS, y_lenB, y_truL, y_truT, y_inL, y_inT, y_ex1, y_exO, y_exR, at0, at1, at2, at3, isNon, List.getElem?_cons_succ, List.getElem?_cons_zero, List.set_cons_succ, List.set_cons_zero, List.length_cons, List.length_nil, List.map_cons, List.map_nil, true_and, and_true, decide_eq_true_eq, Bool.not_eq_true', Bool.not_true, Bool.not_false, if_true, if_false, Bool.false_eq_true, ite_true, ite_false])
      refine ⟨by (repeat' split) <;> omega, by (repeat' split) <;> omega, ?_⟩
      have hlen : ((6 : Int) + if (ns.length : Int) < 12 then (ns.length : Int) else 12).toNat ≤ 20 := by (repeat' split) <;> omega
      generalize ((6 : Int) + if (ns.length : Int) < 12 then (ns.length : Int) else 12).toNat = n0 at hlen ⊢
      refine loopQ (fun i ρ => ∃ (m : Nat) (y2 y3 y4 y5 y6 y7 y8 : Sl), ρ = [.a (.scr ns), .rng m, y2, y3, y4, y5, y6, y7, y8, .un] ∧ m ≤ i * 3000) ⟨0, _, _, _, _, _, _, _, rfl, by omega⟩ (fun BK i ρ hi h => ?_) (fun ρ h => ?_)
      · obtain ⟨m, y2, y3, y4, y5, y6, y7, y8, rfl, hm⟩ := h
        (try simp only [y_var, y_c, y_op, y_un, y_and, y_or, y_not, y_if, y_isN, y_notN, y_bOf, y_bTru, y_bNot, y_bYes, y_aNil, y_aCons, y_aStar, y_tup, y_disp, y_fz, y_cb, y_cat, y_of, y_sl, y_dO0, y_dO1, y_ixN, y_lenN, y_chain, y_call0, y_call, y_callR0, y_next, y_brk, y_cnt, y_asg, y_setO, y_gNm, y_gTp, y_gsNil, y_gsCons, y_subO, y_par, y_aug, y_expr, y_app, y_ext, y_ifS, y_ret, y_retN, y_for, y_while, y_iSeq, y_iTp, y_iR1, y_iR2, y_iEn, y_iZp, y_lc, y_raise, y_un1, y_rep, y_par11, y_parO1, y_cmpO, y_iEn, y_parO1, y_try, y_val, y_isX, y_first, y_call, y_call, endsX, outX, Bool.true_eq_false, reduceCtorEq, decide_true, decide_false, ix2_0, ix2_1, ix3_0, ix3_1, ix3_2, LcRun, LpRun, wipeP, restP, noX, dite_true, List.nil_append, List.cons_append, Option.getD_some, Option.getD_none, y_repr, y_tupleL, y_tupleT, y_sum, y_all, y_any, y_eqD, y_neD, y_rev, y_dn, y_orT, y_notT, y_ins, y_bits, y_bAnd, y_bOr, y_rt0, y_rtR, y_nx0, y_rtX, y_nxX, y_exX, inV2, inV3, flatD, vOf, List.all_cons, List.all_nil, Bool.and_self, sz_iff, Nat.reduceAdd, Nat.reduceLeDiff, Nat.zero_add, y_dD, y_dB, y_dI, y_dL, y_dSl, y_dSt, y_dAll0, y_dAllS, dAll_map, y_I0, y_I, y_eqI, y_eqS, y_eqB, y_neI, y_neS, y_neB, y_neg, y_ixL, y_ixT, y_min, y_max, y_abs, y_lenL, y_lenT, y_lenS, y_lenB, y_truL, y_truT, y_inL, y_inT, y_ex1, y_exO, y_exR, at0, at1, at2, at3, isNon, List.getElem?_cons_succ, List.getElem?_cons_zero, List.set_cons_succ, List.set_cons_zero, List.length_cons, List.length_nil, List.map_cons, List.map_nil, true_and, and_true, decide_eq_true_eq, Bool.not_eq_true', Bool.not_true, Bool.not_false, if_true, if_false, Bool.false_eq_true, ite_true, ite_false])
        refine y_cut fun NX2 hNX2 => ?_
        (try simp only [y_var, y_c, y_op, y_un, y_and, y_or, y_not, y_if, y_isN, y_notN, y_bOf, y_bTru, y_bNot, y_bYes, y_aNil, y_aCons, y_aStar, y_tup, y_disp, y_fz, y_cb, y_cat, y_of, y_sl, y_dO0, y_dO1, y_ixN, y_lenN, y_chain, y_call0, y_call, y_callR0, y_next, y_brk, y_cnt, y_asg, y_setO, y_gNm, y_gTp, y_gsNil, y_gsCons, y_subO, y_par, y_aug, y_expr, y_app, y_ext, y_ifS, y_ret, y_retN, y_for, y_while, y_iSeq, y_iTp, y_iR1, y_iR2, y_iEn, y_iZp, y_lc, y_raise, y_un1, y_rep, y_par11, y_parO1, y_cmpO, y_iEn, y_parO1, y_try, y_val, y_isX, y_first, y_call, y_call, endsX, outX, Bool.true_eq_false, reduceCtorEq, decide_true, decide_false, ix2_0, ix2_1, ix3_0, ix3_1, ix3_2, LcRun, LpRun, wipeP, restP, noX, dite_true, List.nil_append, List.cons_append, Option.getD_some, Option.getD_none, y_repr, y_tupleL, y_tupleT, y_sum, y_all, y_any, y_eqD, y_neD, y_rev, y_dn, y_orT, y_notT, y_ins, y_bits, y_bAnd, y_bOr, y_rt0, y_rtR, y_nx0, y_rtX, y_nxX, y_exX, inV2, inV3, flatD, vOf, List.all_cons, List.all_nil, Bool.and_self, sz_iff, Nat.reduceAdd, Nat.reduceLeDiff, Nat.zero_add, y_dD, y_dB, y_dI, y_dL, y_dSl, y_dSt, y_dAll0, y_dAllS, dAll_map, y_I0, y_I, y_eqI, y_eqS, y_eqB, y_neI, y_neS, y_neB, y_neg, y_ixL, y_ixT, y_min, y_max, y_abs, y_lenL, y_lenT, y_lenS, y_lenB, y_truL, y_truT, y_inL, y_inT, y_ex1, y_exO, y_exR, at0, at1, at2, at3, isNon, List.getElem?_cons_succ, List.getElem?_cons_zero, List.set_cons_succ, List.set_cons_zero, List.length_cons, List.length_nil, List.map_cons, List.map_nil, true_and, and_true, decide_eq_true_eq, Bool.not_eq_true', Bool.not_true, Bool.not_false, if_true, if_false, Bool.false_eq_true, ite_true, ite_false])
        refine ⟨12, 64, rfl, by decide, by decide, by decide, by decide, by omega, fun c hc hcl m1 hm1 => ?_⟩
        refine ⟨c, rfl, hc, by omega, by omega, fun f fl hf m2 hm2 => ?_⟩
        (try simp only [y_var, y_c, y_op, y_un, y_and, y_or, y_not, y_if, y_isN, y_notN, y_bOf, y_bTru, y_bNot, y_bYes, y_aNil, y_aCons, y_aStar, y_tup, y_disp, y_fz, y_cb, y_cat, y_of, y_sl, y_dO0, y_dO1, y_ixN, y_lenN, y_chain, y_call0, y_call, y_callR0, y_next, y_brk, y_cnt, y_asg, y_setO, y_gNm, y_gTp, y_gsNil, y_gsCons, y_subO, y_par, y_aug, y_expr, y_app, y_ext, y_ifS, y_ret, y_retN, y_for, y_while, y_iSeq, y_iTp, y_iR1, y_iR2, y_iEn, y_iZp, y_lc, y_raise, y_un1, y_rep, y_par11, y_parO1, y_cmpO, y_iEn, y_parO1, y_try, y_val, y_isX, y_first, y_call, y_call, endsX, outX, Bool.true_eq_false, reduceCtorEq, decide_true, decide_false, ix2_0, ix2_1, ix3_0, ix3_1, ix3_2, LcRun, LpRun, wipeP, restP, noX, dite_true, List.nil_append, List.cons_append, Option.getD_some, Option.getD_none, y_repr, y_tupleL, y_tupleT, y_sum, y_all, y_any, y_eqD, y_neD, y_rev, y_dn, y_orT, y_notT, y_ins, y_bits, y_bAnd, y_bOr, y_rt0, y_rtR, y_nx0, y_rtX, y_nxX, y_exX, inV2, inV3, flatD, vOf, List.all_cons, List.all_nil, Bool.and_self, sz_iff, Nat.reduceAdd, Nat.reduceLeDiff, Nat.zero_add, y_dD, y_dB, y_dI, y_dL, y_dSl, y_dSt, y_dAll0, y_dAllS, dAll_map, y_I0, y_I, y_eqI, y_eqS, y_eqB, y_neI, y_neS, y_neB, y_neg, y_ixL, y_ixT, y_min, y_max, y_abs, y_lenL, y_lenT, y_lenS, y_lenB, y_truL, y_truT, y_inL, y_inT, y_ex1, y_exO, y_exR, at0, at1, at2, at3, isNon, List.getElem?_cons_succ, List.getElem?_cons_zero, List.set_cons_succ, List.set_cons_zero, List.length_cons, List.length_nil, List.map_cons, List.map_nil, true_and, and_true, decide_eq_true_eq, Bool.not_eq_true', Bool.not_true, Bool.not_false, if_true, if_false, Bool.false_eq_true, ite_true, ite_false])
        refine hNX2 _ ?_
        clear hNX2 NX2 hc hcl c
        rw [show chD f = .list (f.map stD) from rfl]
        have rkf := rok_W hf fl
        have bnf := okW_bnd hf fl
        refine y_cut fun NX2 hNX2 => ?_
        (try simp only [y_var, y_c, y_op, y_un, y_and, y_or, y_not, y_if, y_isN, y_notN, y_bOf, y_bTru, y_bNot, y_bYes, y_aNil, y_aCons, y_aStar, y_tup, y_disp, y_fz, y_cb, y_cat, y_of, y_sl, y_dO0, y_dO1, y_ixN, y_lenN, y_chain, y_call0, y_call, y_callR0, y_next, y_brk, y_cnt, y_asg, y_setO, y_gNm, y_gTp, y_gsNil, y_gsCons, y_subO, y_par, y_aug, y_expr, y_app, y_ext, y_ifS, y_ret, y_retN, y_for, y_while, y_iSeq, y_iTp, y_iR1, y_iR2, y_iEn, y_iZp, y_lc, y_raise, y_un1, y_rep, y_par11, y_parO1, y_cmpO, y_iEn, y_parO1, y_try, y_val, y_isX, y_first, y_call, y_call, endsX, outX, Bool.true_eq_false, reduceCtorEq, decide_true, decide_false, ix2_0, ix2_1, ix3_0, ix3_1, ix3_2, LcRun, LpRun, wipeP, restP, noX, dite_true, List.nil_append, List.cons_append, Option.getD_some, Option.getD_none, y_repr, y_tupleL, y_tupleT, y_sum, y_all, y_any, y_eqD, y_neD, y_rev, y_dn, y_orT, y_notT, y_ins, y_bits, y_bAnd, y_bOr, y_rt0, y_rtR, y_nx0, y_rtX, y_nxX, y_exX, inV2, inV3, flatD, vOf, List.all_cons, List.all_nil, Bool.and_self, sz_iff, Nat.reduceAdd, Nat.reduceLeDiff, Nat.zero_add, y_dD, y_dB, y_dI, y_dL, y_dSl, y_dSt, y_dAll0, y_dAllS, dAll_map, y_I0, y_I, y_eqI, y_eqS, y_eqB, y_neI, y_neS, y_neB, y_neg, y_ixL, y_ixT, y_min, y_max, y_abs, y_lenL, y_lenT, y_lenS, y_lenB, y_truL, y_truT, y_inL, y_inT, y_ex1, y_exO, y_exR, at0, at1, at2, at3, isNon, List.getElem?_cons_succ, List.getElem?_cons_zero, List.set_cons_succ, List.set_cons_zero, List.length_cons, List.length_nil, List.map_cons, List.map_nil, true_and, and_true, decide_eq_true_eq, Bool.not_eq_true', Bool.not_true, Bool.not_false, if_true, if_false, Bool.false_eq_true, ite_true, ite_false])
        refine ⟨rfl, by omega, fun y y0 y1 => ?_⟩
        (try simp only [y_var, y_c, y_op, y_un, y_and, y_or, y_not, y_if, y_isN, y_notN, y_bOf, y_bTru, y_bNot, y_bYes, y_aNil, y_aCons, y_aStar, y_tup, y_disp, y_fz, y_cb, y_cat, y_of, y_sl, y_dO0, y_dO1, y_ixN, y_lenN, y_chain, y_call0, y_call, y_callR0, y_next, y_brk, y_cnt, y_asg, y_setO, y_gNm, y_gTp, y_gsNil, y_gsCons, y_subO, y_par, y_aug, y_expr, y_app, y_ext, y_ifS, y_ret, y_retN, y_for, y_while, y_iSeq, y_iTp, y_iR1, y_iR2, y_iEn, y_iZp, y_lc, y_raise, y_un1, y_rep, y_par11, y_parO1, y_cmpO, y_iEn, y_parO1, y_try, y_val, y_isX, y_first, y_call, y_call, endsX, outX, Bool.true_eq_false, reduceCtorEq, decide_true, decide_false, ix2_0, ix2_1, ix3_0, ix3_1, ix3_2, LcRun, LpRun, wipeP, restP, noX, dite_true, List.nil_append, List.cons_append, Option.getD_some, Option.getD_none, y_repr, y_tupleL, y_tupleT, y_sum, y_all, y_any, y_eqD, y_neD, y_rev, y_dn, y_orT, y_notT, y_ins, y_bits, y_bAnd, y_bOr, y_rt0, y_rtR, y_nx0, y_rtX, y_nxX, y_exX, inV2, inV3, flatD, vOf, List.all_cons, List.all_nil, Bool.and_self, sz_iff, Nat.reduceAdd, Nat.reduceLeDiff, Nat.zero_add, y_dD, y_dB, y_dI, y_dL, y_dSl, y_dSt, y_dAll0, y_dAllS, dAll_map, y_I0, y_I, y_eqI, y_eqS, y_eqB, y_neI, y_neS, y_neB, y_neg, y_ixL, y_ixT, y_min, y_max, y_abs, y_lenL, y_lenT, y_lenS, y_lenB, y_truL, y_truT, y_inL, y_inT, y_ex1, y_exO, y_exR, at0, at1, at2, at3, isNon, List.getElem?_cons_succ, List.getElem?_cons_zero, List.set_cons_succ, List.set_cons_zero, List.length_cons, List.length_nil, List.map_cons, List.map_nil, true_and, and_true, decide_eq_true_eq, Bool.not_eq_true', Bool.not_true, Bool.not_false, if_true, if_false, Bool.false_eq_true, ite_true, ite_false])
        refine ⟨rkf.1, rkf.2.1, rkf.2.2, hNX2 _ ?_⟩
        clear hNX2 NX2
        refine y_cut fun NX2 hNX2 => ?_
        (try simp only [y_var, y_c, y_op, y_un, y_and, y_or, y_not, y_if, y_isN, y_notN, y_bOf, y_bTru, y_bNot, y_bYes, y_aNil, y_aCons, y_aStar, y_tup, y_disp, y_fz, y_cb, y_cat, y_of, y_sl, y_dO0, y_dO1, y_ixN, y_lenN, y_chain, y_call0, y_call, y_callR0, y_next, y_brk, y_cnt, y_asg, y_setO, y_gNm, y_gTp, y_gsNil, y_gsCons, y_subO, y_par, y_aug, y_expr, y_app, y_ext, y_ifS, y_ret, y_retN, y_for, y_while, y_iSeq, y_iTp, y_iR1, y_iR2, y_iEn, y_iZp, y_lc, y_raise, y_un1, y_rep, y_par11, y_parO1, y_cmpO, y_iEn, y_parO1, y_try, y_val, y_isX, y_first, y_call, y_call, endsX, outX, Bool.true_eq_false, reduceCtorEq, decide_true, decide_false, ix2_0, ix2_1, ix3_0, ix3_1, ix3_2, LcRun, LpRun, wipeP, restP, noX, dite_true, List.nil_append, List.cons_append, Option.getD_some, Option.getD_none, y_repr, y_tupleL, y_tupleT, y_sum, y_all, y_any, y_eqD, y_neD, y_rev, y_dn, y_orT, y_notT, y_ins, y_bits, y_bAnd, y_bOr, y_rt0, y_rtR, y_nx0, y_rtX, y_nxX, y_exX, inV2, inV3, flatD, vOf, List.all_cons, List.all_nil, Bool.and_self, sz_iff, Nat.reduceAdd, Nat.reduceLeDiff, Nat.zero_add, y_dD, y_dB, y_dI, y_dL, y_dSl, y_dSt, y_dAll0, y_dAllS, dAll_map, y_I0, y_I, y_eqI, y_eqS, y_eqB, y_neI, y_neS, y_neB, y_neg, y_ixL, y_ixT, y_min, y_max, y_abs, y_lenL, y_lenT, y_lenS, y_lenB, y_truL, y_truT, y_inL, y_inT, y_ex1, y_exO, y_exR, at0, at1, at2, at3, isNon, List.getElem?_cons_succ, List.getElem?_cons_zero, List.set_cons_succ, List.set_cons_zero, List.length_cons, List.length_nil, List.map_cons, List.map_nil, true_and, and_true, decide_eq_true_eq, Bool.not_eq_true', Bool.not_true, Bool.not_false, if_true, if_false, Bool.false_eq_true, ite_true, ite_false])
        refine ⟨by decide, by decide, ?_⟩
        show LcP ((List.range 3).map fun i => Cc.A.d (.int (0 + (i : Nat)))) _ _ _ _ _ _
        refine compF (xs := List.range 3) (enc := fun i => Cc.A.d (.int (0 + (i : Nat)))) (fun (k : Nat) => some (errI (firstBad f))) (fun v hv => by simp only [List.mem_cons, List.not_mem_nil, or_false] at hv; first | (subst hv; exact trivial) | (rcases hv with rfl | rfl <;> exact trivial) | (rcases hv with rfl | rfl | rfl <;> exact trivial)) (by rw [sizeLine_eq]; decide) (fun k hk acc KK hz hK => ?_) ?_
        · have hk3 := List.mem_range.mp hk
          rw [Int.zero_add]
          (try simp only [y_var, y_c, y_op, y_un, y_and, y_or, y_not, y_if, y_isN, y_notN, y_bOf, y_bTru, y_bNot, y_bYes, y_aNil, y_aCons, y_aStar, y_tup, y_disp, y_fz, y_cb, y_cat, y_of, y_sl, y_dO0, y_dO1, y_ixN, y_lenN, y_chain, y_call0, y_call, y_callR0, y_next, y_brk, y_cnt, y_asg, y_setO, y_gNm, y_gTp, y_gsNil, y_gsCons, y_subO, y_par, y_aug, y_expr, y_app, y_ext, y_ifS, y_ret, y_retN, y_for, y_while, y_iSeq, y_iTp, y_iR1, y_iR2, y_iEn, y_iZp, y_lc, y_raise, y_un1, y_rep, y_par11, y_parO1, y_cmpO, y_iEn, y_parO1, y_try, y_val, y_isX, y_first, y_call, y_call, endsX, outX, Bool.true_eq_false, reduceCtorEq, decide_true, decide_false, ix2_0, ix2_1, ix3_0, ix3_1, ix3_2, LcRun, LpRun, wipeP, restP, noX, dite_true, List.nil_append, List.cons_append, Option.getD_some, Option.getD_none, y_repr, y_tupleL, y_tupleT, y_sum, y_all, y_any, y_eqD, y_neD, y_rev, y_dn, y_orT, y_notT, y_ins, y_bits, y_bAnd, y_bOr, y_rt0, y_rtR, y_nx0, y_rtX, y_nxX, y_exX, inV2, inV3, flatD, vOf, List.all_cons, List.all_nil, Bool.and_self, sz_iff, Nat.reduceAdd, Nat.reduceLeDiff, Nat.zero_add, y_dD, y_dB, y_dI, y_dL, y_dSl, y_dSt, y_dAll0, y_dAllS, dAll_map, y_I0, y_I, y_eqI, y_eqS, y_eqB, y_neI, y_neS, y_neB, y_neg, y_ixL, y_ixT, y_min, y_max, y_abs, y_lenL, y_lenT, y_lenS, y_lenB, y_truL, y_truT, y_inL, y_inT, y_ex1, y_exO, y_exR, at0, at1, at2, at3, isNon, List.getElem?_cons_succ, List.getElem?_cons_zero, List.set_cons_succ, List.set_cons_zero, List.length_cons, List.length_nil, List.map_cons, List.map_nil, true_and, and_true, decide_eq_true_eq, Bool.not_eq_true', Bool.not_true, Bool.not_false, if_true, if_false, Bool.false_eq_true, ite_true, ite_false])
          exact ⟨_, y, f, rfl, bnf, .inl ⟨by omega, by omega, hz, hK⟩⟩
        · rw [fm_some]
          (try simp only [y_var, y_c, y_op, y_un, y_and, y_or, y_not, y_if, y_isN, y_notN, y_bOf, y_bTru, y_bNot, y_bYes, y_aNil, y_aCons, y_aStar, y_tup, y_disp, y_fz, y_cb, y_cat, y_of, y_sl, y_dO0, y_dO1, y_ixN, y_lenN, y_chain, y_call0, y_call, y_callR0, y_next, y_brk, y_cnt, y_asg, y_setO, y_gNm, y_gTp, y_gsNil, y_gsCons, y_subO, y_par, y_aug, y_expr, y_app, y_ext, y_ifS, y_ret, y_retN, y_for, y_while, y_iSeq, y_iTp, y_iR1, y_iR2, y_iEn, y_iZp, y_lc, y_raise, y_un1, y_rep, y_par11, y_parO1, y_cmpO, y_iEn, y_parO1, y_try, y_val, y_isX, y_first, y_call, y_call, endsX, outX, Bool.true_eq_false, reduceCtorEq, decide_true, decide_false, ix2_0, ix2_1, ix3_0, ix3_1, ix3_2, LcRun, LpRun, wipeP, restP, noX, dite_true, List.nil_append, List.cons_append, Option.getD_some, Option.getD_none, y_repr, y_tupleL, y_tupleT, y_sum, y_all, y_any, y_eqD, y_neD, y_rev, y_dn, y_orT, y_notT, y_ins, y_bits, y_bAnd, y_bOr, y_rt0, y_rtR, y_nx0, y_rtX, y_nxX, y_exX, inV2, inV3, flatD, vOf, List.all_cons, List.all_nil, Bool.and_self, sz_iff, Nat.reduceAdd, Nat.reduceLeDiff, Nat.zero_add, y_dD, y_dB, y_dI, y_dL, y_dSl, y_dSt, y_dAll0, y_dAllS, dAll_map, y_I0, y_I, y_eqI, y_eqS, y_eqB, y_neI, y_neS, y_neB, y_neg, y_ixL, y_ixT, y_min, y_max, y_abs, y_lenL, y_lenT, y_lenS, y_lenB, y_truL, y_truT, y_inL, y_inT, y_ex1, y_exO, y_exR, at0, at1, at2, at3, isNon, List.getElem?_cons_succ, List.getElem?_cons_zero, List.set_cons_succ, List.set_cons_zero, List.length_cons, List.length_nil, List.map_cons, List.map_nil, true_and, and_true, decide_eq_true_eq, Bool.not_eq_true', Bool.not_true, Bool.not_false, if_true, if_false, Bool.false_eq_true, ite_true, ite_false])
          rw [show List.map (fun k => errI (firstBad f)) (List.range 3) = List.replicate 3 (errI (firstBad f)) from rfl, show (List.replicate (Int.toNat 3) [errI (firstBad f)]).flatten = List.replicate 3 (errI (firstBad f)) from rfl, decide_eq_true rfl, if_neg (by decide)]
          have rk3 := rok_same (errI_small fl) 3 (by decide)
          refine ⟨rk3.1, rk3.2.1, rk3.2.2, by decide, by decide, szS (m := 100) (by decide) (by decide), rk3.1, rk3.2.1, rk3.2.2, rkf.1, rkf.2.1, rkf.2.2, hNX2 _ ?_⟩
          clear hNX2 NX2 rk3
          refine y_cut fun NX2 hNX2 => ?_
          (try simp only [y_var, y_c, y_op, y_un, y_and, y_or, y_not, y_if, y_isN, y_notN, y_bOf, y_bTru, y_bNot, y_bYes, y_aNil, y_aCons, y_aStar, y_tup, y_disp, y_fz, y_cb, y_cat, y_of, y_sl, y_dO0, y_dO1, y_ixN, y_lenN, y_chain, y_call0, y_call, y_callR0, y_next, y_brk, y_cnt, y_asg, y_setO, y_gNm, y_gTp, y_gsNil, y_gsCons, y_subO, y_par, y_aug, y_expr, y_app, y_ext, y_ifS, y_ret, y_retN, y_for, y_while, y_iSeq, y_iTp, y_iR1, y_iR2, y_iEn, y_iZp, y_lc, y_raise, y_un1, y_rep, y_par11, y_parO1, y_cmpO, y_iEn, y_parO1, y_try, y_val, y_isX, y_first, y_call, y_call, endsX, outX, Bool.true_eq_false, reduceCtorEq, decide_true, decide_false, ix2_0, ix2_1, ix3_0, ix3_1, ix3_2, LcRun, LpRun, wipeP, restP, noX, dite_true, List.nil_append, List.cons_append, Option.getD_some, Option.getD_none, y_repr, y_tupleL, y_tupleT, y_sum, y_all, y_any, y_eqD, y_neD, y_rev, y_dn, y_orT, y_notT, y_ins, y_bits, y_bAnd, y_bOr, y_rt0, y_rtR, y_nx0, y_rtX, y_nxX, y_exX, inV2, inV3, flatD, vOf, List.all_cons, List.all_nil, Bool.and_self, sz_iff, Nat.reduceAdd, Nat.reduceLeDiff, Nat.zero_add, y_dD, y_dB, y_dI, y_dL, y_dSl, y_dSt, y_dAll0, y_dAllS, dAll_map, y_I0, y_I, y_eqI, y_eqS, y_eqB, y_neI, y_neS, y_neB, y_neg, y_ixL, y_ixT, y_min, y_max, y_abs, y_lenL, y_lenT, y_lenS, y_lenB, y_truL, y_truT, y_inL, y_inT, y_ex1, y_exO, y_exR, at0, at1, at2, at3, isNon, List.getElem?_cons_succ, List.getElem?_cons_zero, List.set_cons_succ, List.set_cons_zero, List.length_cons, List.length_nil, List.map_cons, List.map_nil, true_and, and_true, decide_eq_true_eq, Bool.not_eq_true', Bool.not_true, Bool.not_false, if_true, if_false, Bool.false_eq_true, ite_true, ite_false])
          refine hNX2 _ ?_
          clear hNX2 NX2
          refine y_cut fun NX2 hNX2 => ?_
          (try simp only [y_var, y_c, y_op, y_un, y_and, y_or, y_not, y_if, y_isN, y_notN, y_bOf, y_bTru, y_bNot, y_bYes, y_aNil, y_aCons, y_aStar, y_tup, y_disp, y_fz, y_cb, y_cat, y_of, y_sl, y_dO0, y_dO1, y_ixN, y_lenN, y_chain, y_call0, y_call, y_callR0, y_next, y_brk, y_cnt, y_asg, y_setO, y_gNm, y_gTp, y_gsNil, y_gsCons, y_subO, y_par, y_aug, y_expr, y_app, y_ext, y_ifS, y_ret, y_retN, y_for, y_while, y_iSeq, y_iTp, y_iR1, y_iR2, y_iEn, y_iZp, y_lc, y_raise, y_un1, y_rep, y_par11, y_parO1, y_cmpO, y_iEn, y_parO1, y_try, y_val, y_isX, y_first, y_call, y_call, endsX, outX, Bool.true_eq_false, reduceCtorEq, decide_true, decide_false, ix2_0, ix2_1, ix3_0, ix3_1, ix3_2, LcRun, LpRun, wipeP, restP, noX, dite_true, List.nil_append, List.cons_append, Option.getD_some, Option.getD_none, y_repr, y_tupleL, y_tupleT, y_sum, y_all, y_any, y_eqD, y_neD, y_rev, y_dn, y_orT, y_notT, y_ins, y_bits, y_bAnd, y_bOr, y_rt0, y_rtR, y_nx0, y_rtX, y_nxX, y_exX, inV2, inV3, flatD, vOf, List.all_cons, List.all_nil, Bool.and_self, sz_iff, Nat.reduceAdd, Nat.reduceLeDiff, Nat.zero_add, y_dD, y_dB, y_dI, y_dL, y_dSl, y_dSt, y_dAll0, y_dAllS, dAll_map, y_I0, y_I, y_eqI, y_eqS, y_eqB, y_neI, y_neS, y_neB, y_neg, y_ixL, y_ixT, y_min, y_max, y_abs, y_lenL, y_lenT, y_lenS, y_lenB, y_truL, y_truT, y_inL, y_inT, y_ex1, y_exO, y_exR, at0, at1, at2, at3, isNon, List.getElem?_cons_succ, List.getElem?_cons_zero, List.set_cons_succ, List.set_cons_zero, List.length_cons, List.length_nil, List.map_cons, List.map_nil, true_and, and_true, decide_eq_true_eq, Bool.not_eq_true', Bool.not_true, Bool.not_false, if_true, if_false, Bool.false_eq_true, ite_true, ite_false])
          refine ⟨9, rfl, by omega, by omega, by decide, fun v v0 v1 => ?_⟩
          (try simp only [y_var, y_c, y_op, y_un, y_and, y_or, y_not, y_if, y_isN, y_notN, y_bOf, y_bTru, y_bNot, y_bYes, y_aNil, y_aCons, y_aStar, y_tup, y_disp, y_fz, y_cb, y_cat, y_of, y_sl, y_dO0, y_dO1, y_ixN, y_lenN, y_chain, y_call0, y_call, y_callR0, y_next, y_brk, y_cnt, y_asg, y_setO, y_gNm, y_gTp, y_gsNil, y_gsCons, y_subO, y_par, y_aug, y_expr, y_app, y_ext, y_ifS, y_ret, y_retN, y_for, y_while, y_iSeq, y_iTp, y_iR1, y_iR2, y_iEn, y_iZp, y_lc, y_raise, y_un1, y_rep, y_par11, y_parO1, y_cmpO, y_iEn, y_parO1, y_try, y_val, y_isX, y_first, y_call, y_call, endsX, outX, Bool.true_eq_false, reduceCtorEq, decide_true, decide_false, ix2_0, ix2_1, ix3_0, ix3_1, ix3_2, LcRun, LpRun, wipeP, restP, noX, dite_true, List.nil_append, List.cons_append, Option.getD_some, Option.getD_none, y_repr, y_tupleL, y_tupleT, y_sum, y_all, y_any, y_eqD, y_neD, y_rev, y_dn, y_orT, y_notT, y_ins, y_bits, y_bAnd, y_bOr, y_rt0, y_rtR, y_nx0, y_rtX, y_nxX, y_exX, inV2, inV3, flatD, vOf, List.all_cons, List.all_nil, Bool.and_self, sz_iff, Nat.reduceAdd, Nat.reduceLeDiff, Nat.zero_add, y_dD, y_dB, y_dI, y_dL, y_dSl, y_dSt, y_dAll0, y_dAllS, dAll_map, y_I0, y_I, y_eqI, y_eqS, y_eqB, y_neI, y_neS, y_neB, y_neg, y_ixL, y_ixT, y_min, y_max, y_abs, y_lenL, y_lenT, y_lenS, y_lenB, y_truL, y_truT, y_inL, y_inT, y_ex1, y_exO, y_exR, at0, at1, at2, at3, isNon, List.getElem?_cons_succ, List.getElem?_cons_zero, List.set_cons_succ, List.set_cons_zero, List.length_cons, List.length_nil, List.map_cons, List.map_nil, true_and, and_true, decide_eq_true_eq, Bool.not_eq_true', Bool.not_true, Bool.not_false, if_true, if_false, Bool.false_eq_true, ite_true, ite_false])
          obtain ⟨⟨x, k⟩, hs, es⟩ := tab_at v0 v1
          obtain ⟨k0, k1⟩ := tab_ok _ hs
          refine ⟨_, es, hNX2 _ ?_⟩
          clear hNX2 NX2 es hs
          rw [show stD (x, k) = .tuple [.str x, .int k] from rfl]
          refine y_cut fun NX2 hNX2 => ?_
          (try simp only [y_var, y_c, y_op, y_un, y_and, y_or, y_not, y_if, y_isN, y_notN, y_bOf, y_bTru, y_bNot, y_bYes, y_aNil, y_aCons, y_aStar, y_tup, y_disp, y_fz, y_cb, y_cat, y_of, y_sl, y_dO0, y_dO1, y_ixN, y_lenN, y_chain, y_call0, y_call, y_callR0, y_next, y_brk, y_cnt, y_asg, y_setO, y_gNm, y_gTp, y_gsNil, y_gsCons, y_subO, y_par, y_aug, y_expr, y_app, y_ext, y_ifS, y_ret, y_retN, y_for, y_while, y_iSeq, y_iTp, y_iR1, y_iR2, y_iEn, y_iZp, y_lc, y_raise, y_un1, y_rep, y_par11, y_parO1, y_cmpO, y_iEn, y_parO1, y_try, y_val, y_isX, y_first, y_call, y_call, endsX, outX, Bool.true_eq_false, reduceCtorEq, decide_true, decide_false, ix2_0, ix2_1, ix3_0, ix3_1, ix3_2, LcRun, LpRun, wipeP, restP, noX, dite_true, List.nil_append, List.cons_append, Option.getD_some, Option.getD_none, y_repr, y_tupleL, y_tupleT, y_sum, y_all, y_any, y_eqD, y_neD, y_rev, y_dn, y_orT, y_notT, y_ins, y_bits, y_bAnd, y_bOr, y_rt0, y_rtR, y_nx0, y_rtX, y_nxX, y_exX, inV2, inV3, flatD, vOf, List.all_cons, List.all_nil, Bool.and_self, sz_iff, Nat.reduceAdd, Nat.reduceLeDiff, Nat.zero_add, y_dD, y_dB, y_dI, y_dL, y_dSl, y_dSt, y_dAll0, y_dAllS, dAll_map, y_I0, y_I, y_eqI, y_eqS, y_eqB, y_neI, y_neS, y_neB, y_neg, y_ixL, y_ixT, y_min, y_max, y_abs, y_lenL, y_lenT, y_lenS, y_lenB, y_truL, y_truT, y_inL, y_inT, y_ex1, y_exO, y_exR, at0, at1, at2, at3, isNon, List.getElem?_cons_succ, List.getElem?_cons_zero, List.set_cons_succ, List.set_cons_zero, List.length_cons, List.length_nil, List.map_cons, List.map_nil, true_and, and_true, decide_eq_true_eq, Bool.not_eq_true', Bool.not_true, Bool.not_false, if_true, if_false, Bool.false_eq_true, ite_true, ite_false])
          have dn : ∀ d : PyData, d = (if isC x k = true then .none else .int 0) → NX2 [Sl.a (Cc.A.scr ns), Sl.rng (m2 + 7 + 1), Sl.a (Cc.A.d (PyData.int (0 + (i : Nat)))), Sl.a (Cc.A.d (PyData.list (List.map stD f))), Sl.a (Cc.A.d (errI (firstBad f))), Sl.a (Cc.A.d (PyData.int y)),
              Sl.a (Cc.A.d (PyData.str (PyData.list (List.map stD f)).shown)), Sl.a (Cc.A.d (PyData.tuple [PyData.str x, PyData.int k])), Sl.a (Cc.A.d d), Sl.un] := fun d ed => by
            refine hNX2 _ ?_
            clear hNX2 NX2
            have sd : smallD d ∧ PyData.depth d ≤ 0 ∧ PyData.bulk d ≤ 1 := by
              rw [ed]
              split
              · exact ⟨trivial, Nat.le_refl _, by decide⟩
              · exact ⟨by simp only [smallD]; decide +kernel, Nat.le_refl _, by decide⟩
            (try simp only [y_var, y_c, y_op, y_un, y_and, y_or, y_not, y_if, y_isN, y_notN, y_bOf, y_bTru, y_bNot, y_bYes, y_aNil, y_aCons, y_aStar, y_tup, y_disp, y_fz, y_cb, y_cat, y_of, y_sl, y_dO0, y_dO1, y_ixN, y_lenN, y_chain, y_call0, y_call, y_callR0, y_next, y_brk, y_cnt, y_asg, y_setO, y_gNm, y_gTp, y_gsNil, y_gsCons, y_subO, y_par, y_aug, y_expr, y_app, y_ext, y_ifS, y_ret, y_retN, y_for, y_while, y_iSeq, y_iTp, y_iR1, y_iR2, y_iEn, y_iZp, y_lc, y_raise, y_un1, y_rep, y_par11, y_parO1, y_cmpO, y_iEn, y_parO1, y_try, y_val, y_isX, y_first, y_call, y_call, endsX, outX, Bool.true_eq_false, reduceCtorEq, decide_true, decide_false, ix2_0, ix2_1, ix3_0, ix3_1, ix3_2, LcRun, LpRun, wipeP, restP, noX, dite_true, List.nil_append, List.cons_append, Option.getD_some, Option.getD_none, y_repr, y_tupleL, y_tupleT, y_sum, y_all, y_any, y_eqD, y_neD, y_rev, y_dn, y_orT, y_notT, y_ins, y_bits, y_bAnd, y_bOr, y_rt0, y_rtR, y_nx0, y_rtX, y_nxX, y_exX, inV2, inV3, flatD, vOf, List.all_cons, List.all_nil, Bool.and_self, sz_iff, Nat.reduceAdd, Nat.reduceLeDiff, Nat.zero_add, y_dD, y_dB, y_dI, y_dL, y_dSl, y_dSt, y_dAll0, y_dAllS, dAll_map, y_I0, y_I, y_eqI, y_eqS, y_eqB, y_neI, y_neS, y_neB, y_neg, y_ixL, y_ixT, y_min, y_max, y_abs, y_lenL, y_lenT, y_lenS, y_lenB, y_truL, y_truT, y_inL, y_inT, y_ex1, y_exO, y_exR, at0, at1, at2, at3, isNon, List.getElem?_cons_succ, List.getElem?_cons_zero, List.set_cons_succ, List.set_cons_zero, List.length_cons, List.length_nil, List.map_cons, List.map_nil, true_and, and_true, decide_eq_true_eq, Bool.not_eq_true', Bool.not_true, Bool.not_false, if_true, if_false, Bool.false_eq_true, ite_true, ite_false])
            show LcP (([3, 4] : List Int).map fun i => Cc.A.d (.int i)) _ _ _ _ _ _
            refine compF (xs := ([3, 4] : List Int)) (enc := fun i => Cc.A.d (.int i)) (fun _ => some d) (fun v hv => by simp only [List.mem_cons, List.not_mem_nil, or_false] at hv; first | (subst hv; exact trivial) | (rcases hv with rfl | rfl <;> exact trivial) | (rcases hv with rfl | rfl | rfl <;> exact trivial)) (by rw [sizeLine_eq]; decide) (fun t ht acc KK hz hK => ?_) ?_
            · have ht4 : 3 ≤ t ∧ t ≤ 4 := by
                simp only [List.mem_cons, List.not_mem_nil, or_false] at ht
                omega
              (try simp only [y_var, y_c, y_op, y_un, y_and, y_or, y_not, y_if, y_isN, y_notN, y_bOf, y_bTru, y_bNot, y_bYes, y_aNil, y_aCons, y_aStar, y_tup, y_disp, y_fz, y_cb, y_cat, y_of, y_sl, y_dO0, y_dO1, y_ixN, y_lenN, y_chain, y_call0, y_call, y_callR0, y_next, y_brk, y_cnt, y_asg, y_setO, y_gNm, y_gTp, y_gsNil, y_gsCons, y_subO, y_par, y_aug, y_expr, y_app, y_ext, y_ifS, y_ret, y_retN, y_for, y_while, y_iSeq, y_iTp, y_iR1, y_iR2, y_iEn, y_iZp, y_lc, y_raise, y_un1, y_rep, y_par11, y_parO1, y_cmpO, y_iEn, y_parO1, y_try, y_val, y_isX, y_first, y_call, y_call, endsX, outX, Bool.true_eq_false, reduceCtorEq, decide_true, decide_false, ix2_0, ix2_1, ix3_0, ix3_1, ix3_2, LcRun, LpRun, wipeP, restP, noX, dite_true, List.nil_append, List.cons_append, Option.getD_some, Option.getD_none, y_repr, y_tupleL, y_tupleT, y_sum, y_all, y_any, y_eqD, y_neD, y_rev, y_dn, y_orT, y_notT, y_ins, y_bits, y_bAnd, y_bOr, y_rt0, y_rtR, y_nx0, y_rtX, y_nxX, y_exX, inV2, inV3, flatD, vOf, List.all_cons, List.all_nil, Bool.and_self, sz_iff, Nat.reduceAdd, Nat.reduceLeDiff, Nat.zero_add, y_dD, y_dB, y_dI, y_dL, y_dSl, y_dSt, y_dAll0, y_dAllS, dAll_map, y_I0, y_I, y_eqI, y_eqS, y_eqB, y_neI, y_neS, y_neB, y_neg, y_ixL, y_ixT, y_min, y_max, y_abs, y_lenL, y_lenT, y_lenS, y_lenB, y_truL, y_truT, y_inL, y_inT, y_ex1, y_exO, y_exR, at0, at1, at2, at3, isNon, List.getElem?_cons_succ, List.getElem?_cons_zero, List.set_cons_succ, List.set_cons_zero, List.length_cons, List.length_nil, List.map_cons, List.map_nil, true_and, and_true, decide_eq_true_eq, Bool.not_eq_true', Bool.not_true, Bool.not_false, if_true, if_false, Bool.false_eq_true, ite_true, ite_false])
              exact ⟨t, y, [(x, k)], rfl, ⟨by show 1 ≤ 900; decide, fun s hs => by
                rw [List.mem_singleton.mp hs]
                unfold big
                split <;> dsimp only <;> omega⟩, .inr ⟨ht4.1, ht4.2, (x, k), rfl, by dsimp only; unfold big; omega, by rw [show isC (x, k).1 (x, k).2 = isC x k from rfl, ← ed]; exact ⟨hz, hK⟩⟩⟩
            · rw [fm_some]
              (try simp only [y_var, y_c, y_op, y_un, y_and, y_or, y_not, y_if, y_isN, y_notN, y_bOf, y_bTru, y_bNot, y_bYes, y_aNil, y_aCons, y_aStar, y_tup, y_disp, y_fz, y_cb, y_cat, y_of, y_sl, y_dO0, y_dO1, y_ixN, y_lenN, y_chain, y_call0, y_call, y_callR0, y_next, y_brk, y_cnt, y_asg, y_setO, y_gNm, y_gTp, y_gsNil, y_gsCons, y_subO, y_par, y_aug, y_expr, y_app, y_ext, y_ifS, y_ret, y_retN, y_for, y_while, y_iSeq, y_iTp, y_iR1, y_iR2, y_iEn, y_iZp, y_lc, y_raise, y_un1, y_rep, y_par11, y_parO1, y_cmpO, y_iEn, y_parO1, y_try, y_val, y_isX, y_first, y_call, y_call, endsX, outX, Bool.true_eq_false, reduceCtorEq, decide_true, decide_false, ix2_0, ix2_1, ix3_0, ix3_1, ix3_2, LcRun, LpRun, wipeP, restP, noX, dite_true, List.nil_append, List.cons_append, Option.getD_some, Option.getD_none, y_repr, y_tupleL, y_tupleT, y_sum, y_all, y_any, y_eqD, y_neD, y_rev, y_dn, y_orT, y_notT, y_ins, y_bits, y_bAnd, y_bOr, y_rt0, y_rtR, y_nx0, y_rtX, y_nxX, y_exX, inV2, inV3, flatD, vOf, List.all_cons, List.all_nil, Bool.and_self, sz_iff, Nat.reduceAdd, Nat.reduceLeDiff, Nat.zero_add, y_dD, y_dB, y_dI, y_dL, y_dSl, y_dSt, y_dAll0, y_dAllS, dAll_map, y_I0, y_I, y_eqI, y_eqS, y_eqB, y_neI, y_neS, y_neB, y_neg, y_ixL, y_ixT, y_min, y_max, y_abs, y_lenL, y_lenT, y_lenS, y_lenB, y_truL, y_truT, y_inL, y_inT, y_ex1, y_exO, y_exR, at0, at1, at2, at3, isNon, List.getElem?_cons_succ, List.getElem?_cons_zero, List.set_cons_succ, List.set_cons_zero, List.length_cons, List.length_nil, List.map_cons, List.map_nil, true_and, and_true, decide_eq_true_eq, Bool.not_eq_true', Bool.not_true, Bool.not_false, if_true, if_false, Bool.false_eq_true, ite_true, ite_false])
              have rk2 := rok_same sd 2 (by decide)
              have rk2 : Rok (.list [d, d]) := rk2
              exact ⟨rk2.1, rk2.2.1, rk2.2.2, rk2.1, rk2.2.1, rk2.2.2, _, _, _, _, _, _, _, _, rfl, by omega⟩
          by_cases h1 : x = "u" ∨ x = "s"
          · rw [if_pos h1]
            by_cases h2 : 0 < k
            · rw [if_pos h2]
              exact dn _ (by unfold isC; rw [decide_eq_true h1, decide_eq_true (show 1 ≤ k by omega)]; rfl)
            · rw [if_neg h2]
              exact dn _ (by unfold isC; rw [decide_eq_false (show ¬ 1 ≤ k by omega), Bool.and_false]; rfl)
          · rw [if_neg h1]
            exact dn _ (by unfold isC; rw [decide_eq_false h1]; rfl)
      · obtain ⟨m, y2, y3, y4, y5, y6, y7, y8, rfl, hm⟩ := h
        refine hNX _ ?_
        clear hNX NX
        (try simp only [y_var, y_c, y_op, y_un, y_and, y_or, y_not, y_if, y_isN, y_notN, y_bOf, y_bTru, y_bNot, y_bYes, y_aNil, y_aCons, y_aStar, y_tup, y_disp, y_fz, y_cb, y_cat, y_of, y_sl, y_dO0, y_dO1, y_ixN, y_lenN, y_chain, y_call0, y_call, y_callR0, y_next, y_brk, y_cnt, y_asg, y_setO, y_gNm, y_gTp, y_gsNil, y_gsCons, y_subO, y_par, y_aug, y_expr, y_app, y_ext, y_ifS, y_ret, y_retN, y_for, y_while, y_iSeq, y_iTp, y_iR1, y_iR2, y_iEn, y_iZp, y_lc, y_raise, y_un1, y_rep, y_par11, y_parO1, y_cmpO, y_iEn, y_parO1, y_try, y_val, y_isX, y_first, y_call, y_call, endsX, outX, Bool.true_eq_false, reduceCtorEq, decide_true, decide_false, ix2_0, ix2_1, ix3_0, ix3_1, ix3_2, LcRun, LpRun, wipeP, restP, noX, dite_true, List.nil_append, List.cons_append, Option.getD_some, Option.getD_none, y_repr, y_tupleL, y_tupleT, y_sum, y_all, y_any, y_eqD, y_neD, y_rev, y_dn, y_orT, y_notT, y_ins, y_bits, y_bAnd, y_bOr, y_rt0, y_rtR, y_nx0, y_rtX, y_nxX, y_exX, inV2, inV3, flatD, vOf, List.all_cons, List.all_nil, Bool.and_self, sz_iff, Nat.reduceAdd, Nat.reduceLeDiff, Nat.zero_add, y_dD, y_dB, y_dI, y_dL, y_dSl, y_dSt, y_dAll0, y_dAllS, dAll_map, y_I0, y_I, y_eqI, y_eqS, y_eqB, y_neI, y_neS, y_neB, y_neg, y_ixL, y_ixT, y_min, y_max, y_abs, y_lenL, y_lenT, y_lenS, y_lenB, y_truL, y_truT, y_inL, y_inT, y_ex1, y_exO, y_exR, at0, at1, at2, at3, isNon, List.getElem?_cons_succ, List.getElem?_cons_zero, List.set_cons_succ, List.set_cons_zero, List.length_cons, List.length_nil, List.map_cons, List.map_nil, true_and, and_true, decide_eq_true_eq, Bool.not_eq_true', Bool.not_true, Bool.not_false, if_true, if_false, Bool.false_eq_true, ite_true, ite_false])
        refine ⟨0, 1, [("add", 0), ("u", 0), ("x", 1)], rfl, by constructor <;> decide +kernel, .inl ⟨by decide, by decide, ?_⟩⟩
        rw [show firstBad [("add", 0), ("u", 0), ("x", 1)] = some 1 by decide +kernel]
        rw [show errI (some 1) = .int 1 from rfl]
        (try simp only [y_var, y_c, y_op, y_un, y_and, y_or, y_not, y_if, y_isN, y_notN, y_bOf, y_bTru, y_bNot, y_bYes, y_aNil, y_aCons, y_aStar, y_tup, y_disp, y_fz, y_cb, y_cat, y_of, y_sl, y_dO0, y_dO1, y_ixN, y_lenN, y_chain, y_call0, y_call, y_callR0, y_next, y_brk, y_cnt, y_asg, y_setO, y_gNm, y_gTp, y_gsNil, y_gsCons, y_subO, y_par, y_aug, y_expr, y_app, y_ext, y_ifS, y_ret, y_retN, y_for, y_while, y_iSeq, y_iTp, y_iR1, y_iR2, y_iEn, y_iZp, y_lc, y_raise, y_un1, y_rep, y_par11, y_parO1, y_cmpO, y_iEn, y_parO1, y_try, y_val, y_isX, y_first, y_call, y_call, endsX, outX, Bool.true_eq_false, reduceCtorEq, decide_true, decide_false, ix2_0, ix2_1, ix3_0, ix3_1, ix3_2, LcRun, LpRun, wipeP, restP, noX, dite_true, List.nil_append, List.cons_append, Option.getD_some, Option.getD_none, y_repr, y_tupleL, y_tupleT, y_sum, y_all, y_any, y_eqD, y_neD, y_rev, y_dn, y_orT, y_notT, y_ins, y_bits, y_bAnd, y_bOr, y_rt0, y_rtR, y_nx0, y_rtX, y_nxX, y_exX, inV2, inV3, flatD, vOf, List.all_cons, List.all_nil, Bool.and_self, sz_iff, Nat.reduceAdd, Nat.reduceLeDiff, Nat.zero_add, y_dD, y_dB, y_dI, y_dL, y_dSl, y_dSt, y_dAll0, y_dAllS, dAll_map, y_I0, y_I, y_eqI, y_eqS, y_eqB, y_neI, y_neS, y_neB, y_neg, y_ixL, y_ixT, y_min, y_max, y_abs, y_lenL, y_lenT, y_lenS, y_lenB, y_truL, y_truT, y_inL, y_inT, y_ex1, y_exO, y_exR, at0, at1, at2, at3, isNon, List.getElem?_cons_succ, List.getElem?_cons_zero, List.set_cons_succ, List.set_cons_zero, List.length_cons, List.length_nil, List.map_cons, List.map_nil, true_and, and_true, decide_eq_true_eq, Bool.not_eq_true', Bool.not_true, Bool.not_false, if_true, if_false, Bool.false_eq_true, ite_true, ite_false])
        refine ⟨2, 1, [("s", -1)], rfl, by constructor <;> decide +kernel, .inl ⟨by decide, by decide, ?_⟩⟩
        rw [show firstBad [("s", -1)] = some 0 by decide +kernel, show errI (some 0) = .int 0 from rfl]
        (try simp only [y_var, y_c, y_op, y_un, y_and, y_or, y_not, y_if, y_isN, y_notN, y_bOf, y_bTru, y_bNot, y_bYes, y_aNil, y_aCons, y_aStar, y_tup, y_disp, y_fz, y_cb, y_cat, y_of, y_sl, y_dO0, y_dO1, y_ixN, y_lenN, y_chain, y_call0, y_call, y_callR0, y_next, y_brk, y_cnt, y_asg, y_setO, y_gNm, y_gTp, y_gsNil, y_gsCons, y_subO, y_par, y_aug, y_expr, y_app, y_ext, y_ifS, y_ret, y_retN, y_for, y_while, y_iSeq, y_iTp, y_iR1, y_iR2, y_iEn, y_iZp, y_lc, y_raise, y_un1, y_rep, y_par11, y_parO1, y_cmpO, y_iEn, y_parO1, y_try, y_val, y_isX, y_first, y_call, y_call, endsX, outX, Bool.true_eq_false, reduceCtorEq, decide_true, decide_false, ix2_0, ix2_1, ix3_0, ix3_1, ix3_2, LcRun, LpRun, wipeP, restP, noX, dite_true, List.nil_append, List.cons_append, Option.getD_some, Option.getD_none, y_repr, y_tupleL, y_tupleT, y_sum, y_all, y_any, y_eqD, y_neD, y_rev, y_dn, y_orT, y_notT, y_ins, y_bits, y_bAnd, y_bOr, y_rt0, y_rtR, y_nx0, y_rtX, y_nxX, y_exX, inV2, inV3, flatD, vOf, List.all_cons, List.all_nil, Bool.and_self, sz_iff, Nat.reduceAdd, Nat.reduceLeDiff, Nat.zero_add, y_dD, y_dB, y_dI, y_dL, y_dSl, y_dSt, y_dAll0, y_dAllS, dAll_map, y_I0, y_I, y_eqI, y_eqS, y_eqB, y_neI, y_neS, y_neB, y_neg, y_ixL, y_ixT, y_min, y_max, y_abs, y_lenL, y_lenT, y_lenS, y_lenB, y_truL, y_truT, y_inL, y_inT, y_ex1, y_exO, y_exR, at0, at1, at2, at3, isNon, List.getElem?_cons_succ, List.getElem?_cons_zero, List.set_cons_succ, List.set_cons_zero, List.length_cons, List.length_nil, List.map_cons, List.map_nil, true_and, and_true, decide_eq_true_eq, Bool.not_eq_true', Bool.not_true, Bool.not_false, if_true, if_false, Bool.false_eq_true, ite_true, ite_false])
        exact rfl
    obtain ⟨t, κ, d, hκ⟩ := tail
    obtain ⟨F, sF, hF, cl⟩ := sq_part hS
    refine ⟨_, pss_cons (ps_set (i := 1) nd rfl (.inl rfl) (pe_P h__law_rng hr hG (by rfl) (pa_cons (pv 0) pa_nil))) d.1, ?_⟩
    show (tSeq _ _) _ [some (V.ref a), none, none, none, none, none, none, none, none, none] H
    refine x_seq.mpr ?_
    (try simp only [x_asg, x_mkV, x_value, x_lcR1, x_lcL, List.map_cons, List.map_nil, x_yes, x_wipe0, x_wipeS, x_rs, x_callS, x_callKS, x_fld, x_sfld, x_meth, x_make, x_fldaug, x_BM0, x_rAdd, x_retN, x_name, x_sub, x_ret, x_next, x_ifS, x_ite, x_iteN, x_T, x_F, x_tT, x_tF, x_op, x_un, x_var0, x_varS, x_c, x_I0, x_I, x_rU, x_nil, x_cons, x_test, x_B, x_bl, x_call, x_CB, x_tup, x_lst, x_not, x_Eq, x_Ne, x_eqII, x_eqSS, x_eqBB,  x_and, x_or, x_andV, x_orV, x_notV, x_if, x_par, x_two, x_drop, x_BM, x_set0, x_setS, x_gcons, x_gnil, x_forL, x_forT, x_forR1, x_forR2, x_forE, x_ref, x_int1, x_oneI, x_oneB, x_noBI, x_twoI, false_or, x_sl, x_noP, x_part, true_and, List.append_nil, cxK, cxKn]; try simp only [V.str.injEq, V.int.injEq, V.bl.injEq])
    refine ⟨a, ns, rfl, hS, hl, fun r H' nr hB s => ?_⟩
    refine d.2 _ _ _ _ _ tailP _ (ent_rng (m := 8) hF sF cl nr hB s) hκ ⟨fun _ _ _ _ p => p.elim, fun x σ ρ F' H2 v p E' s' r' => ?_, fun _ _ _ _ p => p.elim, fun _ _ _ _ p => p.elim, fun _ _ _ _ _ _ _ _ p => p.elim⟩
    have p : x = .d (.bool true) := p
    subst p
    cases r'
    exact q _
end

end Cc

set_option Elab.async false
set_option linter.all false
set_option maxRecDepth 100000
set_option maxHeartbeats 4000000
namespace Cc
open PySem PySem.Spec PyProof.Rows L2
/-- what is of a class below the one at B is caught where the clause names that one -/
theorem exm_base {K : PySem.W.Frag} {S B : Addr} (h1 : PySem.W.subIn K (.ref B) (.type "BaseException") = some true) (h2 : PySem.W.isClsIn K B = true) (h3 : PySem.W.typeIn K (.ref B) = some (.type "type")) (h4 : PySem.W.subIn K (.ref S) (.ref B) = some true) :
    PySem.W.exmOne K (.ref S) (.ref B) = some true := by
  unfold PySem.W.exmOne
  rw [if_pos (by rw [h1]; rfl)]
  have h2' : (PySem.W.clsIn K B).isSome = true := h2
  show (if ((PySem.W.clsIn K B).isSome && PySem.W.typeIn K (.ref B) == some (.type "type")) = true then _ else _) = _
  rw [if_pos (by rw [h2', h3]; rfl)]
  exact h4

/-- the seven classes, told for all numbers -/
theorem cls_all {P : Program} {w : World} {K : PySem.W.Frag} {mg : Str → Option Value} {base : Heap} {C fI : Nat → Addr} {fd : Nat → FuncData} {C0 : Addr} (Y : Cls P w K mg base C fI fd C0) : Cls P w K mg base (fun i => C (min i 6)) (fun i => fI (min i 6)) (fun i => fd (min i 6)) C0 := by
  have hn : ∀ i : Nat, nameOf (min i 6) = nameOf i := fun i => by
    match i with
    | 0 | 1 | 2 | 3 | 4 | 5 | 6 => rfl
    | i + 7 => rw [Nat.min_eq_right (by omega)]; rfl
  have hm : ∀ i : Nat, i < 7 → min i 6 = i := fun i h => Nat.min_eq_left (by omega)
  refine ⟨fun i => hn i ▸ Y.cls (min i 6), fun i => Y.ini _, fun i => Y.bi _, fun i => Y.kw _, Y.g0, fun i j hi hj => ?_, fun i hi => Y.kit0 _ (by omega), fun i hi => Y.kitV _ (by omega)⟩
  have := Y.kit (min i 6) (min j 6) (by omega) (by omega)
  rw [hm i hi, hm j hj] at this
  show PySem.W.kitOne K (.ref (C (min i 6))) (.ref (C (min j 6))) = _
  rw [hm i hi, hm j hj]
  exact this

section
variable {P : Program} {w : World} {K : PySem.W.Frag} {mg : Str → Option Value} {base : Heap} {C fI : Nat → Addr} {fd : Nat → FuncData} {C0 CSp fS : Addr} {fdS : FuncData}
theorem min6 (c : Nat) : min c 6 < 7 := by omega
theorem kit6 (Y : Cls P w K mg base C fI fd C0) (j : Nat) (hj : j < 7) (c : Nat) : PySem.W.kitOne K (.ref (C (min c 6))) (.ref (C (min j 6))) = some (decide (min c 6 = j)) := by
  have := Y.kit (min c 6) (min j 6) (min6 c) (min6 j)
  rw [this, Nat.min_eq_left (by omega : j ≤ 6)]
theorem all_pr (Y : Cls P w K mg base C fI fd C0)
    (X0 : ∀ i : Nat, i < 7 → PySem.W.exmOne K (.ref (C i)) (.ref C0) = some true)
    (hStop : PySem.W.subIn K (.ref (C 0)) (.type "StopIteration") = some false)
    (T_is_cast : Tx K mg "is_cast" s_is_cast)
    (T_check_chain : Tx K mg "check_chain" s_check_chain)
    (T_lowest_result : Tx K mg "lowest_result" s_lowest_result)
    (T_cast : Tx K mg "cast" s_cast)
    (T_after_step : Tx K mg "after_step" s_after_step)
    (T_converted : Tx K mg "converted" s_converted)
    (T_stages : Tx K mg "stages" s_stages)
    (T_fits : Tx K mg "fits" s_fits)
    (T__law_rng : Tx K mg "_law_rng" s_law_rng)
    (T__law_draw : Tx K mg "_law_draw" s_law_draw)
    (T__law_two : Tx K mg "_law_two" s_law_two)
    (T__law_any : Tx K mg "_law_any" s_law_any)
    (T__law_step : Tx K mg "_law_step" s_law_step)
    (T__law_chain : Tx K mg "_law_chain" s_law_chain)
    (T__law_spoilt : Tx K mg "_law_spoilt" s_law_spoilt)
    (T__law_told : Tx K mg "_law_told" s_law_told)
    (m_list : mg "list" = none)
    (m_range : mg "range" = none)
    (m_len : mg "len" = none)
    (m_enumerate : mg "enumerate" = none)
    (m_abs : mg "abs" = none)
    (m_min : mg "min" = none)
    (m_repr : mg "repr" = none)
    (m_isinstance : mg "isinstance" = none)
    (m_ValueError : mg "ValueError" = none) : PrAt P w K mg base CX0 8 "law" s_law ["script"] (spLaw K) := by
  have Y1 := cls_all Y
  have X1 : ∀ i : Nat, PySem.W.exmOne K (.ref (C (min i 6))) (.ref C0) = some true := fun i => X0 _ (by omega)
  have k0 : ∀ c, PySem.W.kitOne K (.ref (C (min c 6))) (.ref (C (min 0 6))) = some (decide (c = 0)) := fun c => by
    rw [kit6 Y 0 (by decide) c]
    congr 1
    rw [Bool.eq_iff_iff, decide_eq_true_eq, decide_eq_true_eq]
    omega
  have kV : ∀ c, PySem.W.kitOne K (.ref (C (min c 6))) (.type "ValueError") = some true := fun c => Y.kitV _ (min6 c)
  have kA : ∀ c, PySem.W.kitAny K (.ref (C (min c 6))) [.ref (C (min 4 6)), .ref (C (min 1 6)), .ref (C (min 2 6)), .ref (C (min 3 6)), .ref (C (min 5 6)), .ref (C (min 6 6))] = some (decide (c ≠ 0)) := fun c => by
    have h := kit_any (K := K) (t := .ref (C (min c 6))) (D := fun j => .ref (C (min j 6))) (g := fun j => decide (min c 6 = j)) (js := [4, 1, 2, 3, 5, 6]) fun j hj => kit6 Y j (by simp at hj; omega) c
    refine h.trans ?_
    congr 1
    rw [Bool.eq_iff_iff]
    simp
    omega
  have a1 := p_is_cast (P := P) (w := w) (base := base) T_is_cast
  have a2 := p_lowest_result (P := P) (w := w) (base := base) T_lowest_result
  have a3 := p_cast (P := P) (w := w) (base := base) T_cast a2
  have a4 := p_check_chainX (P := P) (w := w) (base := base) T_check_chain (Y.cls 0) (Y.ini 0) (Y.bi 0) m_enumerate a1
  have a5 := p_check_chainF (P := P) (w := w) (base := base) T_check_chain (Y.cls 0) (Y.ini 0) (Y.bi 0) m_enumerate a1
  have a6 := g1_stages T_stages a5
  have b0 := q_is_cast (P := P) (w := w) (base := base) (Γ := poolG K (fun i => C (min i 6)) 0) T_is_cast
  have b1 := q_check (Γ := poolG K (fun i => C (min i 6)) 0) a4
  have b2 := q_cast (Γ := poolG K (fun i => C (min i 6)) 0) a3
  have b3 := q_after (Γ := poolG K (fun i => C (min i 6)) 0) T_after_step b2
  have k4 := k_converted (Γ := poolG K (fun i => C (min i 6)) 0) T_converted b1 b3
  have b4 := k4.pr fun _ _ _ _ _ _ us hl => match us, hl with | [_, _], _ => rfl
  have k5 := k_fits (Γ := poolG K (fun i => C (min i 6)) 0) T_fits Y1 b0 b2
  have b5 := k5.pr fun _ _ _ _ _ _ us hl => match us, hl with | [_, _, _], _ => rfl
  have b6 := q_told (Γ := poolG K (fun i => C (min i 6)) 0) T__law_told Y1 X1 k0 kV kA hStop m_isinstance m_ValueError a6 b4 k4 b5 k5
  have g1 := p_rng (P := P) (w := w) (base := base) T__law_rng m_abs
  have g2 := p_draw (P := P) (w := w) (base := base) T__law_draw
  have g3 := q_draw (C := fun i => C (min i 6)) (CS := 0) g2
  have g4 := p_two (P := P) (w := w) (base := base) T__law_two m_range
  have g5 := q_any (C := fun i => C (min i 6)) (CS := 0) (p_any (P := P) (w := w) (base := base) T__law_any m_min g4 g2)
  have g6 := q_step (C := fun i => C (min i 6)) (CS := 0) T__law_step m_min g3 g5
  have g7 := q_chain (C := fun i => C (min i 6)) (CS := 0) T__law_chain m_range g3 g6
  have g8 := q_spoil (C := fun i => C (min i 6)) (CS := 0) T__law_spoilt m_list m_range m_len m_enumerate g3
  exact p_law (C := fun i => C (min i 6)) (CS := 0) m_range m_min m_len m_repr g1 g3 g5 g7 g8 b6
end
abbrev s_InvalidStep : Stmt := topS 2
theorem sc_InvalidStep : FnScope ["self", "value"] ["self", "value"] (defScope (inClass s_InvalidStep 0)) := ⟨rfl, rfl, rfl, by decide +kernel, rfl, by decide +kernel, by decide +kernel⟩
theorem ini_InvalidStep {P : Program} {w : World} {K : PySem.W.Frag} {mg : Str → Option Value} {base : Heap} {C f : Addr} {fd : FuncData} (F : Fun K "__init__" "InvalidStep.__init__" (inClass s_InvalidStep 0) f fd) (T : OexC K C) (no : PySem.W.findIn K (.ref C) "value" = some none) :
    FnOk P w K mg base CX0 1 f fd ["self", "value"] (spInit K C) := by
  refine F.ok sc_InvalidStep (fun vs H Q E h => ?_) (fun cdv A outer s H vs Q E hr h => ⟨_, pss_one (ps_ost (pv 0) (pv 1)), ?_⟩)
  · obtain ⟨_, _, rfl, _⟩ := h
    rfl
  · obtain ⟨a, v, rfl, ha, q⟩ := h
    exact ⟨v, rfl, .ref a, rfl, a, C, rfl, T, no, .inl ⟨ha, fun dx hn hne => q dx hn hne⟩⟩
theorem kw_InvalidStep {K : PySem.W.Frag} {f : Addr} {fd : FuncData} (F : Fun K "__init__" "InvalidStep.__init__" (inClass s_InvalidStep 0) f fd) (s : Shared) (u v : Value) : BindsTo s fd ⟨[u], [("value", v)]⟩ [("self", u), ("value", v)] := by
  obtain ⟨oc, od, kV, doc, pm, an, cdv, ct, osl, rfl, _, _⟩ := F.ex
  exact .of_eq rfl
abbrev s_InvalidForm : Stmt := topS 3
theorem sc_InvalidForm : FnScope ["self", "value"] ["self", "value"] (defScope (inClass s_InvalidForm 0)) := ⟨rfl, rfl, rfl, by decide +kernel, rfl, by decide +kernel, by decide +kernel⟩
theorem ini_InvalidForm {P : Program} {w : World} {K : PySem.W.Frag} {mg : Str → Option Value} {base : Heap} {C f : Addr} {fd : FuncData} (F : Fun K "__init__" "InvalidForm.__init__" (inClass s_InvalidForm 0) f fd) (T : OexC K C) (no : PySem.W.findIn K (.ref C) "value" = some none) :
    FnOk P w K mg base CX0 1 f fd ["self", "value"] (spInit K C) := by
  refine F.ok sc_InvalidForm (fun vs H Q E h => ?_) (fun cdv A outer s H vs Q E hr h => ⟨_, pss_one (ps_ost (pv 0) (pv 1)), ?_⟩)
  · obtain ⟨_, _, rfl, _⟩ := h
    rfl
  · obtain ⟨a, v, rfl, ha, q⟩ := h
    exact ⟨v, rfl, .ref a, rfl, a, C, rfl, T, no, .inl ⟨ha, fun dx hn hne => q dx hn hne⟩⟩
theorem kw_InvalidForm {K : PySem.W.Frag} {f : Addr} {fd : FuncData} (F : Fun K "__init__" "InvalidForm.__init__" (inClass s_InvalidForm 0) f fd) (s : Shared) (u v : Value) : BindsTo s fd ⟨[u], [("value", v)]⟩ [("self", u), ("value", v)] := by
  obtain ⟨oc, od, kV, doc, pm, an, cdv, ct, osl, rfl, _, _⟩ := F.ex
  exact .of_eq rfl
abbrev s_InvalidNumber : Stmt := topS 4
theorem sc_InvalidNumber : FnScope ["self", "value"] ["self", "value"] (defScope (inClass s_InvalidNumber 0)) := ⟨rfl, rfl, rfl, by decide +kernel, rfl, by decide +kernel, by decide +kernel⟩
theorem ini_InvalidNumber {P : Program} {w : World} {K : PySem.W.Frag} {mg : Str → Option Value} {base : Heap} {C f : Addr} {fd : FuncData} (F : Fun K "__init__" "InvalidNumber.__init__" (inClass s_InvalidNumber 0) f fd) (T : OexC K C) (no : PySem.W.findIn K (.ref C) "value" = some none) :
    FnOk P w K mg base CX0 1 f fd ["self", "value"] (spInit K C) := by
  refine F.ok sc_InvalidNumber (fun vs H Q E h => ?_) (fun cdv A outer s H vs Q E hr h => ⟨_, pss_one (ps_ost (pv 0) (pv 1)), ?_⟩)
  · obtain ⟨_, _, rfl, _⟩ := h
    rfl
  · obtain ⟨a, v, rfl, ha, q⟩ := h
    exact ⟨v, rfl, .ref a, rfl, a, C, rfl, T, no, .inl ⟨ha, fun dx hn hne => q dx hn hne⟩⟩
theorem kw_InvalidNumber {K : PySem.W.Frag} {f : Addr} {fd : FuncData} (F : Fun K "__init__" "InvalidNumber.__init__" (inClass s_InvalidNumber 0) f fd) (s : Shared) (u v : Value) : BindsTo s fd ⟨[u], [("value", v)]⟩ [("self", u), ("value", v)] := by
  obtain ⟨oc, od, kV, doc, pm, an, cdv, ct, osl, rfl, _, _⟩ := F.ex
  exact .of_eq rfl
abbrev s_InvalidRange : Stmt := topS 5
theorem sc_InvalidRange : FnScope ["self", "value"] ["self", "value"] (defScope (inClass s_InvalidRange 0)) := ⟨rfl, rfl, rfl, by decide +kernel, rfl, by decide +kernel, by decide +kernel⟩
theorem ini_InvalidRange {P : Program} {w : World} {K : PySem.W.Frag} {mg : Str → Option Value} {base : Heap} {C f : Addr} {fd : FuncData} (F : Fun K "__init__" "InvalidRange.__init__" (inClass s_InvalidRange 0) f fd) (T : OexC K C) (no : PySem.W.findIn K (.ref C) "value" = some none) :
    FnOk P w K mg base CX0 1 f fd ["self", "value"] (spInit K C) := by
  refine F.ok sc_InvalidRange (fun vs H Q E h => ?_) (fun cdv A outer s H vs Q E hr h => ⟨_, pss_one (ps_ost (pv 0) (pv 1)), ?_⟩)
  · obtain ⟨_, _, rfl, _⟩ := h
    rfl
  · obtain ⟨a, v, rfl, ha, q⟩ := h
    exact ⟨v, rfl, .ref a, rfl, a, C, rfl, T, no, .inl ⟨ha, fun dx hn hne => q dx hn hne⟩⟩
theorem kw_InvalidRange {K : PySem.W.Frag} {f : Addr} {fd : FuncData} (F : Fun K "__init__" "InvalidRange.__init__" (inClass s_InvalidRange 0) f fd) (s : Shared) (u v : Value) : BindsTo s fd ⟨[u], [("value", v)]⟩ [("self", u), ("value", v)] := by
  obtain ⟨oc, od, kV, doc, pm, an, cdv, ct, osl, rfl, _, _⟩ := F.ex
  exact .of_eq rfl
abbrev s_ChangedNumber : Stmt := topS 6
theorem sc_ChangedNumber : FnScope ["self", "value"] ["self", "value"] (defScope (inClass s_ChangedNumber 0)) := ⟨rfl, rfl, rfl, by decide +kernel, rfl, by decide +kernel, by decide +kernel⟩
theorem ini_ChangedNumber {P : Program} {w : World} {K : PySem.W.Frag} {mg : Str → Option Value} {base : Heap} {C f : Addr} {fd : FuncData} (F : Fun K "__init__" "ChangedNumber.__init__" (inClass s_ChangedNumber 0) f fd) (T : OexC K C) (no : PySem.W.findIn K (.ref C) "value" = some none) :
    FnOk P w K mg base CX0 1 f fd ["self", "value"] (spInit K C) := by
  refine F.ok sc_ChangedNumber (fun vs H Q E h => ?_) (fun cdv A outer s H vs Q E hr h => ⟨_, pss_one (ps_ost (pv 0) (pv 1)), ?_⟩)
  · obtain ⟨_, _, rfl, _⟩ := h
    rfl
  · obtain ⟨a, v, rfl, ha, q⟩ := h
    exact ⟨v, rfl, .ref a, rfl, a, C, rfl, T, no, .inl ⟨ha, fun dx hn hne => q dx hn hne⟩⟩
theorem kw_ChangedNumber {K : PySem.W.Frag} {f : Addr} {fd : FuncData} (F : Fun K "__init__" "ChangedNumber.__init__" (inClass s_ChangedNumber 0) f fd) (s : Shared) (u v : Value) : BindsTo s fd ⟨[u], [("value", v)]⟩ [("self", u), ("value", v)] := by
  obtain ⟨oc, od, kV, doc, pm, an, cdv, ct, osl, rfl, _, _⟩ := F.ex
  exact .of_eq rfl
abbrev s_NothingToUndo : Stmt := topS 7
theorem sc_NothingToUndo : FnScope ["self", "value"] ["self", "value"] (defScope (inClass s_NothingToUndo 0)) := ⟨rfl, rfl, rfl, by decide +kernel, rfl, by decide +kernel, by decide +kernel⟩
theorem ini_NothingToUndo {P : Program} {w : World} {K : PySem.W.Frag} {mg : Str → Option Value} {base : Heap} {C f : Addr} {fd : FuncData} (F : Fun K "__init__" "NothingToUndo.__init__" (inClass s_NothingToUndo 0) f fd) (T : OexC K C) (no : PySem.W.findIn K (.ref C) "value" = some none) :
    FnOk P w K mg base CX0 1 f fd ["self", "value"] (spInit K C) := by
  refine F.ok sc_NothingToUndo (fun vs H Q E h => ?_) (fun cdv A outer s H vs Q E hr h => ⟨_, pss_one (ps_ost (pv 0) (pv 1)), ?_⟩)
  · obtain ⟨_, _, rfl, _⟩ := h
    rfl
  · obtain ⟨a, v, rfl, ha, q⟩ := h
    exact ⟨v, rfl, .ref a, rfl, a, C, rfl, T, no, .inl ⟨ha, fun dx hn hne => q dx hn hne⟩⟩
theorem kw_NothingToUndo {K : PySem.W.Frag} {f : Addr} {fd : FuncData} (F : Fun K "__init__" "NothingToUndo.__init__" (inClass s_NothingToUndo 0) f fd) (s : Shared) (u v : Value) : BindsTo s fd ⟨[u], [("value", v)]⟩ [("self", u), ("value", v)] := by
  obtain ⟨oc, od, kV, doc, pm, an, cdv, ct, osl, rfl, _, _⟩ := F.ex
  exact .of_eq rfl
abbrev s_Unreadable : Stmt := topS 8
theorem sc_Unreadable : FnScope ["self", "value"] ["self", "value"] (defScope (inClass s_Unreadable 0)) := ⟨rfl, rfl, rfl, by decide +kernel, rfl, by decide +kernel, by decide +kernel⟩
theorem ini_Unreadable {P : Program} {w : World} {K : PySem.W.Frag} {mg : Str → Option Value} {base : Heap} {C f : Addr} {fd : FuncData} (F : Fun K "__init__" "Unreadable.__init__" (inClass s_Unreadable 0) f fd) (T : OexC K C) (no : PySem.W.findIn K (.ref C) "value" = some none) :
    FnOk P w K mg base CX0 1 f fd ["self", "value"] (spInit K C) := by
  refine F.ok sc_Unreadable (fun vs H Q E h => ?_) (fun cdv A outer s H vs Q E hr h => ⟨_, pss_one (ps_ost (pv 0) (pv 1)), ?_⟩)
  · obtain ⟨_, _, rfl, _⟩ := h
    rfl
  · obtain ⟨a, v, rfl, ha, q⟩ := h
    exact ⟨v, rfl, .ref a, rfl, a, C, rfl, T, no, .inl ⟨ha, fun dx hn hne => q dx hn hne⟩⟩
theorem kw_Unreadable {K : PySem.W.Frag} {f : Addr} {fd : FuncData} (F : Fun K "__init__" "Unreadable.__init__" (inClass s_Unreadable 0) f fd) (s : Shared) (u v : Value) : BindsTo s fd ⟨[u], [("value", v)]⟩ [("self", u), ("value", v)] := by
  obtain ⟨oc, od, kV, doc, pm, an, cdv, ct, osl, rfl, _, _⟩ := F.ex
  exact .of_eq rfl
theorem all_mk {l : PySem.W.OpenLaw} {w : World} {K : PySem.W.Frag} {h : Heap} {mg : Str → Option Value} {fa : Addr} (X : K.In h) (G : h.Ns mainGlobals mg) (hfa : mg "law" = some (.ref fa))
    {f0 : Addr} {oc0 kV0 dc0 pm0 cd0 ct0 : Value} {od0 an0 : Option Addr} {sl0 : Array (Option Value)}
    {f1 : Addr} {oc1 kV1 dc1 pm1 cd1 ct1 : Value} {od1 an1 : Option Addr} {sl1 : Array (Option Value)}
    {f2 : Addr} {oc2 kV2 dc2 pm2 cd2 ct2 : Value} {od2 an2 : Option Addr} {sl2 : Array (Option Value)}
    {f3 : Addr} {oc3 kV3 dc3 pm3 cd3 ct3 : Value} {od3 an3 : Option Addr} {sl3 : Array (Option Value)}
    {f4 : Addr} {oc4 kV4 dc4 pm4 cd4 ct4 : Value} {od4 an4 : Option Addr} {sl4 : Array (Option Value)}
    {f5 : Addr} {oc5 kV5 dc5 pm5 cd5 ct5 : Value} {od5 an5 : Option Addr} {sl5 : Array (Option Value)}
    {f6 : Addr} {oc6 kV6 dc6 pm6 cd6 ct6 : Value} {od6 an6 : Option Addr} {sl6 : Array (Option Value)}
    {f7 : Addr} {oc7 kV7 dc7 pm7 cd7 ct7 : Value} {od7 an7 : Option Addr} {sl7 : Array (Option Value)}
    {f8 : Addr} {oc8 kV8 dc8 pm8 cd8 ct8 : Value} {od8 an8 : Option Addr} {sl8 : Array (Option Value)}
    {f9 : Addr} {oc9 kV9 dc9 pm9 cd9 ct9 : Value} {od9 an9 : Option Addr} {sl9 : Array (Option Value)}
    {f10 : Addr} {oc10 kV10 dc10 pm10 cd10 ct10 : Value} {od10 an10 : Option Addr} {sl10 : Array (Option Value)}
    {f11 : Addr} {oc11 kV11 dc11 pm11 cd11 ct11 : Value} {od11 an11 : Option Addr} {sl11 : Array (Option Value)}
    {f12 : Addr} {oc12 kV12 dc12 pm12 cd12 ct12 : Value} {od12 an12 : Option Addr} {sl12 : Array (Option Value)}
    {f13 : Addr} {oc13 kV13 dc13 pm13 cd13 ct13 : Value} {od13 an13 : Option Addr} {sl13 : Array (Option Value)}
    {f14 : Addr} {oc14 kV14 dc14 pm14 cd14 ct14 : Value} {od14 an14 : Option Addr} {sl14 : Array (Option Value)}
    {f15 : Addr} {oc15 kV15 dc15 pm15 cd15 ct15 : Value} {od15 an15 : Option Addr} {sl15 : Array (Option Value)}
    {f16 : Addr} {oc16 kV16 dc16 pm16 cd16 ct16 : Value} {od16 an16 : Option Addr} {sl16 : Array (Option Value)}
    {C0 fi0 : Addr} {nm0 qq0 : Str} {NN0 : Addr} {bs0 bm0 sub0 : List Value} {sn0 : List Str} {ab0 : Bool} {col0 : Option Bool} {dd0 : Option Addr} {kx0_0 kx1_0 kx2_0 kx3_0 kx5_0 : Option Value} {ioc0 ikV0 idc0 ipm0 icd0 ict0 : Value} {iod0 ian0 : Option Addr} {isl0 : Array (Option Value)}
    {C1 fi1 : Addr} {nm1 qq1 : Str} {NN1 : Addr} {bs1 bm1 sub1 : List Value} {sn1 : List Str} {ab1 : Bool} {col1 : Option Bool} {dd1 : Option Addr} {kx0_1 kx1_1 kx2_1 kx3_1 kx5_1 : Option Value} {ioc1 ikV1 idc1 ipm1 icd1 ict1 : Value} {iod1 ian1 : Option Addr} {isl1 : Array (Option Value)}
    {C2 fi2 : Addr} {nm2 qq2 : Str} {NN2 : Addr} {bs2 bm2 sub2 : List Value} {sn2 : List Str} {ab2 : Bool} {col2 : Option Bool} {dd2 : Option Addr} {kx0_2 kx1_2 kx2_2 kx3_2 kx5_2 : Option Value} {ioc2 ikV2 idc2 ipm2 icd2 ict2 : Value} {iod2 ian2 : Option Addr} {isl2 : Array (Option Value)}
    {C3 fi3 : Addr} {nm3 qq3 : Str} {NN3 : Addr} {bs3 bm3 sub3 : List Value} {sn3 : List Str} {ab3 : Bool} {col3 : Option Bool} {dd3 : Option Addr} {kx0_3 kx1_3 kx2_3 kx3_3 kx5_3 : Option Value} {ioc3 ikV3 idc3 ipm3 icd3 ict3 : Value} {iod3 ian3 : Option Addr} {isl3 : Array (Option Value)}
    {C4 fi4 : Addr} {nm4 qq4 : Str} {NN4 : Addr} {bs4 bm4 sub4 : List Value} {sn4 : List Str} {ab4 : Bool} {col4 : Option Bool} {dd4 : Option Addr} {kx0_4 kx1_4 kx2_4 kx3_4 kx5_4 : Option Value} {ioc4 ikV4 idc4 ipm4 icd4 ict4 : Value} {iod4 ian4 : Option Addr} {isl4 : Array (Option Value)}
    {C5 fi5 : Addr} {nm5 qq5 : Str} {NN5 : Addr} {bs5 bm5 sub5 : List Value} {sn5 : List Str} {ab5 : Bool} {col5 : Option Bool} {dd5 : Option Addr} {kx0_5 kx1_5 kx2_5 kx3_5 kx5_5 : Option Value} {ioc5 ikV5 idc5 ipm5 icd5 ict5 : Value} {iod5 ian5 : Option Addr} {isl5 : Array (Option Value)}
    {C6 fi6 : Addr} {nm6 qq6 : Str} {NN6 : Addr} {bs6 bm6 sub6 : List Value} {sn6 : List Str} {ab6 : Bool} {col6 : Option Bool} {dd6 : Option Addr} {kx0_6 kx1_6 kx2_6 kx3_6 kx5_6 : Option Value} {ioc6 ikV6 idc6 ipm6 icd6 ict6 : Value} {iod6 ian6 : Option Addr} {isl6 : Array (Option Value)}
    {C0x : Addr}
    (a0 : PySem.W.nsIn K mainGlobals "is_cast" = some (some (.ref f0))) (l0 : K.lookup f0 = some ⟨oc0, od0, .func (PySem.W.fnOf "is_cast" "is_cast" (defArgs s_is_cast) (defBody s_is_cast) (defScope s_is_cast) .none kV0 dc0 pm0 an0 cd0 ct0), sl0⟩) (c0 : PySem.W.codeIn K cd0 "is_cast" = true) (k0 : PySem.W.keepIn K (.ref f0) = true)
    (a1 : PySem.W.nsIn K mainGlobals "check_chain" = some (some (.ref f1))) (l1 : K.lookup f1 = some ⟨oc1, od1, .func (PySem.W.fnOf "check_chain" "check_chain" (defArgs s_check_chain) (defBody s_check_chain) (defScope s_check_chain) .none kV1 dc1 pm1 an1 cd1 ct1), sl1⟩) (c1 : PySem.W.codeIn K cd1 "check_chain" = true) (k1 : PySem.W.keepIn K (.ref f1) = true)
    (a2 : PySem.W.nsIn K mainGlobals "lowest_result" = some (some (.ref f2))) (l2 : K.lookup f2 = some ⟨oc2, od2, .func (PySem.W.fnOf "lowest_result" "lowest_result" (defArgs s_lowest_result) (defBody s_lowest_result) (defScope s_lowest_result) .none kV2 dc2 pm2 an2 cd2 ct2), sl2⟩) (c2 : PySem.W.codeIn K cd2 "lowest_result" = true) (k2 : PySem.W.keepIn K (.ref f2) = true)
    (a3 : PySem.W.nsIn K mainGlobals "cast" = some (some (.ref f3))) (l3 : K.lookup f3 = some ⟨oc3, od3, .func (PySem.W.fnOf "cast" "cast" (defArgs s_cast) (defBody s_cast) (defScope s_cast) .none kV3 dc3 pm3 an3 cd3 ct3), sl3⟩) (c3 : PySem.W.codeIn K cd3 "cast" = true) (k3 : PySem.W.keepIn K (.ref f3) = true)
    (a4 : PySem.W.nsIn K mainGlobals "after_step" = some (some (.ref f4))) (l4 : K.lookup f4 = some ⟨oc4, od4, .func (PySem.W.fnOf "after_step" "after_step" (defArgs s_after_step) (defBody s_after_step) (defScope s_after_step) .none kV4 dc4 pm4 an4 cd4 ct4), sl4⟩) (c4 : PySem.W.codeIn K cd4 "after_step" = true) (k4 : PySem.W.keepIn K (.ref f4) = true)
    (a5 : PySem.W.nsIn K mainGlobals "converted" = some (some (.ref f5))) (l5 : K.lookup f5 = some ⟨oc5, od5, .func (PySem.W.fnOf "converted" "converted" (defArgs s_converted) (defBody s_converted) (defScope s_converted) .none kV5 dc5 pm5 an5 cd5 ct5), sl5⟩) (c5 : PySem.W.codeIn K cd5 "converted" = true) (k5 : PySem.W.keepIn K (.ref f5) = true)
    (a6 : PySem.W.nsIn K mainGlobals "stages" = some (some (.ref f6))) (l6 : K.lookup f6 = some ⟨oc6, od6, .func (PySem.W.fnOf "stages" "stages" (defArgs s_stages) (defBody s_stages) (defScope s_stages) .none kV6 dc6 pm6 an6 cd6 ct6), sl6⟩) (c6 : PySem.W.codeIn K cd6 "stages" = true) (k6 : PySem.W.keepIn K (.ref f6) = true)
    (a7 : PySem.W.nsIn K mainGlobals "fits" = some (some (.ref f7))) (l7 : K.lookup f7 = some ⟨oc7, od7, .func (PySem.W.fnOf "fits" "fits" (defArgs s_fits) (defBody s_fits) (defScope s_fits) .none kV7 dc7 pm7 an7 cd7 ct7), sl7⟩) (c7 : PySem.W.codeIn K cd7 "fits" = true) (k7 : PySem.W.keepIn K (.ref f7) = true)
    (a8 : PySem.W.nsIn K mainGlobals "_law_rng" = some (some (.ref f8))) (l8 : K.lookup f8 = some ⟨oc8, od8, .func (PySem.W.fnOf "_law_rng" "_law_rng" (defArgs s_law_rng) (defBody s_law_rng) (defScope s_law_rng) .none kV8 dc8 pm8 an8 cd8 ct8), sl8⟩) (c8 : PySem.W.codeIn K cd8 "_law_rng" = true) (k8 : PySem.W.keepIn K (.ref f8) = true)
    (a9 : PySem.W.nsIn K mainGlobals "_law_draw" = some (some (.ref f9))) (l9 : K.lookup f9 = some ⟨oc9, od9, .func (PySem.W.fnOf "_law_draw" "_law_draw" (defArgs s_law_draw) (defBody s_law_draw) (defScope s_law_draw) .none kV9 dc9 pm9 an9 cd9 ct9), sl9⟩) (c9 : PySem.W.codeIn K cd9 "_law_draw" = true) (k9 : PySem.W.keepIn K (.ref f9) = true)
    (a10 : PySem.W.nsIn K mainGlobals "_law_two" = some (some (.ref f10))) (l10 : K.lookup f10 = some ⟨oc10, od10, .func (PySem.W.fnOf "_law_two" "_law_two" (defArgs s_law_two) (defBody s_law_two) (defScope s_law_two) .none kV10 dc10 pm10 an10 cd10 ct10), sl10⟩) (c10 : PySem.W.codeIn K cd10 "_law_two" = true) (k10 : PySem.W.keepIn K (.ref f10) = true)
    (a11 : PySem.W.nsIn K mainGlobals "_law_any" = some (some (.ref f11))) (l11 : K.lookup f11 = some ⟨oc11, od11, .func (PySem.W.fnOf "_law_any" "_law_any" (defArgs s_law_any) (defBody s_law_any) (defScope s_law_any) .none kV11 dc11 pm11 an11 cd11 ct11), sl11⟩) (c11 : PySem.W.codeIn K cd11 "_law_any" = true) (k11 : PySem.W.keepIn K (.ref f11) = true)
    (a12 : PySem.W.nsIn K mainGlobals "_law_step" = some (some (.ref f12))) (l12 : K.lookup f12 = some ⟨oc12, od12, .func (PySem.W.fnOf "_law_step" "_law_step" (defArgs s_law_step) (defBody s_law_step) (defScope s_law_step) .none kV12 dc12 pm12 an12 cd12 ct12), sl12⟩) (c12 : PySem.W.codeIn K cd12 "_law_step" = true) (k12 : PySem.W.keepIn K (.ref f12) = true)
    (a13 : PySem.W.nsIn K mainGlobals "_law_chain" = some (some (.ref f13))) (l13 : K.lookup f13 = some ⟨oc13, od13, .func (PySem.W.fnOf "_law_chain" "_law_chain" (defArgs s_law_chain) (defBody s_law_chain) (defScope s_law_chain) .none kV13 dc13 pm13 an13 cd13 ct13), sl13⟩) (c13 : PySem.W.codeIn K cd13 "_law_chain" = true) (k13 : PySem.W.keepIn K (.ref f13) = true)
    (a14 : PySem.W.nsIn K mainGlobals "_law_spoilt" = some (some (.ref f14))) (l14 : K.lookup f14 = some ⟨oc14, od14, .func (PySem.W.fnOf "_law_spoilt" "_law_spoilt" (defArgs s_law_spoilt) (defBody s_law_spoilt) (defScope s_law_spoilt) .none kV14 dc14 pm14 an14 cd14 ct14), sl14⟩) (c14 : PySem.W.codeIn K cd14 "_law_spoilt" = true) (k14 : PySem.W.keepIn K (.ref f14) = true)
    (a15 : PySem.W.nsIn K mainGlobals "_law_told" = some (some (.ref f15))) (l15 : K.lookup f15 = some ⟨oc15, od15, .func (PySem.W.fnOf "_law_told" "_law_told" (defArgs s_law_told) (defBody s_law_told) (defScope s_law_told) .none kV15 dc15 pm15 an15 cd15 ct15), sl15⟩) (c15 : PySem.W.codeIn K cd15 "_law_told" = true) (k15 : PySem.W.keepIn K (.ref f15) = true)
    (a16 : PySem.W.nsIn K mainGlobals "law" = some (some (.ref f16))) (l16 : K.lookup f16 = some ⟨oc16, od16, .func (PySem.W.fnOf "law" "law" (defArgs s_law) (defBody s_law) (defScope s_law) .none kV16 dc16 pm16 an16 cd16 ct16), sl16⟩) (c16 : PySem.W.codeIn K cd16 "law" = true) (k16 : PySem.W.keepIn K (.ref f16) = true)
    (z_list : PySem.W.nsIn K mainGlobals "list" = some none)
    (z_range : PySem.W.nsIn K mainGlobals "range" = some none)
    (z_len : PySem.W.nsIn K mainGlobals "len" = some none)
    (z_enumerate : PySem.W.nsIn K mainGlobals "enumerate" = some none)
    (z_abs : PySem.W.nsIn K mainGlobals "abs" = some none)
    (z_min : PySem.W.nsIn K mainGlobals "min" = some none)
    (z_repr : PySem.W.nsIn K mainGlobals "repr" = some none)
    (z_isinstance : PySem.W.nsIn K mainGlobals "isinstance" = some none)
    (z_ValueError : PySem.W.nsIn K mainGlobals "ValueError" = some none)
    (gC0 : PySem.W.nsIn K mainGlobals "InvalidStep" = some (some (.ref C0)))
    (xL0 : K.lookup C0 = some (excClassObj nm0 qq0 C0 NN0 bs0 bm0 true sn0 sub0 ab0 col0 dd0 kx0_0 kx1_0 kx2_0 kx3_0 kx5_0 "ValueError.__new__"))
    (bv0 : PySem.HandSPX.refsVE bm0 = true)
    (sa0 : PySem.W.findIn K (.ref C0) "__setattr__" = some (some (.builtin "object.__setattr__")))
    (ga0 : PySem.W.findIn K (.ref C0) "__getattribute__" = some (some (.builtin "BaseException.__getattribute__")))
    (gg0 : PySem.W.findIn K (.ref C0) "__getattr__" = some none)
    (nb0 : PySem.W.findIn K (.ref C0) "value" = some none)
    (iC0 : PySem.W.findIn K (.ref C0) "__init__" = some (some (.ref fi0)))
    (tI0 : PySem.W.typeIn K (.ref fi0) = some (.type "function"))
    (lI0 : K.lookup fi0 = some ⟨ioc0, iod0, .func (PySem.W.fnOf "__init__" "InvalidStep.__init__" (defArgs (inClass s_InvalidStep 0)) (defBody (inClass s_InvalidStep 0)) (defScope (inClass s_InvalidStep 0)) .none ikV0 idc0 ipm0 ian0 icd0 ict0), isl0⟩)
    (cI0 : PySem.W.codeIn K icd0 "InvalidStep.__init__" = true)
    (kI0 : PySem.W.keepIn K (.ref fi0) = true)
    (kC0 : PySem.W.keepIn K (.ref C0) = true)
    (eC0 : PySem.W.subIn K (.ref C0) (.type "BaseException") = some true)
    (tC0 : PySem.W.typeIn K (.ref C0) = some (.type "type"))
    (hC0 : PySem.W.hasDictIn K C0 = true)
    (cl0 : PySem.W.findIn K (.ref C0) "__class__" = some (some (.builtin "object.__class__")))
    (mo0 : PySem.W.mroIn K C0 (.type "object") = some true)
    (hn : PySem.W.specialIn K (.builtin "object.__class__") "__get__" = some (some (.builtin "getset_descriptor.__get__")))
    (ht : PySem.W.takesIn K (.builtin "object.__class__") = some true)
    (gC1 : PySem.W.nsIn K mainGlobals "InvalidForm" = some (some (.ref C1)))
    (xL1 : K.lookup C1 = some (excClassObj nm1 qq1 C1 NN1 bs1 bm1 true sn1 sub1 ab1 col1 dd1 kx0_1 kx1_1 kx2_1 kx3_1 kx5_1 "ValueError.__new__"))
    (bv1 : PySem.HandSPX.refsVE bm1 = true)
    (sa1 : PySem.W.findIn K (.ref C1) "__setattr__" = some (some (.builtin "object.__setattr__")))
    (ga1 : PySem.W.findIn K (.ref C1) "__getattribute__" = some (some (.builtin "BaseException.__getattribute__")))
    (gg1 : PySem.W.findIn K (.ref C1) "__getattr__" = some none)
    (nb1 : PySem.W.findIn K (.ref C1) "value" = some none)
    (iC1 : PySem.W.findIn K (.ref C1) "__init__" = some (some (.ref fi1)))
    (tI1 : PySem.W.typeIn K (.ref fi1) = some (.type "function"))
    (lI1 : K.lookup fi1 = some ⟨ioc1, iod1, .func (PySem.W.fnOf "__init__" "InvalidForm.__init__" (defArgs (inClass s_InvalidForm 0)) (defBody (inClass s_InvalidForm 0)) (defScope (inClass s_InvalidForm 0)) .none ikV1 idc1 ipm1 ian1 icd1 ict1), isl1⟩)
    (cI1 : PySem.W.codeIn K icd1 "InvalidForm.__init__" = true)
    (kI1 : PySem.W.keepIn K (.ref fi1) = true)
    (kC1 : PySem.W.keepIn K (.ref C1) = true)
    (eC1 : PySem.W.subIn K (.ref C1) (.type "BaseException") = some true)
    (tC1 : PySem.W.typeIn K (.ref C1) = some (.type "type"))
    (hC1 : PySem.W.hasDictIn K C1 = true)
    (cl1 : PySem.W.findIn K (.ref C1) "__class__" = some (some (.builtin "object.__class__")))
    (mo1 : PySem.W.mroIn K C1 (.type "object") = some true)
    (gC2 : PySem.W.nsIn K mainGlobals "InvalidNumber" = some (some (.ref C2)))
    (xL2 : K.lookup C2 = some (excClassObj nm2 qq2 C2 NN2 bs2 bm2 true sn2 sub2 ab2 col2 dd2 kx0_2 kx1_2 kx2_2 kx3_2 kx5_2 "ValueError.__new__"))
    (bv2 : PySem.HandSPX.refsVE bm2 = true)
    (sa2 : PySem.W.findIn K (.ref C2) "__setattr__" = some (some (.builtin "object.__setattr__")))
    (ga2 : PySem.W.findIn K (.ref C2) "__getattribute__" = some (some (.builtin "BaseException.__getattribute__")))
    (gg2 : PySem.W.findIn K (.ref C2) "__getattr__" = some none)
    (nb2 : PySem.W.findIn K (.ref C2) "value" = some none)
    (iC2 : PySem.W.findIn K (.ref C2) "__init__" = some (some (.ref fi2)))
    (tI2 : PySem.W.typeIn K (.ref fi2) = some (.type "function"))
    (lI2 : K.lookup fi2 = some ⟨ioc2, iod2, .func (PySem.W.fnOf "__init__" "InvalidNumber.__init__" (defArgs (inClass s_InvalidNumber 0)) (defBody (inClass s_InvalidNumber 0)) (defScope (inClass s_InvalidNumber 0)) .none ikV2 idc2 ipm2 ian2 icd2 ict2), isl2⟩)
    (cI2 : PySem.W.codeIn K icd2 "InvalidNumber.__init__" = true)
    (kI2 : PySem.W.keepIn K (.ref fi2) = true)
    (kC2 : PySem.W.keepIn K (.ref C2) = true)
    (eC2 : PySem.W.subIn K (.ref C2) (.type "BaseException") = some true)
    (tC2 : PySem.W.typeIn K (.ref C2) = some (.type "type"))
    (hC2 : PySem.W.hasDictIn K C2 = true)
    (cl2 : PySem.W.findIn K (.ref C2) "__class__" = some (some (.builtin "object.__class__")))
    (mo2 : PySem.W.mroIn K C2 (.type "object") = some true)
    (gC3 : PySem.W.nsIn K mainGlobals "InvalidRange" = some (some (.ref C3)))
    (xL3 : K.lookup C3 = some (excClassObj nm3 qq3 C3 NN3 bs3 bm3 true sn3 sub3 ab3 col3 dd3 kx0_3 kx1_3 kx2_3 kx3_3 kx5_3 "ValueError.__new__"))
    (bv3 : PySem.HandSPX.refsVE bm3 = true)
    (sa3 : PySem.W.findIn K (.ref C3) "__setattr__" = some (some (.builtin "object.__setattr__")))
    (ga3 : PySem.W.findIn K (.ref C3) "__getattribute__" = some (some (.builtin "BaseException.__getattribute__")))
    (gg3 : PySem.W.findIn K (.ref C3) "__getattr__" = some none)
    (nb3 : PySem.W.findIn K (.ref C3) "value" = some none)
    (iC3 : PySem.W.findIn K (.ref C3) "__init__" = some (some (.ref fi3)))
    (tI3 : PySem.W.typeIn K (.ref fi3) = some (.type "function"))
    (lI3 : K.lookup fi3 = some ⟨ioc3, iod3, .func (PySem.W.fnOf "__init__" "InvalidRange.__init__" (defArgs (inClass s_InvalidRange 0)) (defBody (inClass s_InvalidRange 0)) (defScope (inClass s_InvalidRange 0)) .none ikV3 idc3 ipm3 ian3 icd3 ict3), isl3⟩)
    (cI3 : PySem.W.codeIn K icd3 "InvalidRange.__init__" = true)
    (kI3 : PySem.W.keepIn K (.ref fi3) = true)
    (kC3 : PySem.W.keepIn K (.ref C3) = true)
    (eC3 : PySem.W.subIn K (.ref C3) (.type "BaseException") = some true)
    (tC3 : PySem.W.typeIn K (.ref C3) = some (.type "type"))
    (hC3 : PySem.W.hasDictIn K C3 = true)
    (cl3 : PySem.W.findIn K (.ref C3) "__class__" = some (some (.builtin "object.__class__")))
    (mo3 : PySem.W.mroIn K C3 (.type "object") = some true)
    (gC4 : PySem.W.nsIn K mainGlobals "ChangedNumber" = some (some (.ref C4)))
    (xL4 : K.lookup C4 = some (excClassObj nm4 qq4 C4 NN4 bs4 bm4 true sn4 sub4 ab4 col4 dd4 kx0_4 kx1_4 kx2_4 kx3_4 kx5_4 "ValueError.__new__"))
    (bv4 : PySem.HandSPX.refsVE bm4 = true)
    (sa4 : PySem.W.findIn K (.ref C4) "__setattr__" = some (some (.builtin "object.__setattr__")))
    (ga4 : PySem.W.findIn K (.ref C4) "__getattribute__" = some (some (.builtin "BaseException.__getattribute__")))
    (gg4 : PySem.W.findIn K (.ref C4) "__getattr__" = some none)
    (nb4 : PySem.W.findIn K (.ref C4) "value" = some none)
    (iC4 : PySem.W.findIn K (.ref C4) "__init__" = some (some (.ref fi4)))
    (tI4 : PySem.W.typeIn K (.ref fi4) = some (.type "function"))
    (lI4 : K.lookup fi4 = some ⟨ioc4, iod4, .func (PySem.W.fnOf "__init__" "ChangedNumber.__init__" (defArgs (inClass s_ChangedNumber 0)) (defBody (inClass s_ChangedNumber 0)) (defScope (inClass s_ChangedNumber 0)) .none ikV4 idc4 ipm4 ian4 icd4 ict4), isl4⟩)
    (cI4 : PySem.W.codeIn K icd4 "ChangedNumber.__init__" = true)
    (kI4 : PySem.W.keepIn K (.ref fi4) = true)
    (kC4 : PySem.W.keepIn K (.ref C4) = true)
    (eC4 : PySem.W.subIn K (.ref C4) (.type "BaseException") = some true)
    (tC4 : PySem.W.typeIn K (.ref C4) = some (.type "type"))
    (hC4 : PySem.W.hasDictIn K C4 = true)
    (cl4 : PySem.W.findIn K (.ref C4) "__class__" = some (some (.builtin "object.__class__")))
    (mo4 : PySem.W.mroIn K C4 (.type "object") = some true)
    (gC5 : PySem.W.nsIn K mainGlobals "NothingToUndo" = some (some (.ref C5)))
    (xL5 : K.lookup C5 = some (excClassObj nm5 qq5 C5 NN5 bs5 bm5 true sn5 sub5 ab5 col5 dd5 kx0_5 kx1_5 kx2_5 kx3_5 kx5_5 "ValueError.__new__"))
    (bv5 : PySem.HandSPX.refsVE bm5 = true)
    (sa5 : PySem.W.findIn K (.ref C5) "__setattr__" = some (some (.builtin "object.__setattr__")))
    (ga5 : PySem.W.findIn K (.ref C5) "__getattribute__" = some (some (.builtin "BaseException.__getattribute__")))
    (gg5 : PySem.W.findIn K (.ref C5) "__getattr__" = some none)
    (nb5 : PySem.W.findIn K (.ref C5) "value" = some none)
    (iC5 : PySem.W.findIn K (.ref C5) "__init__" = some (some (.ref fi5)))
    (tI5 : PySem.W.typeIn K (.ref fi5) = some (.type "function"))
    (lI5 : K.lookup fi5 = some ⟨ioc5, iod5, .func (PySem.W.fnOf "__init__" "NothingToUndo.__init__" (defArgs (inClass s_NothingToUndo 0)) (defBody (inClass s_NothingToUndo 0)) (defScope (inClass s_NothingToUndo 0)) .none ikV5 idc5 ipm5 ian5 icd5 ict5), isl5⟩)
    (cI5 : PySem.W.codeIn K icd5 "NothingToUndo.__init__" = true)
    (kI5 : PySem.W.keepIn K (.ref fi5) = true)
    (kC5 : PySem.W.keepIn K (.ref C5) = true)
    (eC5 : PySem.W.subIn K (.ref C5) (.type "BaseException") = some true)
    (tC5 : PySem.W.typeIn K (.ref C5) = some (.type "type"))
    (hC5 : PySem.W.hasDictIn K C5 = true)
    (cl5 : PySem.W.findIn K (.ref C5) "__class__" = some (some (.builtin "object.__class__")))
    (mo5 : PySem.W.mroIn K C5 (.type "object") = some true)
    (gC6 : PySem.W.nsIn K mainGlobals "Unreadable" = some (some (.ref C6)))
    (xL6 : K.lookup C6 = some (excClassObj nm6 qq6 C6 NN6 bs6 bm6 true sn6 sub6 ab6 col6 dd6 kx0_6 kx1_6 kx2_6 kx3_6 kx5_6 "ValueError.__new__"))
    (bv6 : PySem.HandSPX.refsVE bm6 = true)
    (sa6 : PySem.W.findIn K (.ref C6) "__setattr__" = some (some (.builtin "object.__setattr__")))
    (ga6 : PySem.W.findIn K (.ref C6) "__getattribute__" = some (some (.builtin "BaseException.__getattribute__")))
    (gg6 : PySem.W.findIn K (.ref C6) "__getattr__" = some none)
    (nb6 : PySem.W.findIn K (.ref C6) "value" = some none)
    (iC6 : PySem.W.findIn K (.ref C6) "__init__" = some (some (.ref fi6)))
    (tI6 : PySem.W.typeIn K (.ref fi6) = some (.type "function"))
    (lI6 : K.lookup fi6 = some ⟨ioc6, iod6, .func (PySem.W.fnOf "__init__" "Unreadable.__init__" (defArgs (inClass s_Unreadable 0)) (defBody (inClass s_Unreadable 0)) (defScope (inClass s_Unreadable 0)) .none ikV6 idc6 ipm6 ian6 icd6 ict6), isl6⟩)
    (cI6 : PySem.W.codeIn K icd6 "Unreadable.__init__" = true)
    (kI6 : PySem.W.keepIn K (.ref fi6) = true)
    (kC6 : PySem.W.keepIn K (.ref C6) = true)
    (eC6 : PySem.W.subIn K (.ref C6) (.type "BaseException") = some true)
    (tC6 : PySem.W.typeIn K (.ref C6) = some (.type "type"))
    (hC6 : PySem.W.hasDictIn K C6 = true)
    (cl6 : PySem.W.findIn K (.ref C6) "__class__" = some (some (.builtin "object.__class__")))
    (mo6 : PySem.W.mroIn K C6 (.type "object") = some true)
    (gCst : PySem.W.nsIn K mainGlobals "CastError" = some (some (.ref C0x)))
    (kt0_0 : PySem.W.kitOne K (.ref C0) (.ref C0) = some true)
    (kt0_1 : PySem.W.kitOne K (.ref C0) (.ref C1) = some false)
    (kt0_2 : PySem.W.kitOne K (.ref C0) (.ref C2) = some false)
    (kt0_3 : PySem.W.kitOne K (.ref C0) (.ref C3) = some false)
    (kt0_4 : PySem.W.kitOne K (.ref C0) (.ref C4) = some false)
    (kt0_5 : PySem.W.kitOne K (.ref C0) (.ref C5) = some false)
    (kt0_6 : PySem.W.kitOne K (.ref C0) (.ref C6) = some false)
    (kb0 : PySem.W.kitOne K (.ref C0) (.ref C0x) = some true)
    (kv0 : PySem.W.kitOne K (.ref C0) (.type "ValueError") = some true)
    (kt1_0 : PySem.W.kitOne K (.ref C1) (.ref C0) = some false)
    (kt1_1 : PySem.W.kitOne K (.ref C1) (.ref C1) = some true)
    (kt1_2 : PySem.W.kitOne K (.ref C1) (.ref C2) = some false)
    (kt1_3 : PySem.W.kitOne K (.ref C1) (.ref C3) = some false)
    (kt1_4 : PySem.W.kitOne K (.ref C1) (.ref C4) = some false)
    (kt1_5 : PySem.W.kitOne K (.ref C1) (.ref C5) = some false)
    (kt1_6 : PySem.W.kitOne K (.ref C1) (.ref C6) = some false)
    (kb1 : PySem.W.kitOne K (.ref C1) (.ref C0x) = some true)
    (kv1 : PySem.W.kitOne K (.ref C1) (.type "ValueError") = some true)
    (kt2_0 : PySem.W.kitOne K (.ref C2) (.ref C0) = some false)
    (kt2_1 : PySem.W.kitOne K (.ref C2) (.ref C1) = some false)
    (kt2_2 : PySem.W.kitOne K (.ref C2) (.ref C2) = some true)
    (kt2_3 : PySem.W.kitOne K (.ref C2) (.ref C3) = some false)
    (kt2_4 : PySem.W.kitOne K (.ref C2) (.ref C4) = some false)
    (kt2_5 : PySem.W.kitOne K (.ref C2) (.ref C5) = some false)
    (kt2_6 : PySem.W.kitOne K (.ref C2) (.ref C6) = some false)
    (kb2 : PySem.W.kitOne K (.ref C2) (.ref C0x) = some true)
    (kv2 : PySem.W.kitOne K (.ref C2) (.type "ValueError") = some true)
    (kt3_0 : PySem.W.kitOne K (.ref C3) (.ref C0) = some false)
    (kt3_1 : PySem.W.kitOne K (.ref C3) (.ref C1) = some false)
    (kt3_2 : PySem.W.kitOne K (.ref C3) (.ref C2) = some false)
    (kt3_3 : PySem.W.kitOne K (.ref C3) (.ref C3) = some true)
    (kt3_4 : PySem.W.kitOne K (.ref C3) (.ref C4) = some false)
    (kt3_5 : PySem.W.kitOne K (.ref C3) (.ref C5) = some false)
    (kt3_6 : PySem.W.kitOne K (.ref C3) (.ref C6) = some false)
    (kb3 : PySem.W.kitOne K (.ref C3) (.ref C0x) = some true)
    (kv3 : PySem.W.kitOne K (.ref C3) (.type "ValueError") = some true)
    (kt4_0 : PySem.W.kitOne K (.ref C4) (.ref C0) = some false)
    (kt4_1 : PySem.W.kitOne K (.ref C4) (.ref C1) = some false)
    (kt4_2 : PySem.W.kitOne K (.ref C4) (.ref C2) = some false)
    (kt4_3 : PySem.W.kitOne K (.ref C4) (.ref C3) = some false)
    (kt4_4 : PySem.W.kitOne K (.ref C4) (.ref C4) = some true)
    (kt4_5 : PySem.W.kitOne K (.ref C4) (.ref C5) = some false)
    (kt4_6 : PySem.W.kitOne K (.ref C4) (.ref C6) = some false)
    (kb4 : PySem.W.kitOne K (.ref C4) (.ref C0x) = some true)
    (kv4 : PySem.W.kitOne K (.ref C4) (.type "ValueError") = some true)
    (kt5_0 : PySem.W.kitOne K (.ref C5) (.ref C0) = some false)
    (kt5_1 : PySem.W.kitOne K (.ref C5) (.ref C1) = some false)
    (kt5_2 : PySem.W.kitOne K (.ref C5) (.ref C2) = some false)
    (kt5_3 : PySem.W.kitOne K (.ref C5) (.ref C3) = some false)
    (kt5_4 : PySem.W.kitOne K (.ref C5) (.ref C4) = some false)
    (kt5_5 : PySem.W.kitOne K (.ref C5) (.ref C5) = some true)
    (kt5_6 : PySem.W.kitOne K (.ref C5) (.ref C6) = some false)
    (kb5 : PySem.W.kitOne K (.ref C5) (.ref C0x) = some true)
    (kv5 : PySem.W.kitOne K (.ref C5) (.type "ValueError") = some true)
    (kt6_0 : PySem.W.kitOne K (.ref C6) (.ref C0) = some false)
    (kt6_1 : PySem.W.kitOne K (.ref C6) (.ref C1) = some false)
    (kt6_2 : PySem.W.kitOne K (.ref C6) (.ref C2) = some false)
    (kt6_3 : PySem.W.kitOne K (.ref C6) (.ref C3) = some false)
    (kt6_4 : PySem.W.kitOne K (.ref C6) (.ref C4) = some false)
    (kt6_5 : PySem.W.kitOne K (.ref C6) (.ref C5) = some false)
    (kt6_6 : PySem.W.kitOne K (.ref C6) (.ref C6) = some true)
    (kb6 : PySem.W.kitOne K (.ref C6) (.ref C0x) = some true)
    (kv6 : PySem.W.kitOne K (.ref C6) (.type "ValueError") = some true)
    (b0x : PySem.W.subIn K (.ref C0x) (.type "BaseException") = some true)
    (i0x : PySem.W.isClsIn K C0x = true)
    (t0x : PySem.W.typeIn K (.ref C0x) = some (.type "type"))
    (s0x0 : PySem.W.subIn K (.ref C0) (.ref C0x) = some true)
    (s0x1 : PySem.W.subIn K (.ref C1) (.ref C0x) = some true)
    (s0x2 : PySem.W.subIn K (.ref C2) (.ref C0x) = some true)
    (s0x3 : PySem.W.subIn K (.ref C3) (.ref C0x) = some true)
    (s0x4 : PySem.W.subIn K (.ref C4) (.ref C0x) = some true)
    (s0x5 : PySem.W.subIn K (.ref C5) (.ref C0x) = some true)
    (s0x6 : PySem.W.subIn K (.ref C6) (.ref C0x) = some true)
    (stp : PySem.W.subIn K (.ref C0) (.type "StopIteration") = some false) :
    ∃ fd : FuncData, (∀ (s : Shared) (v : Value), BindsTo s fd ⟨[v], []⟩ [("script", v)]) ∧ ∀ base : Heap, K.In base → base.Ns mainGlobals mg → FnG l.prog w K mg base CX0 8 fa fd ["script"] (spLaw K) := by
  have e := hfa.symm.trans (PySem.W.mg_of X G a16)
  cases e
  have T_is_cast : Tx K mg "is_cast" s_is_cast := tx_mk X G a0 l0 c0 k0
  have T_check_chain : Tx K mg "check_chain" s_check_chain := tx_mk X G a1 l1 c1 k1
  have T_lowest_result : Tx K mg "lowest_result" s_lowest_result := tx_mk X G a2 l2 c2 k2
  have T_cast : Tx K mg "cast" s_cast := tx_mk X G a3 l3 c3 k3
  have T_after_step : Tx K mg "after_step" s_after_step := tx_mk X G a4 l4 c4 k4
  have T_converted : Tx K mg "converted" s_converted := tx_mk X G a5 l5 c5 k5
  have T_stages : Tx K mg "stages" s_stages := tx_mk X G a6 l6 c6 k6
  have T_fits : Tx K mg "fits" s_fits := tx_mk X G a7 l7 c7 k7
  have T__law_rng : Tx K mg "_law_rng" s_law_rng := tx_mk X G a8 l8 c8 k8
  have T__law_draw : Tx K mg "_law_draw" s_law_draw := tx_mk X G a9 l9 c9 k9
  have T__law_two : Tx K mg "_law_two" s_law_two := tx_mk X G a10 l10 c10 k10
  have T__law_any : Tx K mg "_law_any" s_law_any := tx_mk X G a11 l11 c11 k11
  have T__law_step : Tx K mg "_law_step" s_law_step := tx_mk X G a12 l12 c12 k12
  have T__law_chain : Tx K mg "_law_chain" s_law_chain := tx_mk X G a13 l13 c13 k13
  have T__law_spoilt : Tx K mg "_law_spoilt" s_law_spoilt := tx_mk X G a14 l14 c14 k14
  have T__law_told : Tx K mg "_law_told" s_law_told := tx_mk X G a15 l15 c15 k15
  have m_list : mg "list" = none := PySem.W.mg_none_of X G z_list
  have m_range : mg "range" = none := PySem.W.mg_none_of X G z_range
  have m_len : mg "len" = none := PySem.W.mg_none_of X G z_len
  have m_enumerate : mg "enumerate" = none := PySem.W.mg_none_of X G z_enumerate
  have m_abs : mg "abs" = none := PySem.W.mg_none_of X G z_abs
  have m_min : mg "min" = none := PySem.W.mg_none_of X G z_min
  have m_repr : mg "repr" = none := PySem.W.mg_none_of X G z_repr
  have m_isinstance : mg "isinstance" = none := PySem.W.mg_none_of X G z_isinstance
  have m_ValueError : mg "ValueError" = none := PySem.W.mg_none_of X G z_ValueError
  have O0 : OexC K C0 := ⟨⟨_, _, _, _, _, _, _, _, _, _, _, _, _, _, _, xL0, bv0⟩, sa0, eC0, tC0, kC0⟩
  have X0 : XC K mg "InvalidStep" C0 fi0 := ⟨PySem.W.mg_of X G gC0, O0, ⟨ga0, gg0, eC0, hC0, cl0, hn, ht, mo0⟩, nb0, iC0, tI0⟩
  have I0 := fun_mk lI0 cI0 kI0
  have B0 := I0.binds (ps := ["self", "value"]) fun _ _ _ _ _ _ us hl => match us, hl with | [_, _], _ => rfl
  have O1 : OexC K C1 := ⟨⟨_, _, _, _, _, _, _, _, _, _, _, _, _, _, _, xL1, bv1⟩, sa1, eC1, tC1, kC1⟩
  have X1 : XC K mg "InvalidForm" C1 fi1 := ⟨PySem.W.mg_of X G gC1, O1, ⟨ga1, gg1, eC1, hC1, cl1, hn, ht, mo1⟩, nb1, iC1, tI1⟩
  have I1 := fun_mk lI1 cI1 kI1
  have B1 := I1.binds (ps := ["self", "value"]) fun _ _ _ _ _ _ us hl => match us, hl with | [_, _], _ => rfl
  have O2 : OexC K C2 := ⟨⟨_, _, _, _, _, _, _, _, _, _, _, _, _, _, _, xL2, bv2⟩, sa2, eC2, tC2, kC2⟩
  have X2 : XC K mg "InvalidNumber" C2 fi2 := ⟨PySem.W.mg_of X G gC2, O2, ⟨ga2, gg2, eC2, hC2, cl2, hn, ht, mo2⟩, nb2, iC2, tI2⟩
  have I2 := fun_mk lI2 cI2 kI2
  have B2 := I2.binds (ps := ["self", "value"]) fun _ _ _ _ _ _ us hl => match us, hl with | [_, _], _ => rfl
  have O3 : OexC K C3 := ⟨⟨_, _, _, _, _, _, _, _, _, _, _, _, _, _, _, xL3, bv3⟩, sa3, eC3, tC3, kC3⟩
  have X3 : XC K mg "InvalidRange" C3 fi3 := ⟨PySem.W.mg_of X G gC3, O3, ⟨ga3, gg3, eC3, hC3, cl3, hn, ht, mo3⟩, nb3, iC3, tI3⟩
  have I3 := fun_mk lI3 cI3 kI3
  have B3 := I3.binds (ps := ["self", "value"]) fun _ _ _ _ _ _ us hl => match us, hl with | [_, _], _ => rfl
  have O4 : OexC K C4 := ⟨⟨_, _, _, _, _, _, _, _, _, _, _, _, _, _, _, xL4, bv4⟩, sa4, eC4, tC4, kC4⟩
  have X4 : XC K mg "ChangedNumber" C4 fi4 := ⟨PySem.W.mg_of X G gC4, O4, ⟨ga4, gg4, eC4, hC4, cl4, hn, ht, mo4⟩, nb4, iC4, tI4⟩
  have I4 := fun_mk lI4 cI4 kI4
  have B4 := I4.binds (ps := ["self", "value"]) fun _ _ _ _ _ _ us hl => match us, hl with | [_, _], _ => rfl
  have O5 : OexC K C5 := ⟨⟨_, _, _, _, _, _, _, _, _, _, _, _, _, _, _, xL5, bv5⟩, sa5, eC5, tC5, kC5⟩
  have X5 : XC K mg "NothingToUndo" C5 fi5 := ⟨PySem.W.mg_of X G gC5, O5, ⟨ga5, gg5, eC5, hC5, cl5, hn, ht, mo5⟩, nb5, iC5, tI5⟩
  have I5 := fun_mk lI5 cI5 kI5
  have B5 := I5.binds (ps := ["self", "value"]) fun _ _ _ _ _ _ us hl => match us, hl with | [_, _], _ => rfl
  have O6 : OexC K C6 := ⟨⟨_, _, _, _, _, _, _, _, _, _, _, _, _, _, _, xL6, bv6⟩, sa6, eC6, tC6, kC6⟩
  have X6 : XC K mg "Unreadable" C6 fi6 := ⟨PySem.W.mg_of X G gC6, O6, ⟨ga6, gg6, eC6, hC6, cl6, hn, ht, mo6⟩, nb6, iC6, tI6⟩
  have I6 := fun_mk lI6 cI6 kI6
  have B6 := I6.binds (ps := ["self", "value"]) fun _ _ _ _ _ _ us hl => match us, hl with | [_, _], _ => rfl
  have gCst' := PySem.W.mg_of X G gCst
  have Y := fun (base : Heap) => show Cls l.prog w K mg base (fun i => match i with | 0 => C0 | 1 => C1 | 2 => C2 | 3 => C3 | 4 => C4 | 5 => C5 | _ => C6) (fun i => match i with | 0 => fi0 | 1 => fi1 | 2 => fi2 | 3 => fi3 | 4 => fi4 | 5 => fi5 | _ => fi6) (fun i => match i with | 0 => PySem.W.fnOf "__init__" "InvalidStep.__init__" (defArgs (inClass s_InvalidStep 0)) (defBody (inClass s_InvalidStep 0)) (defScope (inClass s_InvalidStep 0)) .none ikV0 idc0 ipm0 ian0 icd0 ict0 | 1 => PySem.W.fnOf "__init__" "InvalidForm.__init__" (defArgs (inClass s_InvalidForm 0)) (defBody (inClass s_InvalidForm 0)) (defScope (inClass s_InvalidForm 0)) .none ikV1 idc1 ipm1 ian1 icd1 ict1 | 2 => PySem.W.fnOf "__init__" "InvalidNumber.__init__" (defArgs (inClass s_InvalidNumber 0)) (defBody (inClass s_InvalidNumber 0)) (defScope (inClass s_InvalidNumber 0)) .none ikV2 idc2 ipm2 ian2 icd2 ict2 | 3 => PySem.W.fnOf "__init__" "InvalidRange.__init__" (defArgs (inClass s_InvalidRange 0)) (defBody (inClass s_InvalidRange 0)) (defScope (inClass s_InvalidRange 0)) .none ikV3 idc3 ipm3 ian3 icd3 ict3 | 4 => PySem.W.fnOf "__init__" "ChangedNumber.__init__" (defArgs (inClass s_ChangedNumber 0)) (defBody (inClass s_ChangedNumber 0)) (defScope (inClass s_ChangedNumber 0)) .none ikV4 idc4 ipm4 ian4 icd4 ict4 | 5 => PySem.W.fnOf "__init__" "NothingToUndo.__init__" (defArgs (inClass s_NothingToUndo 0)) (defBody (inClass s_NothingToUndo 0)) (defScope (inClass s_NothingToUndo 0)) .none ikV5 idc5 ipm5 ian5 icd5 ict5 | _ => PySem.W.fnOf "__init__" "Unreadable.__init__" (defArgs (inClass s_Unreadable 0)) (defBody (inClass s_Unreadable 0)) (defScope (inClass s_Unreadable 0)) .none ikV6 idc6 ipm6 ian6 icd6 ict6) C0x from
    ⟨(fun i => match i with | 0 => X0 | 1 => X1 | 2 => X2 | 3 => X3 | 4 => X4 | 5 => X5 | _ + 6 => X6), (fun i => match i with | 0 => ini_InvalidStep I0 O0 nb0 | 1 => ini_InvalidForm I1 O1 nb1 | 2 => ini_InvalidNumber I2 O2 nb2 | 3 => ini_InvalidRange I3 O3 nb3 | 4 => ini_ChangedNumber I4 O4 nb4 | 5 => ini_NothingToUndo I5 O5 nb5 | _ + 6 => ini_Unreadable I6 O6 nb6), (fun i => match i with | 0 => B0 | 1 => B1 | 2 => B2 | 3 => B3 | 4 => B4 | 5 => B5 | _ + 6 => B6), (fun i => match i with | 0 => kw_InvalidStep I0 | 1 => kw_InvalidForm I1 | 2 => kw_InvalidNumber I2 | 3 => kw_InvalidRange I3 | 4 => kw_ChangedNumber I4 | 5 => kw_NothingToUndo I5 | _ + 6 => kw_Unreadable I6), gCst', by
      intro i j hi hj
      match i, j, hi, hj with
      | 0, 0, _, _ => exact kt0_0
      | 0, 1, _, _ => exact kt0_1
      | 0, 2, _, _ => exact kt0_2
      | 0, 3, _, _ => exact kt0_3
      | 0, 4, _, _ => exact kt0_4
      | 0, 5, _, _ => exact kt0_5
      | 0, 6, _, _ => exact kt0_6
      | 1, 0, _, _ => exact kt1_0
      | 1, 1, _, _ => exact kt1_1
      | 1, 2, _, _ => exact kt1_2
      | 1, 3, _, _ => exact kt1_3
      | 1, 4, _, _ => exact kt1_4
      | 1, 5, _, _ => exact kt1_5
      | 1, 6, _, _ => exact kt1_6
      | 2, 0, _, _ => exact kt2_0
      | 2, 1, _, _ => exact kt2_1
      | 2, 2, _, _ => exact kt2_2
      | 2, 3, _, _ => exact kt2_3
      | 2, 4, _, _ => exact kt2_4
      | 2, 5, _, _ => exact kt2_5
      | 2, 6, _, _ => exact kt2_6
      | 3, 0, _, _ => exact kt3_0
      | 3, 1, _, _ => exact kt3_1
      | 3, 2, _, _ => exact kt3_2
      | 3, 3, _, _ => exact kt3_3
      | 3, 4, _, _ => exact kt3_4
      | 3, 5, _, _ => exact kt3_5
      | 3, 6, _, _ => exact kt3_6
      | 4, 0, _, _ => exact kt4_0
      | 4, 1, _, _ => exact kt4_1
      | 4, 2, _, _ => exact kt4_2
      | 4, 3, _, _ => exact kt4_3
      | 4, 4, _, _ => exact kt4_4
      | 4, 5, _, _ => exact kt4_5
      | 4, 6, _, _ => exact kt4_6
      | 5, 0, _, _ => exact kt5_0
      | 5, 1, _, _ => exact kt5_1
      | 5, 2, _, _ => exact kt5_2
      | 5, 3, _, _ => exact kt5_3
      | 5, 4, _, _ => exact kt5_4
      | 5, 5, _, _ => exact kt5_5
      | 5, 6, _, _ => exact kt5_6
      | 6, 0, _, _ => exact kt6_0
      | 6, 1, _, _ => exact kt6_1
      | 6, 2, _, _ => exact kt6_2
      | 6, 3, _, _ => exact kt6_3
      | 6, 4, _, _ => exact kt6_4
      | 6, 5, _, _ => exact kt6_5
      | 6, 6, _, _ => exact kt6_6
      | _ + 7, _, hi, _ => exact absurd hi (by omega)
      | 0, _ + 7, _, hj => exact absurd hj (by omega)
      | 1, _ + 7, _, hj => exact absurd hj (by omega)
      | 2, _ + 7, _, hj => exact absurd hj (by omega)
      | 3, _ + 7, _, hj => exact absurd hj (by omega)
      | 4, _ + 7, _, hj => exact absurd hj (by omega)
      | 5, _ + 7, _, hj => exact absurd hj (by omega)
      | 6, _ + 7, _, hj => exact absurd hj (by omega)
    , by
      intro i hi
      match i, hi with
      | 0, _ => exact kb0
      | 1, _ => exact kb1
      | 2, _ => exact kb2
      | 3, _ => exact kb3
      | 4, _ => exact kb4
      | 5, _ => exact kb5
      | 6, _ => exact kb6
      | _ + 7, hi => exact absurd hi (by omega)
    , by
      intro i hi
      match i, hi with
      | 0, _ => exact kv0
      | 1, _ => exact kv1
      | 2, _ => exact kv2
      | 3, _ => exact kv3
      | 4, _ => exact kv4
      | 5, _ => exact kv5
      | 6, _ => exact kv6
      | _ + 7, hi => exact absurd hi (by omega)⟩
  have X0 : ∀ i : Nat, i < 7 → PySem.W.exmOne K (.ref ((fun i => match i with | 0 => C0 | 1 => C1 | 2 => C2 | 3 => C3 | 4 => C4 | 5 => C5 | _ => C6) i)) (.ref C0x) = some true := by
    intro i hi
    match i, hi with
    | 0, _ => exact exm_base b0x i0x t0x s0x0
    | 1, _ => exact exm_base b0x i0x t0x s0x1
    | 2, _ => exact exm_base b0x i0x t0x s0x2
    | 3, _ => exact exm_base b0x i0x t0x s0x3
    | 4, _ => exact exm_base b0x i0x t0x s0x4
    | 5, _ => exact exm_base b0x i0x t0x s0x5
    | 6, _ => exact exm_base b0x i0x t0x s0x6
    | _ + 7, hi => exact absurd hi (by omega)
  exact ⟨_, fun s v => .of_eq rfl, fun base _ _ => all_pr (Y base) X0 stp T_is_cast T_check_chain T_lowest_result T_cast T_after_step T_converted T_stages T_fits T__law_rng T__law_draw T__law_two T__law_any T__law_step T__law_chain T__law_spoilt T__law_told m_list m_range m_len m_enumerate m_abs m_min m_repr m_isinstance m_ValueError _ _ (fun_mk l16 c16 k16)⟩
end Cc
open PySem PySem.W PyProof.Rows
set_option maxHeartbeats 0 in
theorem PySem.Challenge.cw_castchains_k04_errors_of_steps_holds : PySem.Challenge.rw_castchains_k04_errors_of_steps.Holds := by
  w_on; o_law; k_head; (case hw => w_witness2)
  k_fill
  refine Cc.walkG (l := PySem.Challenge.rw_castchains_k04_errors_of_steps) (n := 63) (k := 8) (x := "script") (sp := fun K => Cc.spLaw K) rfl (by decide) rfl ⟨rfl, by decide, by decide⟩ (fun w h Y => PySem.W.kIn_of Y) ?F (fun _ _ a ns hl _ hS => ⟨a, ns, rfl, hS, hl, fun _ => rfl⟩)
  case F =>
    intro w mg fa h KX G hmg
    refine' Cc.all_mk KX G hmg ?a0 ?l0 ?c0 ?k0 ?a1 ?l1 ?c1 ?k1 ?a2 ?l2 ?c2 ?k2 ?a3 ?l3 ?c3 ?k3 ?a4 ?l4 ?c4 ?k4 ?a5 ?l5 ?c5 ?k5 ?a6 ?l6 ?c6 ?k6 ?a7 ?l7 ?c7 ?k7 ?a8 ?l8 ?c8 ?k8 ?a9 ?l9 ?c9 ?k9 ?a10 ?l10 ?c10 ?k10 ?a11 ?l11 ?c11 ?k11 ?a12 ?l12 ?c12 ?k12 ?a13 ?l13 ?c13 ?k13 ?a14 ?l14 ?c14 ?k14 ?a15 ?l15 ?c15 ?k15 ?a16 ?l16 ?c16 ?k16 ?z_list ?z_range ?z_len ?z_enumerate ?z_abs ?z_min ?z_repr ?z_isinstance ?z_ValueError ?gC0 ?xL0 ?bv0 ?sa0 ?ga0 ?gg0 ?nb0 ?iC0 ?tI0 ?lI0 ?cI0 ?kI0 ?kC0 ?eC0 ?tC0 ?hC0 ?cl0 ?mo0 ?hn ?ht ?gC1 ?xL1 ?bv1 ?sa1 ?ga1 ?gg1 ?nb1 ?iC1 ?tI1 ?lI1 ?cI1 ?kI1 ?kC1 ?eC1 ?tC1 ?hC1 ?cl1 ?mo1 ?gC2 ?xL2 ?bv2 ?sa2 ?ga2 ?gg2 ?nb2 ?iC2 ?tI2 ?lI2 ?cI2 ?kI2 ?kC2 ?eC2 ?tC2 ?hC2 ?cl2 ?mo2 ?gC3 ?xL3 ?bv3 ?sa3 ?ga3 ?gg3 ?nb3 ?iC3 ?tI3 ?lI3 ?cI3 ?kI3 ?kC3 ?eC3 ?tC3 ?hC3 ?cl3 ?mo3 ?gC4 ?xL4 ?bv4 ?sa4 ?ga4 ?gg4 ?nb4 ?iC4 ?tI4 ?lI4 ?cI4 ?kI4 ?kC4 ?eC4 ?tC4 ?hC4 ?cl4 ?mo4 ?gC5 ?xL5 ?bv5 ?sa5 ?ga5 ?gg5 ?nb5 ?iC5 ?tI5 ?lI5 ?cI5 ?kI5 ?kC5 ?eC5 ?tC5 ?hC5 ?cl5 ?mo5 ?gC6 ?xL6 ?bv6 ?sa6 ?ga6 ?gg6 ?nb6 ?iC6 ?tI6 ?lI6 ?cI6 ?kI6 ?kC6 ?eC6 ?tC6 ?hC6 ?cl6 ?mo6 ?gCst ?kt0_0 ?kt0_1 ?kt0_2 ?kt0_3 ?kt0_4 ?kt0_5 ?kt0_6 ?kb0 ?kv0 ?kt1_0 ?kt1_1 ?kt1_2 ?kt1_3 ?kt1_4 ?kt1_5 ?kt1_6 ?kb1 ?kv1 ?kt2_0 ?kt2_1 ?kt2_2 ?kt2_3 ?kt2_4 ?kt2_5 ?kt2_6 ?kb2 ?kv2 ?kt3_0 ?kt3_1 ?kt3_2 ?kt3_3 ?kt3_4 ?kt3_5 ?kt3_6 ?kb3 ?kv3 ?kt4_0 ?kt4_1 ?kt4_2 ?kt4_3 ?kt4_4 ?kt4_5 ?kt4_6 ?kb4 ?kv4 ?kt5_0 ?kt5_1 ?kt5_2 ?kt5_3 ?kt5_4 ?kt5_5 ?kt5_6 ?kb5 ?kv5 ?kt6_0 ?kt6_1 ?kt6_2 ?kt6_3 ?kt6_4 ?kt6_5 ?kt6_6 ?kb6 ?kv6 ?b0x ?i0x ?t0x ?s0x0 ?s0x1 ?s0x2 ?s0x3 ?s0x4 ?s0x5 ?s0x6 ?stp
    (case a0 => k_is); (case l0 => k_is); (case c0 => k_is); (case k0 => k_is); (case a1 => k_is); (case l1 => k_is); (case c1 => k_is); (case k1 => k_is); (case a2 => k_is); (case l2 => k_is); (case c2 => k_is); (case k2 => k_is); (case a3 => k_is); (case l3 => k_is); (case c3 => k_is); (case k3 => k_is); (case a4 => k_is); (case l4 => k_is); (case c4 => k_is); (case k4 => k_is); (case a5 => k_is); (case l5 => k_is); (case c5 => k_is); (case k5 => k_is); (case a6 => k_is); (case l6 => k_is); (case c6 => k_is); (case k6 => k_is); (case a7 => k_is); (case l7 => k_is); (case c7 => k_is); (case k7 => k_is); (case a8 => k_is); (case l8 => k_is); (case c8 => k_is); (case k8 => k_is); (case a9 => k_is); (case l9 => k_is); (case c9 => k_is); (case k9 => k_is); (case a10 => k_is); (case l10 => k_is); (case c10 => k_is); (case k10 => k_is); (case a11 => k_is); (case l11 => k_is); (case c11 => k_is); (case k11 => k_is); (case a12 => k_is); (case l12 => k_is); (case c12 => k_is); (case k12 => k_is); (case a13 => k_is); (case l13 => k_is); (case c13 => k_is); (case k13 => k_is); (case a14 => k_is); (case l14 => k_is); (case c14 => k_is); (case k14 => k_is); (case a15 => k_is); (case l15 => k_is); (case c15 => k_is); (case k15 => k_is); (case a16 => k_is); (case l16 => k_is); (case c16 => k_is); (case k16 => k_is); (case z_list => k_is); (case z_range => k_is); (case z_len => k_is); (case z_enumerate => k_is); (case z_abs => k_is); (case z_min => k_is); (case z_repr => k_is); (case z_isinstance => k_is); (case z_ValueError => k_is); (case gC0 => k_is); (case xL0 => k_is); (case bv0 => decide +kernel); (case sa0 => k_is); (case ga0 => k_is); (case gg0 => k_is); (case nb0 => k_is); (case iC0 => k_is); (case tI0 => k_is); (case lI0 => k_is); (case cI0 => k_is); (case kI0 => k_is); (case kC0 => k_is); (case eC0 => k_is); (case tC0 => k_is); (case hC0 => k_is); (case cl0 => k_is); (case mo0 => k_is); (case hn => k_is); (case ht => k_is); (case gC1 => k_is); (case xL1 => k_is); (case bv1 => decide +kernel); (case sa1 => k_is); (case ga1 => k_is); (case gg1 => k_is); (case nb1 => k_is); (case iC1 => k_is); (case tI1 => k_is); (case lI1 => k_is); (case cI1 => k_is); (case kI1 => k_is); (case kC1 => k_is); (case eC1 => k_is); (case tC1 => k_is); (case hC1 => k_is); (case cl1 => k_is); (case mo1 => k_is); (case gC2 => k_is); (case xL2 => k_is); (case bv2 => decide +kernel); (case sa2 => k_is); (case ga2 => k_is); (case gg2 => k_is); (case nb2 => k_is); (case iC2 => k_is); (case tI2 => k_is); (case lI2 => k_is); (case cI2 => k_is); (case kI2 => k_is); (case kC2 => k_is); (case eC2 => k_is); (case tC2 => k_is); (case hC2 => k_is); (case cl2 => k_is); (case mo2 => k_is); (case gC3 => k_is); (case xL3 => k_is); (case bv3 => decide +kernel); (case sa3 => k_is); (case ga3 => k_is); (case gg3 => k_is); (case nb3 => k_is); (case iC3 => k_is); (case tI3 => k_is); (case lI3 => k_is); (case cI3 => k_is); (case kI3 => k_is); (case kC3 => k_is); (case eC3 => k_is); (case tC3 => k_is); (case hC3 => k_is); (case cl3 => k_is); (case mo3 => k_is); (case gC4 => k_is); (case xL4 => k_is); (case bv4 => decide +kernel); (case sa4 => k_is); (case ga4 => k_is); (case gg4 => k_is); (case nb4 => k_is); (case iC4 => k_is); (case tI4 => k_is); (case lI4 => k_is); (case cI4 => k_is); (case kI4 => k_is); (case kC4 => k_is); (case eC4 => k_is); (case tC4 => k_is); (case hC4 => k_is); (case cl4 => k_is); (case mo4 => k_is); (case gC5 => k_is); (case xL5 => k_is); (case bv5 => decide +kernel); (case sa5 => k_is); (case ga5 => k_is); (case gg5 => k_is); (case nb5 => k_is); (case iC5 => k_is); (case tI5 => k_is); (case lI5 => k_is); (case cI5 => k_is); (case kI5 => k_is); (case kC5 => k_is); (case eC5 => k_is); (case tC5 => k_is); (case hC5 => k_is); (case cl5 => k_is); (case mo5 => k_is); (case gC6 => k_is); (case xL6 => k_is); (case bv6 => decide +kernel); (case sa6 => k_is); (case ga6 => k_is); (case gg6 => k_is); (case nb6 => k_is); (case iC6 => k_is); (case tI6 => k_is); (case lI6 => k_is); (case cI6 => k_is); (case kI6 => k_is); (case kC6 => k_is); (case eC6 => k_is); (case tC6 => k_is); (case hC6 => k_is); (case cl6 => k_is); (case mo6 => k_is); (case gCst => k_is); (case kt0_0 => kit_is); (case kt0_1 => kit_is); (case kt0_2 => kit_is); (case kt0_3 => kit_is); (case kt0_4 => kit_is); (case kt0_5 => kit_is); (case kt0_6 => kit_is); (case kb0 => kit_is); (case kv0 => kit_is); (case kt1_0 => kit_is); (case kt1_1 => kit_is); (case kt1_2 => kit_is); (case kt1_3 => kit_is); (case kt1_4 => kit_is); (case kt1_5 => kit_is); (case kt1_6 => kit_is); (case kb1 => kit_is); (case kv1 => kit_is); (case kt2_0 => kit_is); (case kt2_1 => kit_is); (case kt2_2 => kit_is); (case kt2_3 => kit_is); (case kt2_4 => kit_is); (case kt2_5 => kit_is); (case kt2_6 => kit_is); (case kb2 => kit_is); (case kv2 => kit_is); (case kt3_0 => kit_is); (case kt3_1 => kit_is); (case kt3_2 => kit_is); (case kt3_3 => kit_is); (case kt3_4 => kit_is); (case kt3_5 => kit_is); (case kt3_6 => kit_is); (case kb3 => kit_is); (case kv3 => kit_is); (case kt4_0 => kit_is); (case kt4_1 => kit_is); (case kt4_2 => kit_is); (case kt4_3 => kit_is); (case kt4_4 => kit_is); (case kt4_5 => kit_is); (case kt4_6 => kit_is); (case kb4 => kit_is); (case kv4 => kit_is); (case kt5_0 => kit_is); (case kt5_1 => kit_is); (case kt5_2 => kit_is); (case kt5_3 => kit_is); (case kt5_4 => kit_is); (case kt5_5 => kit_is); (case kt5_6 => kit_is); (case kb5 => kit_is); (case kv5 => kit_is); (case kt6_0 => kit_is); (case kt6_1 => kit_is); (case kt6_2 => kit_is); (case kt6_3 => kit_is); (case kt6_4 => kit_is); (case kt6_5 => kit_is); (case kt6_6 => kit_is); (case kb6 => kit_is); (case kv6 => kit_is); (case b0x => k_is); (case i0x => k_is); (case t0x => k_is); (case s0x0 => k_is); (case s0x1 => k_is); (case s0x2 => k_is); (case s0x3 => k_is); (case s0x4 => k_is); (case s0x5 => k_is); (case s0x6 => k_is); (case stp => k_is)


