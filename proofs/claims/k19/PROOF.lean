import PyProof.Rows.All
import Wide.All
import OpenK.AllK
import Wide.FinOn
import HandS.ForMost
import HandS.Flow
import HandS.Wide
import HandS.WideBits
import HandS.RaiseMore
import HandS.SortInts
import HandS.ForExc
import HandS.ExcInit
import HandS.ExcIs
import HandS.ExcValue
import HandS.IsInst
import HandS.ExcCtx
import KE.KExcIs
import HandS.WordsExc
import HandS.ExcOwn
import HandS.Zip
import HandS.Star
import HandS.SetFor
import HandS.NoneIn
import HandS.Style
import KE.GoesEnum
import HandS.Text
import HandS.StrMore
import HandS.Deep
import PyProof.StrOps2
import HandS.Conv
import HandS.TupAny
import HandS.TupSets
import HandS.Set
import HandS.Strs
import KE.SortData
import KE.DataMinMax
import PySem.Challenge.RW_castchains_k19_functions_counted_by_tryi
set_option Elab.async false
set_option linter.all false
set_option maxRecDepth 100000
set_option maxHeartbeats 4000000
/-! A promise that is kept where no repr is under way; repr of plain data; powers of great ints; the frame around one list of ints that changes. -/
namespace Cc
open PySem PySem.Spec PyProof.Rows L2

/-! ### promises where no repr is under way -/
structure FnG (P : Program) (w : World) (K : PySem.W.Frag) (mg : Str → Option Value) (base : Heap) (CX : CXT) (k : Nat) (f : Addr) (fd : FuncData) (ps : List Str) (sp : Sp) : Prop where
  long : ∀ vs H Q E, sp vs H Q E → vs.length = ps.length
  goes : ∀ (A : Around), A.guards = some [] → Room k A → ∀ (outer : List Env) (s : Shared) (H : Hp), Env0 P w K mg base A outer s H → ∀ (args : Args) (us : List Value) (vs : List V) (Q : VK) (E : XK),
    BindsTo s fd args (ps.zip us) → Vals vs us → sp vs H Q E → codeAny (model P w) A (.call (.ref f) args) (CR CX outer P w H s Q E) s
section
variable {P : Program} {w : World} {K : PySem.W.Frag} {mg : Str → Option Value} {base : Heap} {CX : CXT} {k : Nat} {f : Addr} {fd : FuncData} {N ps : List Str} {sp : Sp}
theorem FnG.of (F : FnOk P w K mg base CX k f fd ps sp) : FnG P w K mg base CX k f fd ps sp :=
  ⟨F.len, fun A _ hr outer s H e0 args us vs Q E hb rv hs => F.run A outer s H args us vs Q E hr e0 hb rv hs⟩
theorem FnG.mono {j : Nat} (F : FnG P w K mg base CX j f fd ps sp) (h : j ≤ k) : FnG P w K mg base CX k f fd ps sp :=
  ⟨F.long, fun A hg hr => F.goes A hg (hr.mono h)⟩

theorem ce_of {cX : Cx} {outer : List Env} {s s' : Shared} {H H' : Hp} {Q : VK} {σ : L2.St} {v : V} {u : Value}
    (J : Inv cX [] σ H' s') (e0 : cX.prog = P) (e1 : cX.w = w) (e2 : cX.s_0 = s) (e3 : cX.H_0 = H) (e4 : cX.outer = outer) (e5 : cX.ex = []) (rv : RelV v u) (q : Q v H') : CE outer P w H s Q u s' := by
  subst e0 e1 e2 e3 e4
  refine ⟨v, H', J.os, J.bare, ?_, J.hok, rv, q⟩
  have b := J.base
  rw [e5] at b
  exact b
/-- a def by its body, at one place in a run -/
theorem def_at {qual : Str} {scope : Scope} {name : Str} {params : Arguments} {body : List Stmt} {dV kV doc pm cdv ct oc : Value} {an od : Option Addr} {osl : Array (Option Value)}
    (lk : K.lookup f = some ⟨oc, od, .func (PySem.W.fnOf name qual params body scope dV kV doc pm an cdv ct), osl⟩) (hcd : PySem.W.codeIn K cdv qual = true) (S : FnScope N ps scope)
    {A : Around} {outer : List Env} {s : Shared} {H : Hp} {args : Args} {us : List Value} {vs : List V} {Q : VK} {E : XK} {t : TS}
    (hr : Room (k + 1) A) (e0 : Env0 P w K mg base A outer s H) (hb : BindsTo s (PySem.W.fnOf name qual params body scope dV kV doc pm an cdv ct) args (ps.zip us)) (rv : Vals vs us) (hl : vs.length = ps.length)
    (ht : PSs (cxOf CX P w K mg base N qual scope f cdv A outer s H E) body t) (hq : t { nx := fun _ H' => Q .non H', rt := Q } (start N vs) H) :
    codeAny (model P w) A (.call (.ref f) args) (CR CX outer P w H s Q E) s := by
  have inK : K.In s.heap := e0.mod.kin.keeps fun b o e => (e0.bs b o e).1
  refine codeAny_call_function hr.depth (inK _ _ lk) rfl S.co S.gen rfl (PySem.W.codeRec_of inK hcd) (hb _ _ _ _ ?_)
  have kinds : ∀ y ∈ ps.zip us, scope.names.lookup y.1 = some .local ∨ (scope.names.lookup y.1 = some .cell ∧ ((cellsFrom (s.heap.objs.size + 1) scope.names []).lookup y.1).isSome = true) := by
    intro y hy
    obtain ⟨n, v⟩ := y
    cases S.par n (List.of_mem_zip hy).1 with
    | inl q => exact .inl q
    | inr q => exact .inr ⟨q, PySem.W.cellsFrom_some _ _ _ (.inl q)⟩
  refine wpAny_newFunctionEnv_cells S.kind kinds fun env he s1 x => ?_
  cases he
  have lim : s.heap.NoLimit := e0.mod.nolimit.keeps fun b o e => (e0.bs b o e).1
  refine ⟨lim.keeps x.toInCall.keep, codeAny_func ?_⟩
  have I : Inv (cxOf CX P w K mg base N qual scope f cdv A outer s H E) [] (start N vs) H s1 := inv_start S hr.hd e0 hl rv x
  refine wpAny_mono (ht.run [] s1 (start N vs) H _ I hq) (fun fl s' hs => ?_) fun _ _ h => h
  cases fl with
  | next =>
    obtain ⟨σ', H', J, q⟩ := hs
    exact ce_of (v := V.non) (u := Value.none) J rfl rfl rfl rfl rfl rfl rfl q
  | ret u =>
    obtain ⟨v, σ', H', J, rv', q⟩ := hs
    exact ce_of J rfl rfl rfl rfl rfl rfl rv' q
  | brk =>
    obtain ⟨_, _, _, q⟩ := hs
    exact False.elim q
  | cont =>
    obtain ⟨_, _, _, q⟩ := hs
    exact False.elim q
/-- a def of the text, its body read where no repr is under way -/
theorem okG {x qual : Str} {st : Stmt} (F : Fun K x qual st f fd) (S : FnScope N ps (defScope st)) (len : ∀ vs H Q E, sp vs H Q E → vs.length = ps.length)
    (hbody : ∀ (cdv : Value) (A : Around) (outer : List Env) (s : Shared) (H : Hp) (vs : List V) (Q : VK) (E : XK), A.guards = some [] → Room k (A.deeper (envOfC qual (defScope st) s.heap.objs.size f cdv)) → sp vs H Q E →
      ∃ t, PSs (cxOf CX0 P w K mg base N qual (defScope st) f cdv A outer s H E).nox (defBody st) t ∧ t { nx := fun _ H' => Q .non H', rt := Q } (start N vs) H) :
    FnG P w K mg base CX0 (k + 1) f fd ps sp := by
  obtain ⟨oc, od, kV, doc, pm, an, cdv, ct, osl, rfl, lk, hcd⟩ := F.ex
  refine ⟨len, fun A hg hr outer s H e0 args us vs Q E hb rv hs => ?_⟩
  obtain ⟨t, h, q⟩ := hbody cdv A outer s H vs Q E hg (hr.deeper _) hs
  exact def_at lk hcd S hr e0 hb rv (len _ _ _ _ hs) h.nox q
end

section
variable {X : Cx} {CX : CXT} {k : Nat} {f : Addr} {fd : FuncData} {ps : List Str} {sp : Sp} {dvs : List V} {ds : List Value} {E : XK} {x : Str} {p pos : Pos} {e : Expr} {es : List Expr} {t : TA}
theorem runG {pins : List (Addr × Obj)} {σ : L2.St} {H : Hp} {s : Shared} {Q : VK} {us : List Value} {vs : List V} (F : FnG X.prog X.w X.K X.mg X.base CX k f fd ps sp) (hG : X.A.guards = some []) (hr : Room k X.A) (hb : Binds X.K fd ps ds) (hd : Vals dvs ds) (hx : Passes CX X E)
    (I : Inv X pins σ H s) (r : Vals vs us) (h : sp (vs ++ dvs) H Q E) : wpAny (model X.prog X.w) X.A (call (.ref f) us) (EP X pins σ Q) X.xe s := by
  have both : Vals (vs ++ dvs) (us ++ ds) := r.append hd
  have many : (us ++ ds).length = ps.length := both.length.symm.trans (F.long _ _ _ _ h)
  refine wpAny_call (codeAny_mono (F.goes X.A hG hr X.stack s H I.env0 ⟨us, []⟩ (us ++ ds) (vs ++ dvs) Q E (hb s us I.kIn many) both h) fun r s' hq => ?_)
  match r, hq with
  | .error e, hq => exact hx pins σ H s e s' I hq
  | .ok (.ret u), hq => exact I.after hq
  | .ok .next, hq => exact hq.elim
  | .ok .brk, hq => exact hq.elim
  | .ok .cont, hq => exact hq.elim
/-- f(e, ..) -/
theorem pe_callG (F : FnG X.prog X.w X.K X.mg X.base CX k f fd ps sp) (hG : X.A.guards = some []) (hr : Room k X.A) (hg : Gl X x) (hm : X.mg x = some (.ref f)) (hk : PySem.W.keepIn X.K (.ref f) = true) (hb : Binds X.K fd ps ds) (hd : Vals dvs ds) (hx : Passes CX X E)
    (ha : PA X (e :: es) t) (hdb : (x == ("__debug__" : Str)) = false := by decide) (he : starEach (e :: es) X.env = (false, eval e X.env) :: starEach es X.env := by rfl) (hpl : (backTo pos (starEach es X.env)).any (·.1) = false := by rfl) :
    PE X (.Call (.Name x p) (e :: es) [] pos) (tCall sp dvs E t) :=
  ⟨fun pins s σ H Q I h => wpAny_Call_Name_kw (ld_glob I hg hm (PySem.W.callWith_K (h₀ := X.base) I.ok.mod.kin hk (thn (ha.run pos pins s σ H _ I h) fun us s1 ⟨vs, H1, I1, r, q⟩ => ⟨I1.kIn, runG F hG hr hb hd hx I1 r q⟩) he hpl) hdb)⟩
end

/-! ### the law's own call -/
theorem law_at {P : Program} {w : World} {K : PySem.W.Frag} {mg mb : Str → Option Value} {k : Nat} {fa a : Addr} {fd : FuncData} {x : Str} {sp : Sp} {s₁ : Shared} {vs : List Value} {ns : List Int}
    (inK : K.In s₁.heap) (hns : s₁.heap.Ns mainGlobals mg) (hb : s₁.heap.Ns builtinsNs mb) (hbb : ∀ x : Str, x ≠ "__name__" → mb x = bootBuiltins x) (hlim : s₁.heap.NoLimit) (hg : s₁.gens = #[])
    (ha : s₁.heap.get? a = some { cls := .type "list", data := .seq vs.toArray }) (hi : IntsAre vs ns) (hl : ns.length ≤ sizeLine) (hr : Room k callerA)
    (F : ∀ base : Heap, K.In base → base.Ns mainGlobals mg → FnG P w K mg base CX0 k fa fd [x] sp) (hbind : ∀ (s : Shared) (u : Value), BindsTo s fd ⟨[u], []⟩ [(x, u)])
    (hsp : ∀ H : Hp, Only H → SqL K H a (ns.map V.int) → sp [.ref a] H (fun v _ => v = .bl true) fun _ _ _ => False) :
    codeAny (model P w) callerA (.call (.ref fa) ⟨[.ref a], []⟩) (fun r s' => r = .ok (.ret (.bool true)) ∧ OldK s₁.heap s'.heap ∧ s'.os = s₁.os ∧ AllBare s'.gens) s₁ := by
  -- what is tracked is the script at most
  suffices core : ∀ H : Hp, (∀ b u, H b = some u → b = a ∧ u = .frz { cls := .type "list", data := .seq vs.toArray } (.lst (ns.map V.int)) ∧ K.lookup a = none) → SqL K H a (ns.map V.int) → HOk P w H s₁.heap →
      codeAny (model P w) callerA (.call (.ref fa) ⟨[.ref a], []⟩) (fun r s' => r = .ok (.ret (.bool true)) ∧ OldK s₁.heap s'.heap ∧ s'.os = s₁.os ∧ AllBare s'.gens) s₁ by
    cases hk : K.lookup a with
    | none =>
      refine core (fun b => if b = a then some (.frz { cls := .type "list", data := .seq vs.toArray } (.lst (ns.map V.int))) else none) (fun b u z => ?_) (.inl (.inr ⟨_, if_pos rfl⟩)) fun b u z => ?_
      · by_cases hb : b = a
        · exact ⟨hb, Option.some.inj (z.symm.trans (if_pos hb)), hk⟩
        · exact nomatch (if_neg hb).symm.trans z
      · by_cases hb : b = a
        · obtain rfl := Option.some.inj ((if_pos hb).symm.trans z)
          subst hb
          exact ⟨ha, by rw [List.length_map]; exact hl, vs, _, vals_ints hi, ha⟩
        · exact nomatch (if_neg hb).symm.trans z
    | some o =>
      have e := (inK a o hk).symm.trans ha
      cases e
      refine core (fun _ => none) (fun b u z => nomatch (show (none : Option HO) = some u from z)) (.inr ⟨_, vs.toArray, _, hk, rfl, rfl, rfl, ?_, ?_⟩) fun b u z => nomatch (show (none : Option HO) = some u from z)
      · rw [List.size_toArray, hi.length]; exact hl
      · simpa using vals_ints hi
  intro H only hS hok
  have off : ∀ {b : Addr} {o : Obj}, s₁.heap.get? b = some o → (b = a → False) → (hidT s₁.heap H).get? b = some o := fun {b o} e hne => hidT_get e (by
    cases q : H b with
    | none => rfl
    | some u => exact (hne (only b u q).1).elim)
  have dic : ∀ {b : Addr} {m : Str → Option Value}, s₁.heap.Ns b m → (hidT s₁.heap H).Ns b m := fun {b m} ⟨o, es, ep, e, d, r⟩ => ⟨o, es, ep, off e (fun hba => by
    rw [hba, ha] at e
    cases e
    exact nomatch (show Data.seq vs.toArray _ = Data.dict es ep from d)), d, r⟩
  have inB : K.In (hidT s₁.heap H) := fun b o e => hidT_get (inK b o e) (by
    cases q : H b with
    | none => rfl
    | some u =>
      obtain ⟨hba, _, hn⟩ := only b u q
      rw [hba, hn] at e
      cases e)
  have md : Mod K mg (hidT s₁.heap H) := ⟨inB, dic hns, ⟨mb, dic hb, hbb⟩, let ⟨mc, h1, h2⟩ := hlim; ⟨mc, dic h1, h2⟩⟩
  have e0 : Env0 P w K mg (hidT s₁.heap H) callerA [] s₁ H := ⟨rfl, md, fun _ _ e => of_hidT e, Nat.le_of_eq (hidT_size _ _), trivial, fun b hb => absurd (show b ∈ ([] : List Addr) from hb) (fun z => nomatch z), hok, .of_eq hg⟩
  have oH : Only H := fun b => by
    cases q : H b with
    | none => exact .inl rfl
    | some u => exact .inr ⟨_, _, congrArg some (only b u q).2.1⟩
  refine codeAny_mono ((F _ inB (dic hns)).goes callerA rfl hr [] s₁ H e0 ⟨[.ref a], []⟩ [.ref a] [.ref a] _ _ (hbind s₁ (.ref a)) (.cons rfl .nil) (hsp H oH hS)) fun r s' h => ?_
  match r, h with
  | .error e, h => exact h.elim
  | .ok .next, h => exact h.elim
  | .ok .brk, h => exact h.elim
  | .ok .cont, h => exact h.elim
  | .ok (.ret u), h =>
    obtain ⟨v, H', os, bare, un, hok', rv, q⟩ := h
    cases (show v = .bl true from q)
    cases (show u = Value.bool true from rv)
    refine ⟨rfl, OldK.of_keep fun b o e => ?_, os, bare⟩
    cases q : H b with
    | none => exact un.keep b o e q (fun z => nomatch z) (fun z => nomatch z)
    | some u =>
      obtain ⟨_, rfl, _⟩ := only b u q
      have e1 := (hok b _ q).1
      have e2 := (hok' b _ (un.frzs b _ _ q)).1
      exact e2.trans (e1.symm.trans e)
/-- the goal behind k_head -/
theorem walkG {l : PySem.W.OpenLaw} {n k : Nat} {q : Program} {loose : List Str} {XP : (Str → Option Value) → Heap → Prop} {YP : World → Heap → Prop} {d : DefRec} {K : Params → PySem.W.Frag} {sp : PySem.W.Frag → Sp} {x : Str}
    (hn : l.most = some n) (hn2 : n ≤ sizeLine) (hdf : d.params.defaults = []) (hr : Room k callerA) (hY : ∀ (w : World) (h : Heap), YP w h → (K w.params).In h)
    (F : ∀ (w : World) (mg : Str → Option Value) (fa : Addr) (h : Heap), (K w.params).In h → h.Ns mainGlobals mg → mg d.name = some (.ref fa) →
      ∃ fd : FuncData, (∀ (s : Shared) (u : Value), BindsTo s fd ⟨[u], []⟩ [(x, u)]) ∧ ∀ base : Heap, (K w.params).In base → base.Ns mainGlobals mg → FnG l.prog w (K w.params) mg base CX0 k fa fd [x] (sp (K w.params)))
    (hsp : ∀ (K : PySem.W.Frag) (H : Hp) (a : Addr) (ns : List Int), ns.length ≤ n → Only H → SqL K H a (ns.map V.int) → sp K [.ref a] H (fun v _ => v = .bl true) fun _ _ _ => False) :
    PySem.W.WalkO q loose XP YP l.row.toRowW d [] (fun f vs => PySem.call f vs) := by
  refine Att.attach_call hn hdf fun w s₀ s₁ mg mb fa o pm cd doc a vs ns G Y ho hd hcd hmg hobj hints hlen hg => ?_
  obtain ⟨fd, hb, hF⟩ := F w mg fa _ (hY w _ Y) G.T.g hmg
  exact law_at (hY w _ Y) G.T.g G.T.b G.T.builtins G.T.nolimit hg hobj hints (Nat.le_trans hlen hn2) hr hF hb fun H oH hS => hsp (K w.params) H a ns hlen oH hS

/-! ### repr of plain data -/
section
variable {X : Cx}
def rRepD (K : PySem.W.Frag) : List V → Hp → VK → Prop := fun xs H Q => ∃ v d, xs = [v] ∧ Dp K H v d ∧ d.showable = true ∧ d.depth ≤ 60 ∧ d.shown.length ≤ sizeLine ∧ Q (.str d.shown) H
theorem noDict {K : PySem.W.Frag} {H : Hp} : (∀ (d : PyData) (v : V), Dp K H v d → d.hasDict = false) ∧ True := by
  refine ⟨?_, trivial⟩
  intro d
  refine PyData.rec (motive_1 := fun d => ∀ v, Dp K H v d → d.hasDict = false) (motive_2 := fun ds => ∀ vs, DpAll K H vs ds → PyData.hasDictAll ds = false) (motive_3 := fun _ => True) (motive_4 := fun _ => True) ?_ ?_ ?_ ?_ ?_ ?_ ?_ ?_ ?_ ?_ ?_ ?_ d
  · intro v _; simp only [PyData.hasDict]
  · intro b v _; simp only [PyData.hasDict]
  · intro i v _; simp only [PyData.hasDict]
  · intro x v _; simp only [PyData.hasDict]
  · intro ds ih v h
    cases h with
    | lst _ ha => simp only [PyData.hasDict]; exact ih _ ha
  · intro ds ih v h
    cases h with
    | tup _ ha => simp only [PyData.hasDict]; exact ih _ ha
  · intro kvs _ v h
    cases h
  · intro vs _; simp only [PyData.hasDictAll]
  · intro d ds ih1 ih2 vs h
    cases h with
    | cons h1 h2 => simp only [PyData.hasDictAll, ih1 _ h1, ih2 _ h2, Bool.or_self]
  all_goals (intros; trivial)
theorem cr_repD (hG : X.A.guards = some []) (hu : X.A.units + 64 < cLine) : CallR X (.builtin "repr") (rRepD X.K) := by
  intro pins s σ H xs us Q I r h
  obtain ⟨v, d, rfl, hd, hs, hdp, hz, q⟩ := h
  obtain ⟨u, rfl, ru⟩ := vals1 r
  cases v with
  | ref a =>
    cases ru
    obtain ⟨as, rd⟩ := Dp.reads I d _ _ hd rfl
    exact repr_of_reads' rd hs (PyData.noDict_hsm (noDict.1 d _ hd)) hG (by omega) (fun _ _ e => e) (fun h' u tk hk => ⟨.str _, H, I.kept hk, ⟨_, rfl⟩, q⟩) hz
  | int i =>
    cases hd
    obtain ⟨t, rfl⟩ := ru
    exact PySem.P.repr_of_int (by simpa [PyData.showable] using hs) ⟨.str _, H, I.tok _, ⟨_, rfl⟩, q⟩
  | str x =>
    cases hd
    obtain ⟨t, rfl⟩ := ru
    exact PySem.P.repr_of_str ⟨.str _, H, I.tok _, ⟨_, rfl⟩, q⟩ hz
  | non =>
    cases hd
    cases ru
    exact PySem.P.repr_of_none ⟨.str _, H, I.tok _, ⟨_, rfl⟩, q⟩
  | bl b =>
    cases hd
    cases ru
    exact PySem.P.repr_of_bool ⟨.str _, H, I.tok _, ⟨_, rfl⟩, q⟩
  | byt b => cases hd
  | flt b => cases hd
  | ty n => cases hd
/-- a power of a great int -/
theorem op_powX : OpR X (binaryOp .Pow) (rI (fun i j => 0 ≤ j ∧ j ≤ 64 ∧ i.natAbs < 2 ^ 4000) fun i j => .int (i ^ j.toNat)) := opI fun i j _ _ _ _ _ hc q => by
  refine pow_int hc.1 ?_ q
  have b : (Builtin.Int.intBits i : Int) ≤ 4001 := by
    have h := PySem.Flt.log2_lt_of (k := 4000) (by omega) hc.2.2
    unfold Builtin.Int.intBits
    split <;> omega
  have n0 : (0 : Int) ≤ Builtin.Int.intBits i := Int.natCast_nonneg _
  have : (Builtin.Int.intBits i : Int) * j ≤ 4001 * 64 := Int.mul_le_mul b hc.2.1 hc.1 (by decide)
  have e : (2 : Int) ^ 27 = 134217728 := by decide
  omega
end
end Cc

set_option Elab.async false
set_option linter.all false
set_option maxRecDepth 100000
set_option maxHeartbeats 4000000
namespace Cc
open PySem PySem.Spec PyProof.Rows L2

/-! ### a def of the text by its name -/
def Tx (K : PySem.W.Frag) (mg : Str → Option Value) (x : Str) (st : Stmt) : Prop := ∃ f fd, Fun K x x st f fd ∧ mg x = some (.ref f)
/-- what a def of this name keeps -/
def Pr (P : Program) (w : World) (K : PySem.W.Frag) (mg : Str → Option Value) (base : Heap) (CX : CXT) (k : Nat) (x : Str) (ps : List Str) (sp : Sp) : Prop :=
  ∃ f fd, FnG P w K mg base CX k f fd ps sp ∧ mg x = some (.ref f) ∧ PySem.W.keepIn K (.ref f) = true ∧ Binds K fd ps []
section
variable {P : Program} {w : World} {K : PySem.W.Frag} {mg : Str → Option Value} {base : Heap} {k : Nat} {x : Str} {st : Stmt} {N ps : List Str} {sp : Sp}
theorem mkP (T : Tx K mg x st) (S : FnScope N ps (defScope st))
    (bi : ∀ (kV doc pm : Value) (an : Option Addr) (cdv ct : Value) (us : List Value), us.length = ps.length → bindArgs (PySem.W.fnOf x x (defArgs st) (defBody st) (defScope st) .none kV doc pm an cdv ct) ⟨us, []⟩ = pure (ps.zip us))
    (len : ∀ vs H Q E, sp vs H Q E → vs.length = ps.length)
    (hbody : ∀ (f : Addr) (cdv : Value) (A : Around) (outer : List Env) (s : Shared) (H : Hp) (vs : List V) (Q : VK) (E : XK), A.guards = some [] → Room k (A.deeper (envOfC x (defScope st) s.heap.objs.size f cdv)) → sp vs H Q E →
      ∃ t, PSs (cxOf CX0 P w K mg base N x (defScope st) f cdv A outer s H E).nox (defBody st) t ∧ t { nx := fun _ H' => Q .non H', rt := Q } (start N vs) H) :
    Pr P w K mg base CX0 (k + 1) x ps sp := by
  obtain ⟨f, fd, F, g⟩ := T
  exact ⟨f, fd, okG F S len (hbody f), g, F.kp, F.binds bi⟩
end
/-- the same of the def wherever its object stands -/
def PrAt (P : Program) (w : World) (K : PySem.W.Frag) (mg : Str → Option Value) (base : Heap) (CX : CXT) (k : Nat) (x : Str) (st : Stmt) (ps : List Str) (sp : Sp) : Prop :=
  ∀ f fd, Fun K x x st f fd → FnG P w K mg base CX k f fd ps sp
section
variable {P : Program} {w : World} {K : PySem.W.Frag} {mg : Str → Option Value} {base : Heap} {k : Nat} {x : Str} {st : Stmt} {N ps : List Str} {sp : Sp}
theorem mkA (S : FnScope N ps (defScope st)) (len : ∀ vs H Q E, sp vs H Q E → vs.length = ps.length)
    (hbody : ∀ (f : Addr) (cdv : Value) (A : Around) (outer : List Env) (s : Shared) (H : Hp) (vs : List V) (Q : VK) (E : XK), A.guards = some [] → Room k (A.deeper (envOfC x (defScope st) s.heap.objs.size f cdv)) → sp vs H Q E →
      ∃ t, PSs (cxOf CX0 P w K mg base N x (defScope st) f cdv A outer s H E).nox (defBody st) t ∧ t { nx := fun _ H' => Q .non H', rt := Q } (start N vs) H) :
    PrAt P w K mg base CX0 (k + 1) x st ps sp := fun f fd F => okG F S len (hbody f)
theorem tx_mk {f : Addr} {h : Heap} {oc : Value} {od an : Option Addr} {osl : Array (Option Value)} {kV doc pm cdv ct : Value} (X : K.In h) (G : h.Ns mainGlobals mg) (a : PySem.W.nsIn K mainGlobals x = some (some (.ref f)))
    (l : K.lookup f = some ⟨oc, od, .func (PySem.W.fnOf x x (defArgs st) (defBody st) (defScope st) .none kV doc pm an cdv ct), osl⟩) (c : PySem.W.codeIn K cdv x = true) (kp : PySem.W.keepIn K (.ref f) = true) : Tx K mg x st :=
  ⟨f, _, fun_mk l c kp, PySem.W.mg_of X G a⟩
end
section
variable {X : Cx} {CX : CXT} {j k : Nat} {ps : List Str} {sp : Sp} {x : Str} {p pos : Pos} {e : Expr} {es : List Expr} {t : TA}
theorem pe_P (h : Pr X.prog X.w X.K X.mg X.base CX0 j x ps sp) (hr : Room k X.A) (hG : X.A.guards = some []) (hg : Gl X x) (ha : PA X (e :: es) t) (hj : j ≤ k := by decide)
    (hdb : (x == ("__debug__" : Str)) = false := by decide) (he : starEach (e :: es) X.env = (false, eval e X.env) :: starEach es X.env := by rfl) (hpl : (backTo pos (starEach es X.env)).any (·.1) = false := by rfl) :
    PE X (.Call (.Name x p) (e :: es) [] pos) (tCall sp [] E0 t) := by
  obtain ⟨f, fd, F, g, kp, b⟩ := h
  exact pe_callG F hG (hr.mono hj) hg g kp b .nil pass0 ha hdb he hpl
end

/-! ### readings, one step each -/
theorem cxK {CX : CXT} {P : Program} {w : World} {K : PySem.W.Frag} {mg : Str → Option Value} {base : Heap} {N : List Str} {qual : Str} {scope : Scope} {f : Addr} {cd : Value} {A : Around} {outer : List Env} {s : Shared} {H : Hp} {E : XK} :
    (cxOf CX P w K mg base N qual scope f cd A outer s H E).K = K := rfl
theorem cxKn {CX : CXT} {P : Program} {w : World} {K : PySem.W.Frag} {mg : Str → Option Value} {base : Heap} {N : List Str} {qual : Str} {scope : Scope} {f : Addr} {cd : Value} {A : Around} {outer : List Env} {s : Shared} {H : Hp} {E : XK} :
    (cxOf CX P w K mg base N qual scope f cd A outer s H E).nox.K = K := rfl
section
variable {σ : L2.St} {H : Hp} {Q : VK} {K : PySem.W.Frag} {v x : V} {a b i' : Int} {i n : Nat} {s z : Str} {o : Option V} {k : Bool}
theorem x_var0 {r : L2.St} : tVar 0 (some v :: r) H Q ↔ Q v H := ⟨fun ⟨u, e, q⟩ => by cases e; exact q, fun q => ⟨v, rfl, q⟩⟩
theorem x_varS {r : L2.St} : tVar (n + 1) (o :: r) H Q ↔ tVar n r H Q := Iff.rfl
theorem x_c : tC v σ H Q ↔ Q v H := Iff.rfl
theorem x_op {r : R2} {ta tb : TE} : tOp r ta tb σ H Q ↔ ta σ H fun x H1 => tb σ H1 fun y H2 => r x y H2 Q := Iff.rfl
theorem x_un {r : V → Hp → VK → Prop} {ta : TE} : tUn r ta σ H Q ↔ ta σ H fun x H1 => r x H1 Q := Iff.rfl
theorem x_I0 {g : Int → Int → V} : rI0 g (.int a) (.int b) H Q ↔ Q (g a b) H := ⟨fun ⟨_, _, e1, e2, q⟩ => by cases e1; cases e2; exact q, fun q => ⟨_, _, rfl, rfl, q⟩⟩
theorem x_I {C : Int → Int → Prop} {g : Int → Int → V} : rI C g (.int a) (.int b) H Q ↔ C a b ∧ Q (g a b) H := ⟨fun ⟨_, _, e1, e2, q⟩ => by cases e1; cases e2; exact q, fun q => ⟨_, _, rfl, rfl, q⟩⟩
theorem x_rU {g : Int → V} : rU g (.int a) H Q ↔ Q (g a) H := ⟨fun ⟨_, e1, q⟩ => by cases e1; exact q, fun q => ⟨_, rfl, q⟩⟩
theorem x_nil {Q : List V → Hp → Prop} : tNil σ H Q ↔ Q [] H := Iff.rfl
theorem x_cons {ta : TE} {tr : TA} {Q : List V → Hp → Prop} : tCons ta tr σ H Q ↔ ta σ H fun x H1 => tr σ H1 fun xs H2 => Q (x :: xs) H2 := Iff.rfl
theorem x_test {te : TE} {Q : Bool → Hp → Prop} : tTest te σ H Q ↔ te σ H fun x H1 => ∃ k, x = .bl k ∧ Q k H1 := Iff.rfl
theorem x_B {te : TE} {Q : Bool → Hp → Prop} : tB te σ H Q ↔ te σ H fun x H1 => ∃ k, x = .bl k ∧ Q k H1 := Iff.rfl
theorem x_bl {Q : Bool → Prop} : (∃ c, V.bl k = V.bl c ∧ Q c) ↔ Q k := ⟨fun ⟨_, e, q⟩ => by cases e; exact q, fun q => ⟨_, rfl, q⟩⟩
theorem x_call {sp : Sp} {dvs : List V} {E : XK} {t : TA} : tCall sp dvs E t σ H Q ↔ t σ H fun vs H1 => sp (vs ++ dvs) H1 Q E := Iff.rfl
theorem x_CB {r : List V → Hp → VK → Prop} {t : TA} : tCB r t σ H Q ↔ t σ H fun vs H1 => r vs H1 Q := Iff.rfl
theorem x_tup {t : TA} : tTup t σ H Q ↔ t σ H fun xs H1 => xs.length ≤ sizeLine ∧ ∀ p, H1 p = none → Q (.ref p) (upd H1 p (.tup xs)) := Iff.rfl
theorem x_lst {t : TA} : tLst t σ H Q ↔ t σ H fun xs H1 => xs.length ≤ sizeLine ∧ ∀ p, H1 p = none → Q (.ref p) (upd H1 p (.lst xs)) := Iff.rfl
theorem x_not {t : TT} {Q : Bool → Hp → Prop} : tNot t σ H Q ↔ t σ H fun c H1 => Q (!c) H1 := Iff.rfl
theorem x_seq {t u : TS} {D : Ends} : tSeq t u D σ H ↔ t { D with nx := u D } σ H := Iff.rfl
theorem x_asg {te : TE} {g : TG} {D : Ends} : tAsg te g D σ H ↔ te σ H fun x H1 => g x σ H1 D.nx := Iff.rfl
theorem x_name {Q : L2.St → Hp → Prop} : gName i v σ H Q ↔ Q (σ.set i (some v)) H := Iff.rfl
theorem x_sub {to ti : TE} {t : TSet} {Q : L2.St → Hp → Prop} : gSub to ti t v σ H Q ↔ to σ H fun o H1 => ti σ H1 fun i H2 => t o i v H2 fun H3 => Q σ H3 := Iff.rfl
theorem x_ret {te : TE} {D : Ends} : tRet te D σ H ↔ te σ H D.rt := Iff.rfl
theorem x_ifS {c : TT} {t u : TS} {D : Ends} : tIfS c t u D σ H ↔ c σ H fun b H1 => if b = true then t D σ H1 else u D σ H1 := Iff.rfl
theorem x_next {D : Ends} : tNext D σ H ↔ D.nx σ H := Iff.rfl
theorem x_ixL {p : Addr} {xs : List V} (h : SqL K H p xs) (ha : atI xs i' = some v) (q : Q v H) : rIxL K (.ref p) (.int i') H Q := ⟨p, xs, i', v, rfl, rfl, h, ha, q⟩
theorem x_ixT {p : Addr} {xs : List V} (h : SqT K H p xs) (ha : atI xs i' = some v) (q : Q v H) : rIxT K (.ref p) (.int i') H Q := ⟨p, xs, i', v, rfl, rfl, h, ha, q⟩
theorem x_ite {c : Prop} [Decidable c] {A B : Prop} : (if decide c = true then A else B) ↔ ((c → A) ∧ (¬ c → B)) := by
  by_cases h : c
  · simp [h]
  · simp [h]
theorem x_iteN {c : Prop} [Decidable c] {A B : Prop} : (if (!decide c) = true then A else B) ↔ ((¬ c → A) ∧ (c → B)) := by
  by_cases h : c
  · simp [h]
  · simp [h]
theorem x_T {A B : Prop} : (if true = true then A else B) ↔ A := by simp
theorem x_F {A B : Prop} : (if false = true then A else B) ↔ B := by simp
theorem x_tT {A B : Prop} : (if (!true) = true then A else B) ↔ B := by simp
theorem x_tF {A B : Prop} : (if (!false) = true then A else B) ↔ A := by simp
theorem x_eqII {a b : Int} : scal (.int a) (.int b) = true := rfl
theorem x_eqSS {a b : Str} : scal (.str a) (.str b) = true := rfl
theorem x_eqBB {a b : Bool} : scal (.bl a) (.bl b) = true := rfl
theorem x_Eq : rEq v x H Q ↔ (scal v x = true ∧ Q (.bl (decide (v = x))) H) := Iff.rfl
theorem x_Ne : rNe v x H Q ↔ (scal v x = true ∧ Q (.bl (!decide (v = x))) H) := Iff.rfl
theorem x_and {t u : TT} {Q : Bool → Hp → Prop} : tAnd t u σ H Q ↔ t σ H fun c H1 => if c = true then u σ H1 Q else Q false H1 := Iff.rfl
theorem x_or {t u : TT} {Q : Bool → Hp → Prop} : tOr t u σ H Q ↔ t σ H fun c H1 => if c = true then Q true H1 else u σ H1 Q := Iff.rfl
theorem x_andV {ta tb : TE} : tAndV ta tb σ H Q ↔ ta σ H fun x H1 => ∃ c, x = .bl c ∧ if c = true then tb σ H1 Q else Q (.bl false) H1 := Iff.rfl
theorem x_orV {ta tb : TE} : tOrV ta tb σ H Q ↔ ta σ H fun x H1 => ∃ c, x = .bl c ∧ if c = true then Q (.bl true) H1 else tb σ H1 Q := Iff.rfl
theorem x_notV {ta : TE} : tNotV ta σ H Q ↔ ta σ H fun x H1 => ∃ c, x = .bl c ∧ Q (.bl (!c)) H1 := Iff.rfl
theorem x_if {t : TT} {ta tb : TE} : tIf t ta tb σ H Q ↔ t σ H fun c H1 => if c = true then ta σ H1 Q else tb σ H1 Q := Iff.rfl
theorem x_par {i j : Nat} {ta : TA} {D : Ends} : tPar i j ta D σ H ↔ ta σ H fun vs H1 => ∃ v w, vs = [v, w] ∧ D.nx ((σ.set i (some v)).set j (some w)) H1 := Iff.rfl
theorem x_two {v w : V} {Q : V → V → Prop} : (∃ a b, [v, w] = [a, b] ∧ Q a b) ↔ Q v w := ⟨fun ⟨_, _, e, q⟩ => by cases e; exact q, fun q => ⟨_, _, rfl, q⟩⟩
theorem x_drop {te : TE} {D : Ends} : tDrop te D σ H ↔ te σ H fun _ H1 => D.nx σ H1 := Iff.rfl
theorem x_BM {T : String} {r : V → List V → Hp → VK → Prop} {to : TE} {t : TA} : tBM K T r to t σ H Q ↔ to σ H fun x H1 => tyV K T x H1 ∧ t σ H1 fun xs H2 => r x xs H2 Q := Iff.rfl
theorem x_app {l : Addr} {xs : List V} (h : H l = some (.lst xs)) (hz : xs.length < sizeLine) (q : Q .non (upd H l (.lst (xs ++ [v])))) : rAppend (.ref l) [v] H Q := ⟨l, xs, v, rfl, rfl, h, hz, q⟩
theorem x_tyL {l : Addr} {xs : List V} (h : SqL K H l xs) : tyV K "list" (.ref l) H := Or.inl ⟨rfl, _, h⟩
theorem x_set0 {r : L2.St} {u : Option V} : List.set (o :: r) 0 u = u :: r := rfl
theorem x_setS {r : L2.St} {u : Option V} : List.set (o :: r) (n + 1) u = o :: List.set r n u := rfl
theorem x_setL {p : Addr} {xs : List V} {j : Nat} {Q : Hp → Prop} (h : H p = some (.lst xs)) (hj : ixN xs.length i' = some j) (q : Q (upd H p (.lst (xs.set j v)))) : rSetL (.ref p) (.int i') v H Q := ⟨p, xs, i', j, rfl, rfl, h, hj, q⟩
/-- what is left of a for loop over J -/
def Lp (J : It) (g : TG) (tb : TS) (D : Ends) (σ : L2.St) (H1 : Hp) : Prop := ∃ W : Nat → Nat → L2.St → Hp → Prop, (∃ m, W 0 m σ H1) ∧ ∀ i m σ H, W i m σ H →
  (J.stop i H ∧ D.nx σ H) ∨ (J.go i H ∧ ∃ N : L2.St → Hp → Prop, (∀ σ' H', N σ' H' → ∃ m', m' < m ∧ W (i + 1) m' σ' H') ∧ ∀ x H', J.yld i H x H' → g x σ H' fun σ2 H2 => tb { D with nx := N, ct := N, bk := D.nx } σ2 H2)
theorem x_forL {te : TE} {g : TG} {tb : TS} {D : Ends} : tFor (iList K te) g tb D σ H ↔ te σ H fun x H1 => ∃ a, x = .ref a ∧ (∃ xs, SqL K H1 a xs) ∧ Lp (Itl K a) g tb D σ H1 := Iff.rfl
theorem x_forT {te : TE} {g : TG} {tb : TS} {D : Ends} : tFor (iTup K te) g tb D σ H ↔ te σ H fun x H1 => ∃ a, x = .ref a ∧ (∃ xs, SqT K H1 a xs) ∧ Lp (Itt K a) g tb D σ H1 := Iff.rfl
theorem x_forR1 {ta : TA} {g : TG} {tb : TS} {D : Ends} : tFor (iRng1 ta) g tb D σ H ↔ ta σ H fun vs H1 => ∃ j : Int, vs = [.int j] ∧ -(2 ^ 62) ≤ j ∧ j < 2 ^ 62 ∧ Lp (Itr 0 j.toNat) g tb D σ H1 := Iff.rfl
theorem x_forR2 {ta : TA} {g : TG} {tb : TS} {D : Ends} : tFor (iRng2 ta) g tb D σ H ↔ ta σ H fun vs H1 => ∃ i j : Int, vs = [.int i, .int j] ∧ (-(2 ^ 62) ≤ i ∧ i < 2 ^ 62 ∧ -(2 ^ 62) ≤ j ∧ j < 2 ^ 62) ∧ Lp (Itr i (j - i).toNat) g tb D σ H1 := Iff.rfl
theorem x_forE {ta : TA} {g : TG} {tb : TS} {D : Ends} : tFor (iEnum K ta) g tb D σ H ↔ ta σ H fun vs H1 => ∃ a xs, vs = [.ref a] ∧ SqL K H1 a xs ∧ Lp (Ite K a) g tb D σ H1 := Iff.rfl
theorem lpL {a : Addr} {xs : List V} {g : TG} {tb : TS} {D : Ends} (Pv : Nat → L2.St → Hp → Prop) (h0 : Pv 0 σ H) (hl : ∀ i σ H, i ≤ xs.length → Pv i σ H → SqL K H a xs)
    (hs : ∀ i x σ H, xs[i]? = some x → Pv i σ H → g x σ H fun σ2 H2 => tb { D with nx := Pv (i + 1), ct := Pv (i + 1), bk := D.nx } σ2 H2) (hd : ∀ σ H, Pv xs.length σ H → D.nx σ H) : Lp (Itl K a) g tb D σ H := for_list Pv h0 hl hs hd
theorem lpT {a : Addr} {xs : List V} {g : TG} {tb : TS} {D : Ends} (Pv : Nat → L2.St → Hp → Prop) (h0 : Pv 0 σ H) (hl : ∀ i σ H, i ≤ xs.length → Pv i σ H → SqT K H a xs)
    (hs : ∀ i x σ H, xs[i]? = some x → Pv i σ H → g x σ H fun σ2 H2 => tb { D with nx := Pv (i + 1), ct := Pv (i + 1), bk := D.nx } σ2 H2) (hd : ∀ σ H, Pv xs.length σ H → D.nx σ H) : Lp (Itt K a) g tb D σ H := for_tup Pv h0 hl hs hd
theorem lpR {lo : Int} {m : Nat} {g : TG} {tb : TS} {D : Ends} (Pv : Nat → L2.St → Hp → Prop) (h0 : Pv 0 σ H)
    (hs : ∀ i σ H, i < m → Pv i σ H → g (.int (lo + i)) σ H fun σ2 H2 => tb { D with nx := Pv (i + 1), ct := Pv (i + 1), bk := D.nx } σ2 H2) (hd : ∀ σ H, Pv m σ H → D.nx σ H) : Lp (Itr lo m) g tb D σ H := for_range Pv h0 hs hd
theorem lpE {a : Addr} {xs : List V} {g : TG} {tb : TS} {D : Ends} (Pv : Nat → L2.St → Hp → Prop) (h0 : Pv 0 σ H) (hl : ∀ i σ H, i ≤ xs.length → Pv i σ H → SqL K H a xs)
    (hs : ∀ i x σ H T, xs[i]? = some x → Pv i σ H → H T = none → g (.ref T) σ (upd H T (.tup [.int (i : Nat), x])) fun σ2 H2 => tb { D with nx := Pv (i + 1), ct := Pv (i + 1), bk := D.nx } σ2 H2) (hd : ∀ σ H, Pv xs.length σ H → D.nx σ H) : Lp (Ite K a) g tb D σ H := by
  refine ⟨fun i m σ H => m = xs.length - i ∧ i ≤ xs.length ∧ Pv i σ H, ⟨xs.length, by simp, Nat.zero_le _, h0⟩, ?_⟩
  rintro i m σ H ⟨rfl, hi, p⟩
  have q := hl i σ H hi p
  by_cases hlt : i < xs.length
  · refine .inr ⟨⟨xs, xs[i], q, by simp [hlt]⟩, Pv (i + 1), fun σ' H' p' => ⟨xs.length - (i + 1), by omega, rfl, hlt, p'⟩, fun x H' y => ?_⟩
    obtain ⟨T, z, rfl, nT, rfl, f⟩ := y
    have e := f xs q
    exact hs i z σ H T e p nT
  · have e : i = xs.length := by omega
    subst e
    exact .inl ⟨⟨xs, q, Nat.le_refl _⟩, hd σ H p⟩
theorem x_ref {b : Addr} {P : Addr → Prop} : (∃ a, V.ref b = V.ref a ∧ P a) ↔ P b := ⟨fun ⟨_, e, q⟩ => by cases e; exact q, fun q => ⟨_, rfl, q⟩⟩
theorem x_int1 {a : Int} {P : Int → Prop} : (∃ i, V.int a = V.int i ∧ P i) ↔ P a := ⟨fun ⟨_, e, q⟩ => by cases e; exact q, fun q => ⟨_, rfl, q⟩⟩
theorem x_oneI {a : Int} {P : Int → Prop} : (∃ i, [V.int a] = [V.int i] ∧ P i) ↔ P a := ⟨fun ⟨_, e, q⟩ => by cases e; exact q, fun q => ⟨_, rfl, q⟩⟩
theorem x_oneB {P : Bool → Prop} : (∃ i, [V.bl k] = [V.bl i] ∧ P i) ↔ P k := ⟨fun ⟨_, e, q⟩ => by cases e; exact q, fun q => ⟨_, rfl, q⟩⟩
theorem x_noBI {P : Int → Prop} : (∃ i, [V.bl k] = [V.int i] ∧ P i) ↔ False := ⟨fun ⟨_, e, _⟩ => (nomatch e), fun q => q.elim⟩
theorem x_twoI {a b : Int} {P : Int → Int → Prop} : (∃ i j, [V.int a, V.int b] = [V.int i, V.int j] ∧ P i j) ↔ P a b := ⟨fun ⟨_, _, e, q⟩ => by cases e; exact q, fun q => ⟨_, _, rfl, q⟩⟩
theorem x_sl {r : V → Option Int → Option Int → Hp → VK → Prop} {te : TE} {tl th : TO} : tSl r te tl th σ H Q ↔ te σ H fun x H1 => tl σ H1 fun l H2 => th σ H2 fun u H3 => r x l u H3 Q := Iff.rfl
theorem x_noP {Q : Option Int → Hp → Prop} : tNoPart σ H Q ↔ Q none H := Iff.rfl
theorem x_part {te : TE} {Q : Option Int → Hp → Prop} : tPart te σ H Q ↔ te σ H fun x H1 => ∃ i, x = .int i ∧ Q (some i) H1 := Iff.rfl
theorem x_slL {a : Addr} {xs : List V} {lo hi : Option Int} (h : SqL K H a xs) (q : ∀ p, H p = none → Q (.ref p) (upd H p (.lst (cutV xs lo hi)))) : rSlL K (.ref a) lo hi H Q := ⟨a, xs, rfl, h, q⟩
theorem same_new {H : Hp} {p : Addr} {o : HO} (h : H p = none) : Same H (upd H p o) := fun b x e => by rw [upd_ne (ne_of_none e h)]; exact e
theorem same_mut {H H' : Hp} {p : Addr} {o : HO} (e : Same H H') (h : H p = none) : Same H (upd H' p o) := fun a u ha => by rw [upd_ne (ne_of_none ha h)]; exact e a u ha
theorem x_gtup {a : Addr} {xs : List V} {t : TGs} {Q : L2.St → Hp → Prop} (h : SqT K H a xs) (hl : xs.length = n) (q : t xs σ H Q) : gTup K n t (.ref a) σ H Q := ⟨a, xs, rfl, h, hl, q⟩
theorem x_gcons {t : TG} {u : TGs} {xs : List V} {Q : L2.St → Hp → Prop} : gCons t u (v :: xs) σ H Q ↔ t v σ H fun σ' H' => u xs σ' H' Q := ⟨fun ⟨_, _, e, q⟩ => by cases e; exact q, fun q => ⟨_, _, rfl, q⟩⟩
theorem x_gnil {Q : L2.St → Hp → Prop} : gNil [] σ H Q ↔ Q σ H := ⟨fun ⟨_, q⟩ => q, fun q => ⟨rfl, q⟩⟩
theorem x_dec {a b : Int} : decide (V.int a = V.int b) = decide (a = b) := by
  by_cases h : a = b
  · simp [h]
  · rw [decide_eq_false h, decide_eq_false (fun e => h (V.int.inj e))]
theorem x_decS {a b : Str} : decide (V.str a = V.str b) = decide (a = b) := by
  by_cases h : a = b
  · simp [h]
  · rw [decide_eq_false h, decide_eq_false (fun e => h (V.str.inj e))]
end
theorem atI_in {xs : List V} {i : Int} (h0 : 0 ≤ i) (h1 : i < xs.length) : ∃ x, atI xs i = some x ∧ x ∈ xs := by
  have hj : i.toNat < xs.length := by omega
  refine ⟨xs[i.toNat], ?_, List.getElem_mem hj⟩
  have e := atI_nat (xs := xs) (j := i.toNat) (List.getElem?_eq_getElem hj)
  rwa [Int.toNat_of_nonneg h0] at e
/-- an if without else: what follows is shown once, for all heaps of which I holds -/
theorem joinI {c A : Prop} {G : Hp → Prop} {H : Hp} (I : Hp → Prop) (hI : I H) (t : ∀ H, I H → G H) (ha : c → (∀ H, I H → G H) → A) : (c → A) ∧ (¬ c → G H) := ⟨fun h => ha h t, fun _ => t H hI⟩
theorem joinE {c A : Prop} {G : Hp → Prop} {H : Hp} (I : Hp → Prop) (hI : I H) (t : ∀ H, I H → G H) (ha : ¬ c → (∀ H, I H → G H) → A) : (c → G H) ∧ (¬ c → A) := ⟨fun _ => t H hI, fun h => ha h t⟩
end Cc

set_option Elab.async false
set_option linter.all false
set_option maxRecDepth 100000
set_option maxHeartbeats 4000000
/-! When repr of plain data is short enough. -/
namespace Cc
open PySem PySem.Spec PyProof.Rows L2
mutual
def smallD : PyData → Prop
  | .none => True
  | .bool _ => True
  | .int i => i.natAbs < 10 ^ 500
  | .str x => ∀ c ∈ x.cps.toList, c < 16 ^ 8
  | .list xs => smallL xs
  | .tuple xs => smallL xs
  | .dict _ => False
def smallL : List PyData → Prop
  | [] => True
  | x :: xs => smallD x ∧ smallL xs
end
mutual
theorem small_ok : ∀ d : PyData, smallD d → d.showable = true ∧ d.leavesShort 700 = true
  | .none, _ => ⟨rfl, rfl⟩
  | .bool _, _ => ⟨rfl, rfl⟩
  | .int i, h => by
    have h1 : i.natAbs < 10 ^ 500 := by simpa only [smallD] using h
    have h2 : i.natAbs < 2 ^ 1920 := Nat.lt_trans h1 (by decide +kernel)
    refine ⟨by simp only [PyData.showable, decide_eq_true_eq]; exact log2_small h2, ?_⟩
    simp only [PyData.leavesShort, decide_eq_true_eq, PyData.shown]
    refine decide_eq_true ?_
    rw [PySem.ofString_length]
    exact Nat.le_trans (int_text_length_le10 (k := 500) (by decide) h1) (show 500 + 1 ≤ 700 by decide)
  | .str x, h => by
    refine ⟨rfl, ?_⟩
    simp only [PyData.leavesShort, List.all_eq_true, decide_eq_true_eq]
    simpa only [smallD] using h
  | .list xs, h => by
    have q := small_okL xs (by simpa only [smallD] using h)
    exact ⟨by simpa only [PyData.showable] using q.1, by simpa only [PyData.leavesShort] using q.2⟩
  | .tuple xs, h => by
    have q := small_okL xs (by simpa only [smallD] using h)
    exact ⟨by simpa only [PyData.showable] using q.1, by simpa only [PyData.leavesShort] using q.2⟩
  | .dict _, h => by simp only [smallD] at h
theorem small_okL : ∀ ds : List PyData, smallL ds → PyData.showableAll ds = true ∧ PyData.leavesShortAll 700 ds = true
  | [], _ => ⟨rfl, rfl⟩
  | d :: ds, h => by
    have h' : smallD d ∧ smallL ds := by simpa only [smallL] using h
    have q1 := small_ok d h'.1
    have q2 := small_okL ds h'.2
    exact ⟨by simp only [PyData.showableAll, q1.1, q2.1, Bool.and_self], by simp only [PyData.leavesShortAll, q1.2, q2.2, Bool.and_self]⟩
end
def Rok (d : PyData) : Prop := d.showable = true ∧ d.depth ≤ 60 ∧ d.shown.length ≤ sizeLine
theorem rok_of {d : PyData} (h : smallD d) (hd : d.depth ≤ 60) (hb : d.bulk ≤ 20000) : Rok d := by
  have q := small_ok d h
  refine ⟨q.1, hd, ?_⟩
  have z := PyData.shown_le_bulk 700 (by decide) d q.2
  have : (700 + 2) * d.bulk ≤ 702 * 20000 := Nat.mul_le_mul (by omega) hb
  rw [sizeLine_eq]
  omega
section
variable {K : PySem.W.Frag} {H : Hp} {Q : VK} {v : V} {d : PyData}
theorem x_repD (h : Dp K H v d) (r : Rok d) (q : Q (.str d.shown) H) : rRepD K [v] H Q := ⟨v, d, rfl, h, r.1, r.2.1, r.2.2, q⟩
end
theorem nat_abs_lt {i : Int} (h0 : -(10 ^ 400) < i) (h1 : i < 10 ^ 400) : i.natAbs < 10 ^ 500 := by
  have h : i.natAbs < 10 ^ 400 := by
    rcases Int.natAbs_eq i with e | e
    · rw [e] at h1; exact_mod_cast h1
    · rw [e] at h0
      have : ((i.natAbs : Nat) : Int) < 10 ^ 400 := by omega
      exact_mod_cast this
  exact Nat.lt_trans h (by decide +kernel)
end Cc

set_option Elab.async false
set_option linter.all false
set_option maxRecDepth 100000
set_option maxHeartbeats 4000000
/-! Data in a growing heap; comprehensions; a text repeated. -/
namespace Cc
open PySem PySem.Spec PyProof.Rows L2
theorem Same.tup' {K : PySem.W.Frag} {H H' : Hp} {a : Addr} {xs : List V} (e : Same H H') (h : SqT K H a xs) : SqT K H' a xs := by
  rcases h with (h | ⟨o, h⟩) | h
  · exact .inl (.inl (e _ _ h))
  · exact .inl (.inr ⟨o, e _ _ h⟩)
  · exact .inr h
mutual
theorem Dp.same {K : PySem.W.Frag} {H H' : Hp} (e : Same H H') : ∀ (d : PyData) {v : V}, Dp K H v d → Dp K H' v d
  | .none, _, h => by cases h; exact .non
  | .bool b, _, h => by cases h; exact .bl b
  | .int i, _, h => by cases h; exact .int i
  | .str x, _, h => by cases h; exact .str x
  | .list ds, _, h => by
    cases h with
    | lst hs ha => exact .lst (e.seq hs) (DpAll.same e ds ha)
  | .tuple ds, _, h => by
    cases h with
    | tup hs ha => exact .tup (Same.tup' e hs) (DpAll.same e ds ha)
  | .dict _, _, h => by cases h
theorem DpAll.same {K : PySem.W.Frag} {H H' : Hp} (e : Same H H') : ∀ (ds : List PyData) {vs : List V}, DpAll K H vs ds → DpAll K H' vs ds
  | [], _, h => by cases h; exact .nil
  | d :: ds, _, h => by
    cases h with
    | cons h1 h2 => exact .cons (Dp.same e d h1) (DpAll.same e ds h2)
end
theorem dpBools {K : PySem.W.Frag} {H : Hp} : ∀ bs : List Bool, DpAll K H (bs.map V.bl) (bs.map PyData.bool)
  | [] => .nil
  | b :: bs => .cons (.bl b) (dpBools bs)
/-- what is left of a comprehension over J, its list at D -/
def Lcp (J : It) (g : TG) (tt : TT) (te : TE) (vs : List Nat) (σ : L2.St) (D : Addr) (H1 : Hp) (Q : VK) : Prop := ∃ W : Nat → Nat → Hp → Prop, (∃ m, W 0 m (upd H1 D (.lst []))) ∧ ∀ i m H, W i m H →
  (J.stop i H ∧ Q (.ref D) H) ∨ (J.go i H ∧ ∃ Nx : Hp → Prop, (∀ H', Nx H' → ∃ m', m' < m ∧ W (i + 1) m' H') ∧ ∀ x H', J.yld i H x H' → g x (wipe σ vs) H' fun σ2 H2 => wipe σ2 vs = wipe σ vs ∧ tt σ2 H2 fun b H3 =>
    if b = true then te σ2 H3 fun y H4 => ∃ acc, H4 D = some (.lst acc) ∧ acc.length < sizeLine ∧ Nx (upd H4 D (.lst (acc ++ [y]))) else Nx H3)
section
variable {K : PySem.W.Frag} {σ : L2.St} {H : Hp} {Q : VK} {g : TG} {tt : TT} {te tl : TE} {ta : TA} {vs : List Nat} {D : Addr} {n : Nat} {o : Option V}
theorem x_lcR1 : tLc (iRng1 ta) g tt te vs σ H Q ↔ ta σ H fun ws H1 => ∃ j : Int, ws = [.int j] ∧ -(2 ^ 62) ≤ j ∧ j < 2 ^ 62 ∧ ∀ D, H1 D = none → Lcp (Itr 0 j.toNat) g tt te vs σ D H1 Q := Iff.rfl
theorem x_lcL : tLc (iList K tl) g tt te vs σ H Q ↔ tl σ H fun x H1 => ∃ a, x = .ref a ∧ (∃ xs, SqL K H1 a xs) ∧ ∀ D, H1 D = none → Lcp (Itl K a) g tt te vs σ D H1 Q := Iff.rfl
theorem lcR {lo : Int} {n : Nat} (Pv : Nat → Hp → Prop) (h0 : Pv 0 (upd H D (.lst [])))
    (hs : ∀ i H, i < n → Pv i H → g (.int (lo + i)) (wipe σ vs) H fun σ2 H2 => wipe σ2 vs = wipe σ vs ∧ tt σ2 H2 fun b H3 =>
      if b = true then te σ2 H3 fun y H4 => ∃ acc, H4 D = some (.lst acc) ∧ acc.length < sizeLine ∧ Pv (i + 1) (upd H4 D (.lst (acc ++ [y]))) else Pv (i + 1) H3) (hd : ∀ H, Pv n H → Q (.ref D) H) : Lcp (Itr lo n) g tt te vs σ D H Q := lc_range Pv h0 hs hd
theorem lcL {a : Addr} {xs : List V} (Pv : Nat → Hp → Prop) (h0 : Pv 0 (upd H D (.lst []))) (hl : ∀ i H, i ≤ xs.length → Pv i H → SqL K H a xs)
    (hs : ∀ i x H, xs[i]? = some x → Pv i H → g x (wipe σ vs) H fun σ2 H2 => wipe σ2 vs = wipe σ vs ∧ tt σ2 H2 fun b H3 =>
      if b = true then te σ2 H3 fun y H4 => ∃ acc, H4 D = some (.lst acc) ∧ acc.length < sizeLine ∧ Pv (i + 1) (upd H4 D (.lst (acc ++ [y]))) else Pv (i + 1) H3) (hd : ∀ H, Pv xs.length H → Q (.ref D) H) : Lcp (Itl K a) g tt te vs σ D H Q := lc_list Pv h0 hl hs hd
theorem x_yes {Q : Bool → Hp → Prop} : tYes σ H Q ↔ Q true H := Iff.rfl
theorem x_wipe0 : wipe σ [] = σ := rfl
theorem x_wipeS {v : Nat} : wipe σ (v :: vs) = (wipe σ vs).set v none := rfl
end
/-! ### a text repeated -/
theorem rep_size (a : Array Nat) : ∀ (n : Nat) (b : Array Nat), ((List.replicate n a).foldl (· ++ ·) b).size = b.size + n * a.size
  | 0, b => by simp
  | n + 1, b => by
    rw [List.replicate_succ, List.foldl_cons, rep_size a n (b ++ a), Array.size_append, Nat.succ_mul]
    omega
theorem rep_mem (a : Array Nat) : ∀ (n : Nat) (b : Array Nat) (c : Nat), c ∈ ((List.replicate n a).foldl (· ++ ·) b).toList → c ∈ b.toList ∨ c ∈ a.toList
  | 0, b, c, h => by simp at h; exact .inl (by simpa using h)
  | n + 1, b, c, h => by
    rw [List.replicate_succ, List.foldl_cons] at h
    rcases rep_mem a n (b ++ a) c h with h | h
    · rw [Array.toList_append, List.mem_append] at h
      exact h
    · exact .inr h
section
variable {X : Cx}
def rRepS : R2 := fun x y H Q => ∃ z n, x = .str z ∧ y = .int n ∧ 0 ≤ n ∧ n ≤ 1000 ∧ z.length ≤ 1000 ∧ ∀ z' : Str, z'.length ≤ z.length * n.toNat → (∀ c ∈ z'.cps.toList, c ∈ z.cps.toList) → Q (.str z') H
theorem op_repS : OpR X (binaryOp .Mult) rRepS := by
  intro pins s σ H x y v u Q I rx ry h
  obtain ⟨z, n, rfl, rfl, n0, n1, hz, q⟩ := h
  obtain ⟨t, rfl⟩ := rx
  obtain ⟨t', rfl⟩ := ry
  have hm : z.length * n.toNat ≤ 1000 * 1000 := Nat.mul_le_mul hz (by omega)
  refine PySem.P.mul_str (by simp; omega) (fun h1 _ => ?_) (fun _ _ => ?_) ?_
  · have h2 : (1000 : Int) ≤ (2 ^ 63 - 1) / n := by
      rw [Int.le_ediv_iff_mul_le (by omega)]
      omega
    omega
  · unfold PySem.Builtin.Str.tooLong
    rw [decide_eq_false]
    rw [sizeLine_eq]
    omega
  · split
    · exact ⟨by decide, ⟨.str Str.empty, H, I.tok _, ⟨_, rfl⟩, q _ (Nat.zero_le _) (fun c hc => nomatch hc)⟩⟩
    · split
      · rename_i h1 h2
        refine ⟨.str z, H, I, ⟨_, rfl⟩, q z ?_ (fun c hc => hc)⟩
        exact Nat.le_mul_of_pos_right _ (by omega)
      · refine ⟨?_, ⟨.str _, H, I.tok _, ⟨_, rfl⟩, q _ ?_ (fun c hc => ?_)⟩⟩
        · show ((List.replicate n.toNat z.cps).foldl (· ++ ·) #[]).size ≤ sizeLine
          rw [rep_size, sizeLine_eq, Nat.mul_comm, show z.cps.size = z.length from rfl]
          simp only [List.size_toArray, List.length_nil]
          omega
        · show ((List.replicate n.toNat z.cps).foldl (· ++ ·) #[]).size ≤ _
          rw [rep_size, Nat.mul_comm, show z.cps.size = z.length from rfl]
          simp only [List.size_toArray, List.length_nil]
          omega
        · rcases rep_mem _ _ _ _ hc with h | h
          · exact nomatch h
          · exact h
end
section
variable {σ : L2.St} {H : Hp} {Q : VK} {z : Str} {n : Int}
theorem x_repS (n0 : 0 ≤ n) (n1 : n ≤ 1000) (hz : z.length ≤ 1000) (q : ∀ z' : Str, z'.length ≤ z.length * n.toNat → (∀ c ∈ z'.cps.toList, c ∈ z.cps.toList) → Q (.str z') H) : rRepS (.str z) (.int n) H Q := ⟨z, n, rfl, rfl, n0, n1, hz, q⟩
theorem x_cat {l b : Addr} {xs zs : List V} (h1 : H l = some (.lst xs)) (h2 : H b = some (.lst zs)) (hz : xs.length + zs.length ≤ sizeLine) (q : ∀ p, H p = none → Q (.ref p) (upd H p (.lst (xs ++ zs)))) : rCat (.ref l) (.ref b) H Q := ⟨l, b, xs, zs, rfl, rfl, h1, h2, hz, q⟩
end
end Cc

set_option Elab.async false
set_option linter.all false
set_option maxRecDepth 100000
set_option maxHeartbeats 4000000
/-! Chains: what steps make of a number; how a chain stands in the heap. -/
namespace Cc
open PySem PySem.Spec PyProof.Rows L2
abbrev Ch := List (Str × Int)
def lowI (w : Str) (n : Int) : Int := if w = "u" then 0 else -(2 ^ (n - 1).toNat)
def castI (x : Int) (w : Str) (n : Int) : Int := lowI w n + (x - lowI w n) % 2 ^ n.toNat
def stepI (x : Int) (s : Str × Int) : Int := if s.1 = "add" then x + s.2 else castI x s.1 s.2
def convI (x : Int) (c : Ch) : Int := c.foldl stepI x
def isC (w : Str) (n : Int) : Bool := decide (w = "u" ∨ w = "s") && decide (1 ≤ n)
def okS (s : Str × Int) : Bool := decide (s.1 = "add") || isC s.1 s.2
def big : Int := 100000
def okC (c : Ch) : Prop := ∀ s ∈ c, okS s = true ∧ s.2 ≤ (if s.1 = "add" then s.2 else big)
theorem two_pos (n : Nat) : (0 : Int) < 2 ^ n := by
  have h : 0 < 2 ^ n := Nat.two_pow_pos n
  exact_mod_cast h

/-- the tuples of a chain -/
inductive Sts (K : PySem.W.Frag) (H : Hp) : List V → Ch → Prop
  | nil : Sts K H [] []
  | cons {t : Addr} {w : Str} {n : Int} {xs : List V} {c : Ch} : SqT K H t [.str w, .int n] → Sts K H xs c → Sts K H (.ref t :: xs) ((w, n) :: c)
def ChAt (K : PySem.W.Frag) (H : Hp) (a : Addr) (c : Ch) : Prop := ∃ xs, SqL K H a xs ∧ Sts K H xs c
theorem Same.tup {K : PySem.W.Frag} {H H' : Hp} {a : Addr} {xs : List V} (e : Same H H') (h : SqT K H a xs) : SqT K H' a xs := by
  rcases h with (h | ⟨o, h⟩) | h
  · exact .inl (.inl (e _ _ h))
  · exact .inl (.inr ⟨o, e _ _ h⟩)
  · exact .inr h
section
variable {K : PySem.W.Frag} {H H' : Hp} {xs : List V} {c : Ch} {a : Addr}
theorem Sts.same (e : Same H H') : ∀ {xs : List V} {c : Ch}, Sts K H xs c → Sts K H' xs c
  | _, _, .nil => .nil
  | _, _, .cons h t => .cons (Same.tup e h) (Sts.same e t)
theorem Sts.len : ∀ {xs : List V} {c : Ch}, Sts K H xs c → xs.length = c.length
  | _, _, .nil => rfl
  | _, _, .cons _ t => congrArg (· + 1) (Sts.len t)
theorem Sts.get : ∀ {xs : List V} {c : Ch} {i : Nat} {x : V}, Sts K H xs c → xs[i]? = some x → ∃ t w n, x = .ref t ∧ c[i]? = some (w, n) ∧ SqT K H t [.str w, .int n]
  | _, _, _, _, .nil, e => by simp at e
  | _, _, 0, _, .cons h _, e => by
    simp at e
    exact ⟨_, _, _, e.symm, rfl, h⟩
  | _, _, i + 1, x, .cons _ t, e => by
    obtain ⟨t', w, n, e1, e2, e3⟩ := Sts.get (i := i) (x := x) t (by simpa using e)
    exact ⟨t', w, n, e1, by simpa using e2, e3⟩
theorem ChAt.same (e : Same H H') (h : ChAt K H a c) : ChAt K H' a c := by
  obtain ⟨xs, h1, h2⟩ := h
  exact ⟨xs, e.seq h1, h2.same e⟩
end
theorem inV2 (w : Str) : inV (.str w) [.str "u", .str "s"] = decide (w = "u" ∨ w = "s") := by
  show (((("u" : Str) == w) || (("s" : Str) == w || false))) = _
  rw [Bool.or_false, Bool.eq_iff_iff]
  simp only [Bool.or_eq_true, beq_iff_eq, decide_eq_true_eq]
  exact ⟨fun h => h.elim (fun h => .inl h.symm) (fun h => .inr h.symm), fun h => h.elim (fun h => .inl h.symm) (fun h => .inr h.symm)⟩
theorem convI_take {c : Ch} {x : Int} {i : Nat} {s : Str × Int} (h : c[i]? = some s) : convI x (c.take (i + 1)) = stepI (convI x (c.take i)) s := by
  unfold convI
  rw [List.take_add_one, h, List.foldl_append]
  rfl
theorem isC_of {x : Str} {n : Int} (h : okS (x, n) = true) (hx : ¬ x = "add") : 1 ≤ n := by
  unfold okS isC at h
  simp [hx] at h
  exact h.2
end Cc

set_option Elab.async false
set_option linter.all false
set_option maxRecDepth 100000
set_option maxHeartbeats 4000000
/-! An exception of an own class made by a call with keywords. -/
namespace PySem
namespace HandSPX
open PySem.W PySem.Calls PyProof.Rows
section
variable {nm q : Str} {C N : Addr} {bs bm bmB : List Value} {hdct : Bool} {sn : List Str} {sub : List Value} {ab : Bool} {col : Option Bool} {dd : Option Addr} {k0 k1 k2 k3 k5 : Option Value} {B newId initId : String}
variable {h : Heap} {g : Array GenState} {d : Drawn} {t : Nat} {os : OsState}
theorem kwx_check_new {M : Model} {A : Around} {E : Value → Shared → Prop} {key : Str} {v : Value} {Q : Unit → Shared → Prop}
    (F : ExcBaseFacts B newId initId bmB) (hT : ∀ X : String, bm.contains (.type X) = bmB.contains (.type X))
    (hC : h.get? C = some (excClassObj nm q C N bs bm hdct sn sub ab col dd k0 k1 k2 k3 k5 newId)) (hq : Q () ⟨h, g, d, t, os⟩) :
    wpAny M A (checkBuiltinCall newId ⟨[.ref C], [(key, v)]⟩) Q E ⟨h, g, d, t, os⟩ := by
  have inB : (Value.ref C :: bm).contains (.type B) = true := by
    rw [List.contains_cons, hT]
    rw [F.hasB, Bool.or_true]
  have star := F.noStar
  simp only [checkBuiltinCall, F.newKind, F.newSplit, F.newRow]
  repeat (first
    | refine wpAny_loadPart_at hC ?_
    | (refine wpAny_isSubtype_exc hC ?_
       rw [inB])
    | refine wpAny_staticBase_exc hC ?_
    | refine wpAny_madeBy_exc hC ?_
    | simp only [bne_self_eq_false, Bool.false_eq_true, if_false]
    | wp_step)
  exact hq
theorem kwx_check_call {M : Model} {A : Around} {E : Value → Shared → Prop} {key : Str} {v : Value} {Q : Unit → Shared → Prop}
    (hC : h.get? C = some (excClassObj nm q C N bs bm hdct sn sub ab col dd k0 k1 k2 k3 k5 newId)) (hq : Q () ⟨h, g, d, t, os⟩) :
    wpAny M A (checkBuiltinCall "type.__call__" ⟨[.ref C], [(key, v)]⟩) Q E ⟨h, g, d, t, os⟩ := by
  have f3 := tc_sub
  have isT : (⟨h, g, d, t, os⟩ : Shared).TypeIs (.ref C) "type" := ⟨_, hC, rfl⟩
  simp only [checkBuiltinCall, tc_kind, tc_split]
  repeat (any_goals (first
    | assumption
    | with_reducible refine wpAny_loadPart_at hC ?_
    | with_reducible refine wpAny_onRaise ?_
    | with_reducible refine wpAny_map ?_
    | wp_step))
end
section
variable {nm q : Str} {C N : Addr} {bs bm bmB : List Value} {hdct : Bool} {sn : List Str} {sub : List Value} {ab : Bool} {col : Option Bool} {dd : Option Addr} {k0 k1 k2 k3 k5 : Option Value} {B newId initId : String}
variable {h : Heap} {g : Array GenState} {d : Drawn} {t : Nat} {os : OsState} {prog : Program} {w : World} {A : Around} {E : Value → Shared → Prop} {R : Result → Shared → Prop}
theorem kwx_new {key : Str} {v : Value} (F : ExcBaseFacts B newId initId bmB) (hT : ∀ X : String, bm.contains (.type X) = bmB.contains (.type X))
    (hC : h.get? C = some (excClassObj nm q C N bs bm hdct sn sub ab col dd k0 k1 k2 k3 k5 newId))
    (hq : R (.ok (.ret (.ref (h.objs.size + 1)))) ⟨(h.push (W.kdv_tup [])).push (excO C h.objs.size), g, d, t, os⟩) :
    codeAny (model prog w) A (.builtin newId ⟨[.ref C], [(key, v)]⟩) R ⟨h, g, d, t, os⟩ := by
  have ends := F.ends
  have inB : (Value.ref C :: bm).contains (.type B) = true := by rw [List.contains_cons, hT]; rw [F.hasB, Bool.or_true]
  have inA : (Value.ref C :: bm).contains (.type "AttributeError") = false := by rw [List.contains_cons, hT]; simp only [F.noAttr]; rfl
  have inN : (Value.ref C :: bm).contains (.type "NameError") = false := by rw [List.contains_cons, hT]; simp only [F.noName]; rfl
  refine codeAny_builtinAt F.entry ?_
  unfold Builtin.«BaseException.__new__»
  refine wpAt_bind ?_
  show wpAt _ _ _ (stack >>= _) _ _ _
  refine wpAt_bind (wpAt_stack fun p below => wpAt_of_wpAny ?_)
  wp_walk
  refine wpAt_of_wpAny ?_
  rw [F.owner]
  repeat (first
    | with_reducible refine wpAny_madeHere_exc F.canon hC ?_
    | with_reducible refine wpAny_loadPart_at hC ?_
    | (with_reducible refine wpAny_isSubtype_exc hC ?_
       first
       | rw [inB]
       | rw [inA]
       | rw [inN])
    | wp_step)
  show R _ _
  rw [Heap.size_push]
  exact hq
theorem kwx_type_call {key : Str} {v : Value} {fI : Addr} {Q : Fin → Shared → Prop} (F : ExcBaseFacts B newId initId bmB) (hT : ∀ X : String, bm.contains (.type X) = bmB.contains (.type X))
    (hC : h.get? C = some (excClassObj nm q C N bs bm hdct sn sub ab col dd k0 k1 k2 k3 k5 newId))
    (hi : W.Looks (model prog w) h (typeLookup (.ref C) "__init__") (some (.ref fI))) (hb : ∀ self, W.Looks (model prog w) h (bindSpecial (.ref fI) self) (.ref fI, [self]))
    (hq : codeAny (model prog w) A (.call (.ref fI) ⟨[.ref (h.objs.size + 1)], [(key, v)]⟩)
      (fun r s' => match r with | .ok (.ret z) => z = .none ∧ Q (.done (.ret (.ref (h.objs.size + 1)))) s' | .ok _ => False | .error e => E e s')
      ⟨(h.push (W.kdv_tup [])).push (excO C h.objs.size), g, d, t, os⟩) :
    wpAny (model prog w) A (Builtin.«type.__call__» ⟨[.ref C], [(key, v)]⟩) Q E ⟨h, g, d, t, os⟩ := by
  repeat (first
    | with_reducible refine wpAny_loadPart_at hC ?_
    | with_reducible refine wpAny_madeBy_exc hC ?_
    | wp_step)
  refine codeAny_call_builtin_code (Code.quiet_builtin _ F.quiet) (kwx_check_new F hT hC ?_)
  refine kwx_new F hT hC ?_
  show wpAny _ _ _ _ _ _
  have keep : ∀ b o, h.get? b = some o → ((h.push (W.kdv_tup [])).push (excO C h.objs.size)).get? b = some o := fun b o e => Heap.get?_push_of_some _ (Heap.get?_push_of_some _ e)
  have atC := keep _ _ hC
  have atE : ((h.push (W.kdv_tup [])).push (excO C h.objs.size)).get? (h.objs.size + 1) = some (excO C h.objs.size) := by heap_get
  have inC : (Value.ref C :: bm).contains (.ref C) = true := by simp
  have i1 := hi.keeps keep
  have b1 := (hb (.ref (h.objs.size + 1))).keeps keep
  unfold isInstance
  repeat (first
    | with_reducible refine wpAny_loadPart_at atE ?_
    | (with_reducible refine wpAny_isSubtype_exc atC ?_
       rw [inC])
    | wp_step)
  show wpAny _ _ (typeLookup (.ref C) _) _ _ _
  refine i1.at ?_
  refine wpAny_holding (wpAny_bind (b1.at ?_))
  refine wpAny_bind (wpAny_call (codeAny_mono hq fun r s' z => ?_))
  match r, z with
  | .error e, z => exact z
  | .ok .next, z => exact z.elim
  | .ok .brk, z => exact z.elim
  | .ok .cont, z => exact z.elim
  | .ok (.ret u), z =>
    obtain ⟨rfl, z⟩ := z
    first
      | exact wpAny_pure (wpAny_pure z)
      | (wp_walk; exact z)
theorem kwx_call {key : Str} {v : Value} {fI : Addr} (F : ExcBaseFacts B newId initId bmB) (hT : ∀ X : String, bm.contains (.type X) = bmB.contains (.type X))
    (hC : h.get? C = some (excClassObj nm q C N bs bm hdct sn sub ab col dd k0 k1 k2 k3 k5 newId))
    (hi : W.Looks (model prog w) h (typeLookup (.ref C) "__init__") (some (.ref fI))) (hb : ∀ self, W.Looks (model prog w) h (bindSpecial (.ref fI) self) (.ref fI, [self]))
    (hq : codeAny (model prog w) (A.under (.builtin "type.__call__" ⟨[.ref C], [(key, v)]⟩)) (.call (.ref fI) ⟨[.ref (h.objs.size + 1)], [(key, v)]⟩) (W.InitBack (h.objs.size + 1) R)
      ⟨(h.push (W.kdv_tup [])).push (excO C h.objs.size), g, d, t, os⟩) :
    codeAny (model prog w) A (.call (.ref C) ⟨[], [(key, v)]⟩) R ⟨h, g, d, t, os⟩ := by
  have f1 := tc_lookup
  have f2 := tc_bind (.ref C)
  have isT : (⟨h, g, d, t, os⟩ : Shared).TypeIs (.ref C) "type" := ⟨_, hC, rfl⟩
  refine codeAny_of_tree ?_
  show wpAny _ _ (callAny (.ref C) _) _ _ _
  repeat (any_goals (first
    | assumption
    | with_reducible refine wpAny_loadPart_at hC ?_
    | wp_step))
  refine ⟨rfl, ?_⟩
  refine codeAny_call_builtin_at (Code.quiet_builtin _ (by decide +kernel)) entry_typeCall (kwx_check_call hC (kwx_type_call F hT hC hi hb ?_))
  refine codeAny_mono hq fun r s' z => ?_
  match r, z with
  | .error e, z => exact z
  | .ok .next, z => exact z
  | .ok .brk, z => exact z
  | .ok .cont, z => exact z
  | .ok (.ret u), z => exact z
end
end HandSPX
end PySem

set_option Elab.async false
set_option linter.all false
set_option maxRecDepth 100000
set_option maxHeartbeats 4000000
/-! Exceptions of own classes as values: made, asked for their class, their field read. -/
namespace Cc
open PySem PySem.Spec PyProof.Rows L2
/-- an exception of the class cls stands at a, its own dict at d -/
def exT (a : Addr) (cls : Value) (d : Option Addr) : HO := .ext fun h => ∃ oe vs, h.get? a = some oe ∧ L2N.Zn cls d oe ∧ oe.data = .fields vs
theorem exT_ok {P : Program} {w : World} {H : Hp} {h : Heap} {a : Addr} {cls : Value} {d : Option Addr} {oe : Obj} {vs : Array Value} (e : h.get? a = some oe) (z : L2N.Zn cls d oe) (f : oe.data = .fields vs) : ObjOk P w H h a (exT a cls d) :=
  ⟨⟨oe, vs, e, z, f⟩, ⟨oe, e⟩, fun _ _ ⟨o, v, q, r⟩ k => ⟨o, v, k o q, r⟩⟩
/-- what the written part says of an exception class with an __init__ that stores value -/
structure XC (K : PySem.W.Frag) (mg : Str → Option Value) (x : Str) (C fI : Addr) : Prop where
  gC : mg x = some (.ref C)
  T : OexC K C
  I : ExcC K C
  no : PySem.W.findIn K (.ref C) "value" = some none
  iC : PySem.W.findIn K (.ref C) "__init__" = some (some (.ref fI))
  tI : PySem.W.typeIn K (.ref fI) = some (.type "function")
def spInit (K : PySem.W.Frag) (C : Addr) : Sp := fun vs H Q _ => ∃ (a : Addr) (v : V), vs = [.ref a, v] ∧ H a = some (exo a C none) ∧ ∀ dx, H dx = none → dx ≠ a → Q .non (upd (upd H dx (exd dx [("value", v)])) a (exo a C (some dx)))
section
variable {X : Cx} {x : Str} {C fI : Addr} {e : Expr} {ta : TA} {p pos : Pos} {k : Nat} {fd : FuncData}
theorem made_eq {H1 : Hp} {a d : Addr} {C : Addr} {fs : List (Str × V)} {u v : HO} (na : H1 a = none) (hne : d ≠ a) :
    upd (del (upd (upd (upd H1 a u) d (exd d fs)) a v) a) d (.xd fs) = upd H1 d (.xd fs) := by
  funext b
  by_cases hd : b = d
  · rw [hd, upd_same, upd_same]
  · rw [upd_ne hd, upd_ne hd]
    by_cases ha : b = a
    · rw [ha, del_same, na]
    · rw [del_ne ha, upd_ne ha, upd_ne hd, upd_ne ha]
/-- an exception of the class at C is made of the values vs -/
def MkR (K : PySem.W.Frag) (C : Addr) (vs : List V) (H1 : Hp) (Q : XK) : Prop := vs.length ≤ 1000 ∧ ∀ a, H1 a = none → spInit K C (.ref a :: (vs ++ [])) (upd H1 a (exo a C none))
  (fun v H2 => v = .non ∧ ∃ (d : Addr) (fs : List (Str × V)), H2 a = some (exo a C (some d)) ∧ H2 d = some (exd d fs) ∧ H1 d = none ∧ Q (.ref C) (some d) (upd (del H2 a) d (.xd fs))) (fun _ _ _ => False)
theorem mkR {K : PySem.W.Frag} {H1 : Hp} {v : V} {Q : XK} (h : ∀ d, H1 d = none → Q (.ref C) (some d) (upd H1 d (.xd [("value", v)]))) : MkR K C [v] H1 Q :=
  ⟨by simp, fun a na => ⟨a, v, rfl, upd_same, fun d hd hne => ⟨rfl, d, _, upd_same, by rw [upd_ne hne, upd_same], by rw [upd_ne hne] at hd; exact hd, by
    rw [upd_ne hne] at hd
    rw [made_eq (C := C) na hne]
    exact h d hd⟩⟩⟩
def asV (Q : VK) : XK := fun cls d H' => ∀ a, H' a = none → Q (.ref a) (upd H' a (exT a cls d))
/-- as a value -/
theorem mkV {K : PySem.W.Frag} {H1 : Hp} {v : V} {Q : VK} (h : ∀ d a, H1 d = none → upd H1 d (.xd [("value", v)]) a = none → Q (.ref a) (upd (upd H1 d (.xd [("value", v)])) a (exT a (.ref C) (some d)))) : MkR K C [v] H1 (asV Q) :=
  mkR fun d hd a ha => h d a hd ha
theorem pe_mk {t : L2.St → Hp → XK → Prop} (h : L2N.PMk X e t) : PE X e (fun σ H Q => t σ H (asV Q)) := by
  refine ⟨fun pins s σ H Q I q => thn (h pins s σ H _ I q) fun u s1 hu => ?_⟩
  obtain ⟨a, oe, vs, sI, H', cls, d, rfl, J, kp, ne, ho, hz, hf, _, na, os, ag, _, q1⟩ := hu
  obtain ⟨hp, g, dr, tk, o1⟩ := s1
  have J2 : Inv X pins σ (upd H' a (exT a cls d)) { sI with heap := hp, toks := tk } := J.laidN (t' := tk) kp ne na (exT_ok ho hz hf)
  have J3 : Inv X pins σ (upd H' a (exT a cls d)) ⟨hp, g, dr, tk, o1⟩ := ⟨J2.ok, os.trans J2.os, ag, J2.base, J2.loc, J2.cell, J2.free, J2.freeC, J2.pin, J2.hok, J2.len⟩
  exact ⟨.ref a, _, J3, rfl, q1 a na⟩
def tMk (K : PySem.W.Frag) (C : Addr) (ta : TA) : L2.St → Hp → XK → Prop := fun σ H Q => ta σ H fun vs H1 => MkR K C vs H1 Q
def tMkV (K : PySem.W.Frag) (C : Addr) (ta : TA) : TE := fun σ H Q => ta σ H fun vs H1 => MkR K C vs H1 (asV Q)
/-- what a made exception leaves, its context none -/
theorem endN {pins : List (Addr × Obj)} {σ : L2.St} {H1 H2 : Hp} {Q : XK} {hp hp2 h2 : Heap} {g1 g2 : Array GenState} {d1 d2 : Drawn} {t1 t2 : Nat} {os1 os2 : OsState} {a C d : Addr} {fs : List (Str × V)}
    (T : Raises X (.ref C)) (I1 : Inv X pins σ H1 ⟨hp, g1, d1, t1, os1⟩) (ha : hp.objs.size ≤ a) (k : ∀ b o, hp.get? b = some o → hp2.get? b = some o)
    (un : Un (frs X.stack) [] (upd H1 a (exo a C none)) H2 hp2 h2) (hok : HOk X.prog X.w H2 h2) (ho : os2 = os1) (hb : AllBare g2)
    (ea : H2 a = some (exo a C (some d))) (ed : H2 d = some (exd d fs)) (hd1 : H1 d = none) (q : Q (.ref C) (some d) (upd (del H2 a) d (.xd fs))) : L2N.MkP X pins σ Q (.ref a) ⟨h2, g2, d2, t2, os2⟩ :=
  match mk_end0 (d2 := d2) (t2 := t2) I1 ha k un hok ho hb ea ed hd1 with
  | ⟨_, G, J, kG, ge, hoe, na⟩ => ⟨a, _, _, ⟨G, g2, d2, t2, os2⟩, _, .ref C, some d, rfl, J, kG, ge, hoe, ⟨rfl, rfl, fun vs hv => by cases hv; rfl⟩, rfl, rfl, na, rfl, hb, T, q⟩
theorem pmk_ex (Y : XC X.K X.mg x C fI) (F1 : FnOk X.prog X.w X.K X.mg X.base CX0 k fI fd ["self", "value"] (spInit X.K C)) (hr : Room (k + 1) X.A) (hb : Binds X.K fd ["self", "value"] []) (hg : Gl X x) (ha : PA X [e] ta)
    (hdb : (x == ("__debug__" : Str)) = false := by decide) (he : starEach [e] X.env = (false, eval e X.env) :: starEach [] X.env := by rfl) (hpl : (backTo pos (starEach [] X.env)).any (·.1) = false := by rfl) :
    L2N.PMk X (.Call (.Name x p) [e] [] pos) (tMk X.K C ta) := by
  intro pins s σ H Q I h
  obtain ⟨nm, q, N, bs, bm, sn, sub, ab, col, dd, k0, k1, k2, k3, k5, hC, hbm⟩ := Y.T.cls
  refine wpAny_Call_Name_kw (ld_glob I hg Y.gC ?_ hdb)
  refine PySem.W.callWith_K (h₀ := X.base) I.ok.mod.kin Y.T.kC (thn (ha.run pos pins s σ H _ I h) fun ws s1 ⟨vs, H1, I1, rz, _, q1⟩ => ⟨I1.kIn, ?_⟩) he hpl
  obtain ⟨hp, g, dr, tk, os⟩ := s1
  have more : hp.objs.size ≤ hp.objs.size + 1 := Nat.le_succ _
  have hn : H1 (hp.objs.size + 1) = none := I1.hok.fresh more
  have hq := q1 (hp.objs.size + 1) hn
  obtain ⟨v, rfl⟩ : ∃ v, vs = [v] := by
    obtain ⟨a0, v, e0, _⟩ := hq
    rw [List.append_nil] at e0
    obtain ⟨_, e2⟩ := List.cons.inj e0
    exact ⟨v, e2⟩
  cases rz with
  | @cons _ wv _ ur rv rest =>
    cases rest
    have atE : ((hp.push (PySem.W.kdv_tup [wv])).push (PySem.HandSPX.excO C hp.objs.size)).get? (hp.objs.size + 1) = some (PySem.HandSPX.excO C hp.objs.size) := by heap_get
    have kk : ∀ b o, hp.get? b = some o → ((hp.push (PySem.W.kdv_tup [wv])).push (PySem.HandSPX.excO C hp.objs.size)).get? b = some o := fun b o z => Heap.get?_push_of_some _ (Heap.get?_push_of_some _ z)
    have I2 := I1.laid (t' := tk) (a := hp.objs.size + 1) (o := exo (hp.objs.size + 1) C none) (h' := (hp.push (PySem.W.kdv_tup [wv])).push (PySem.HandSPX.excO C hp.objs.size)) kk more (exo_ok atE)
    show wpAny _ _ (call (.ref C) [wv]) _ _ _
    have both : Vals [V.ref (hp.objs.size + 1), v] [Value.ref (hp.objs.size + 1), wv] := .cons rfl (.cons rv .nil)
    have bnd := hb _ [Value.ref (hp.objs.size + 1), wv] I2.kIn rfl
    rw [List.append_nil] at bnd
    refine wpAny_call (PySem.HandSPX.call_own F.excBase_ValueError (fun Z => PySem.HandSPX.refsVE_contains Z bm hbm) (I1.kIn _ _ hC) (PySem.W.looks_findIn I1.kIn Y.iC) (fun self => PySem.W.bind_fn I1.kIn self Y.tI) (by show 1 ≤ sizeLine; rw [sizeLine_eq]; decide) ?_)
    have run := F1.run _ X.stack _ _ ⟨[Value.ref (hp.objs.size + 1), wv], []⟩ _ _ _ (fun _ _ _ => False) (hr.make C [wv] []) (I2.env0.make C [wv] []) bnd both hq
    refine codeAny_mono run fun r s' z => ?_
    match r, z with
    | .error e, z => exact z.elim
    | .ok .next, z => exact z.elim
    | .ok .brk, z => exact z.elim
    | .ok .cont, z => exact z.elim
    | .ok (.ret u), z =>
      obtain ⟨v', H2, os2, bare2, un2, hok2, rv', ev, d, fs, ea, ed, hd1, q2⟩ := z
      subst ev
      obtain ⟨h2, g2, d2, t2, os'⟩ := s'
      exact ⟨rv', endN (raises_own Y.T.exC Y.T.tyC) I1 more kk un2 hok2 os2 bare2 ea ed hd1 q2⟩
/-- x(value = e) -/
theorem pmk_exK {kws : List Keyword} (Y : XC X.K X.mg x C fI) (F1 : FnOk X.prog X.w X.K X.mg X.base CX0 k fI fd ["self", "value"] (spInit X.K C)) (hr : Room (k + 1) X.A)
    (hb : ∀ (s : Shared) (u v : Value), BindsTo s fd ⟨[u], [("value", v)]⟩ [("self", u), ("value", v)]) (hg : Gl X x) (hkw : PK X kws ta)
    (hall : (backToKw pos (keywordEach kws X.env)).all (·.1.isSome) = true := by rfl) (hks : (backToKw pos (keywordEach kws X.env)).filterMap (·.1) = [("value" : Str)] := by rfl) (hdb : (x == ("__debug__" : Str)) = false := by decide)
    (hpl : ((backTo pos (starEach [] X.env)).any (·.1) || (backToKw pos (keywordEach kws X.env)).any (·.1.isNone)) = false := by rfl) :
    L2N.PMk X (.Call (.Name x p) [] kws pos) (tMk X.K C ta) := by
  intro pins s σ H Q I h
  obtain ⟨nm, q, N, bs, bm, sn, sub, ab, col, dd, k0, k1, k2, k3, k5, hC, hbm⟩ := Y.T.cls
  refine wpAny_Call_Name_kw (ld_glob I hg Y.gC ?_ hdb)
  refine PySem.W.callWith_KW0 (h₀ := X.base) I.ok.mod.kin Y.T.kC hall ?_ hpl
  refine thn (hkw.run pos pins s σ H _ I h) fun ws s1 ⟨vs, H1, I1, rz, _, q1⟩ => ⟨I1.kIn, ?_⟩
  rw [hks]
  obtain ⟨hp, g, dr, tk, os⟩ := s1
  have more : hp.objs.size ≤ hp.objs.size + 1 := Nat.le_succ _
  have hn : H1 (hp.objs.size + 1) = none := I1.hok.fresh more
  have hq := q1 (hp.objs.size + 1) hn
  obtain ⟨v, rfl⟩ : ∃ v, vs = [v] := by
    obtain ⟨a0, v, e0, _⟩ := hq
    rw [List.append_nil] at e0
    obtain ⟨_, e2⟩ := List.cons.inj e0
    exact ⟨v, e2⟩
  cases rz with
  | @cons _ wv _ ur rv rest =>
    cases rest
    have kk : ∀ b o, hp.get? b = some o → ((hp.push (PySem.W.kdv_tup [])).push (PySem.HandSPX.excO C hp.objs.size)).get? b = some o := fun b o z => Heap.get?_push_of_some _ (Heap.get?_push_of_some _ z)
    have atE : ((hp.push (PySem.W.kdv_tup [])).push (PySem.HandSPX.excO C hp.objs.size)).get? (hp.objs.size + 1) = some (PySem.HandSPX.excO C hp.objs.size) := by heap_get
    have I2 := I1.laid (t' := tk) (a := hp.objs.size + 1) (o := exo (hp.objs.size + 1) C none) (h' := (hp.push (PySem.W.kdv_tup [])).push (PySem.HandSPX.excO C hp.objs.size)) kk more (exo_ok atE)
    show wpAny _ _ (call (.ref C) [] [("value", wv)]) _ _ _
    have both : Vals [V.ref (hp.objs.size + 1), v] [Value.ref (hp.objs.size + 1), wv] := .cons rfl (.cons rv .nil)
    refine wpAny_call (PySem.HandSPX.kwx_call F.excBase_ValueError (fun Z => PySem.HandSPX.refsVE_contains Z bm hbm) (I1.kIn _ _ hC) (PySem.W.looks_findIn I1.kIn Y.iC) (fun self => PySem.W.bind_fn I1.kIn self Y.tI) ?_)
    have run := F1.run _ X.stack _ _ ⟨[Value.ref (hp.objs.size + 1)], [("value", wv)]⟩ _ _ _ (fun _ _ _ => False) (hr.make C [] [("value", wv)]) (I2.env0.make C [] [("value", wv)]) (hb _ (Value.ref (hp.objs.size + 1)) wv) both hq
    refine codeAny_mono run fun r s' z => ?_
    match r, z with
    | .error e, z => exact z.elim
    | .ok .next, z => exact z.elim
    | .ok .brk, z => exact z.elim
    | .ok .cont, z => exact z.elim
    | .ok (.ret u), z =>
      obtain ⟨v', H2, os2, bare2, un2, hok2, rv', ev, d, fs, ea, ed, hd1, q2⟩ := z
      subst ev
      obtain ⟨h2, g2, d2, t2, os'⟩ := s'
      exact ⟨rv', endN (raises_own Y.T.exC Y.T.tyC) I1 more kk un2 hok2 os2 bare2 ea ed hd1 q2⟩
theorem pe_ex (Y : XC X.K X.mg x C fI) (F1 : FnOk X.prog X.w X.K X.mg X.base CX0 k fI fd ["self", "value"] (spInit X.K C)) (hr : Room (k + 1) X.A) (hb : Binds X.K fd ["self", "value"] []) (hg : Gl X x) (ha : PA X [e] ta)
    (hdb : (x == ("__debug__" : Str)) = false := by decide) (he : starEach [e] X.env = (false, eval e X.env) :: starEach [] X.env := by rfl) (hpl : (backTo pos (starEach [] X.env)).any (·.1) = false := by rfl) :
    PE X (.Call (.Name x p) [e] [] pos) (tMkV X.K C ta) := pe_mk (pmk_ex Y F1 hr hb hg ha hdb he hpl)
theorem pe_exK {kws : List Keyword} (Y : XC X.K X.mg x C fI) (F1 : FnOk X.prog X.w X.K X.mg X.base CX0 k fI fd ["self", "value"] (spInit X.K C)) (hr : Room (k + 1) X.A)
    (hb : ∀ (s : Shared) (u v : Value), BindsTo s fd ⟨[u], [("value", v)]⟩ [("self", u), ("value", v)]) (hg : Gl X x) (hkw : PK X kws ta)
    (hall : (backToKw pos (keywordEach kws X.env)).all (·.1.isSome) = true := by rfl) (hks : (backToKw pos (keywordEach kws X.env)).filterMap (·.1) = [("value" : Str)] := by rfl) (hdb : (x == ("__debug__" : Str)) = false := by decide)
    (hpl : ((backTo pos (starEach [] X.env)).any (·.1) || (backToKw pos (keywordEach kws X.env)).any (·.1.isNone)) = false := by rfl) :
    PE X (.Call (.Name x p) [] kws pos) (tMkV X.K C ta) := pe_mk (pmk_exK Y F1 hr hb hg hkw hall hks hdb hpl)
/-- the object that stands at a, with its dict -/
theorem ex_inst {pins : List (Addr × Obj)} {σ : L2.St} {H : Hp} {s : Shared} {a d : Addr} {fs : List (Str × V)} (I : Inv X pins σ H s) (ha : H a = some (exT a (.ref C) (some d))) (hd : H d = some (.xd fs)) :
    ∃ (oe od : Obj) (mA : Str → Option Value), PySem.W.InstAt s.heap a oe C (some od) ∧ (∀ name, PySem.W.lookIn name od = some (mA name)) ∧ ∀ f, RelO (fs.lookup f) (mA f) := by
  have h1 : ObjOk X.prog X.w H s.heap a (exT a (.ref C) (some d)) := I.hok a _ ha
  obtain ⟨⟨oe, vs, e, z, f⟩, _, _⟩ := h1
  have h2 : ObjOk X.prog X.w H s.heap d (.xd fs) := I.hok d _ hd
  obtain ⟨mA, hns, hr⟩ := h2
  obtain ⟨od, ho, hl⟩ := lookIn_ns hns
  exact ⟨oe, od, mA, ⟨e, z.1, by unfold PySem.W.notCls; rw [f] <;> rfl, by rw [z.2.1]; exact ho⟩, hl, hr⟩
/-- isinstance(e, c) -/
def rIsX (K : PySem.W.Frag) : List V → Hp → VK → Prop := fun xs H Q => ∃ (a C d : Addr) (fs : List (Str × V)) (c : V) (u : Value) (b : Bool), xs = [.ref a, c] ∧ H a = some (exT a (.ref C) (some d)) ∧ H d = some (.xd fs) ∧ ExcC K C ∧ ClsV c u ∧
  PySem.W.kitOne K (.ref C) u = some b ∧ Q (.bl b) H
theorem cr_isX : CallR X (.builtin "isinstance") (rIsX X.K) := by
  intro pins s σ H xs us Q I r h
  obtain ⟨a, C, d, fs, c, u, b, rfl, ha, hd, E, hc, e, q⟩ := h
  cases r with
  | cons rx rr =>
    cases rr with
    | cons rt rr =>
      cases rr
      cases rx
      have ec := hc.eq rt
      subst ec
      obtain ⟨oe, od, mA, J, _⟩ := ex_inst I ha hd
      exact PySem.W.kia_one (PySem.W.kitx_exc (by obtain ⟨cd, hcd, _⟩ := PySem.W.any_some E.hd; rw [hcd]; rfl) E.hg E.hk E.hs E.ha E.hn E.ht E.hm) I.kIn J e (fun z => nomatch z) fun tk => ⟨.bl b, H, I.kept (t' := tk) fun _ _ z => z, rfl, q⟩
/-- e.value -/
def tValue (K : PySem.W.Frag) (te : TE) : TE := fun σ H Q => te σ H fun x H1 => ∃ (a C d : Addr) (v : V), x = .ref a ∧ H1 a = some (exT a (.ref C) (some d)) ∧ H1 d = some (.xd [("value", v)]) ∧ ExcC K C ∧ PySem.W.findIn K (.ref C) "value" = some none ∧ Q v H1
theorem pe_value {te : TE} (he : PE X e te) (hb : attributeBase e "value" X.env (eval e X.env) = eval e X.env := by rfl) : PE X (.Attribute e "value" pos) (tValue X.K te) := by
  refine ⟨fun pins s σ H Q I h => ?_⟩
  refine attr_of hb (thn (he.run pins s σ H _ I h) fun u s1 hh => ?_)
  obtain ⟨x, H1, I1, rx, a, C, d, v, rfl, ha, hd, E, hno, q⟩ := hh
  cases rx
  obtain ⟨oe, od, mA, J, hl, hr⟩ := ex_inst I1 ha hd
  have l : List.lookup ("value" : Str) [(("value" : Str), v)] = some v := by simp [List.lookup]
  obtain ⟨u, hu, ru⟩ := RelO.some_of (v := v) (o := mA "value") (by rw [← l]; exact hr "value")
  exact PySem.HandSPX.exc_get I1.kIn J E.hg E.hk E.hs (PySem.W.findObj_own E.hd hno rfl (by rw [hl, hu])) (handed_of ru) ⟨v, H1, I1.tok _, ru, q⟩
end
section
variable {σ : L2.St} {H : Hp} {Q : VK} {K : PySem.W.Frag} {C : Addr} {ta : TA} {te : TE}
theorem x_mkV : tMkV K C ta σ H Q ↔ ta σ H fun vs H1 => MkR K C vs H1 (asV Q) := Iff.rfl
theorem x_value : tValue K te σ H Q ↔ te σ H fun x H1 => ∃ (a C d : Addr) (v : V), x = .ref a ∧ H1 a = some (exT a (.ref C) (some d)) ∧ H1 d = some (.xd [("value", v)]) ∧ ExcC K C ∧ PySem.W.findIn K (.ref C) "value" = some none ∧ Q v H1 := Iff.rfl
end
end Cc

set_option Elab.async false
set_option linter.all false
set_option maxRecDepth 100000
set_option maxHeartbeats 4000000
/-! try .. except C as n: the exception stays tracked behind the suite. -/
namespace Cc
open PySem PySem.Spec PyProof.Rows L2
section
variable {X : Cx} {pins : List (Addr × Obj)} {σ : L2.St} {H : Hp}
/-- an object that was not there at the entry and is not tracked yet is tracked from now on -/
theorem track {q t : Shared} {a : Addr} {o : HO} (I : Inv X pins σ H q) (J : Inv X pins σ H t) (fresh : q.heap.get? a = none) (na : H a = none) (hex : X.ex = []) (new : ObjOk X.prog X.w (upd H a o) t.heap a o) : Inv X pins σ (upd H a o) t := by
  have old : X.s_0.heap.get? a = none := by
    cases e : X.s_0.heap.get? a with
    | none => rfl
    | some z =>
      obtain ⟨z', e'⟩ := I.base.there a z e (by rw [hex]; simp)
      rw [fresh] at e'
      cases e'
  obtain ⟨m, hm, _⟩ := id I.loc
  have nl : X.env.locals ≠ a := fun z => by
    obtain ⟨z1, hz1⟩ : ∃ z1, q.heap.get? X.env.locals = some z1 := by
      obtain ⟨z1, _, _, h, _⟩ := hm
      exact ⟨z1, h⟩
    rw [z, fresh] at hz1
    cases hz1
  refine ⟨J.ok, J.os, J.bare, ⟨J.base.keep, J.base.slot, fun b z e n hx => ?_, J.base.there, fun b xs e => ?_, fun b z u e => ?_, fun b ps e => ?_⟩, J.loc, J.cell, ?_, fun x c hc => ?_, fun p hp => ?_, J.hok.laidN (fun _ _ h => h) na new, J.len⟩
  · rw [upd_ne (fun z' => by rw [z', old] at e; cases e)]
    exact J.base.free b z e n hx
  · have h := J.base.tups b xs e
    rw [upd_ne (ne_of_none h na)]
    exact h
  · have h := J.base.frzs b z u e
    rw [upd_ne (ne_of_none h na)]
    exact h
  · obtain ⟨more, h⟩ := J.base.tbls b ps e
    exact ⟨more, by rw [upd_ne (ne_of_none h na)]; exact h⟩
  · rw [upd_ne nl]
    exact J.free
  · have nc : c ≠ a := fun z => by
      obtain ⟨v, hv⟩ := I.cell x c hc
      obtain ⟨z1, hz1⟩ : ∃ z1, q.heap.get? c = some z1 := by
        first | (obtain ⟨z1, h, _⟩ := hv; exact ⟨z1, h⟩) | exact ⟨_, hv⟩
      rw [z, fresh] at hz1
      cases hz1
    rw [upd_ne nc]
    exact J.freeC x c hc
  · have np : p.1 ≠ a := fun z => by
      have h := (I.pin p hp).1
      rw [z, fresh] at h
      cases h
    obtain ⟨h1, h2, h3⟩ := J.pin p hp
    exact ⟨h1, by rw [upd_ne np]; exact h2, h3⟩
end
/-- nothing is raised -/
theorem takesN {X : Cx} : L2N.Takes X (fun _ _ _ _ => False) := fun _ _ x => by
  obtain ⟨_, _, _, _, _, _, _, _, _, _, _, _, _, _, _, _, q⟩ := x
  exact q.elim
/-- what is wanted of an exception of the body, where the clause names c and slot i takes the exception, which is tracked from then on -/
def wTrk (K : PySem.W.Frag) (c : Value) (i : Nat) (ts : TS) (Wout : WX) (D : Ends) : WX := fun cls d σ H => ∃ yes, PySem.W.exmOne K cls c = some yes ∧
  (yes = true → ∀ a, H a = none → ts { nx := fun σ2 H2 => D.nx (σ2.set i none) H2, rt := D.rt, bk := fun σ2 H2 => D.bk (σ2.set i none) H2, ct := fun σ2 H2 => D.ct (σ2.set i none) H2 } (σ.set i (some (.ref a))) (upd H a (exT a cls d))) ∧
  (yes = false → Wout cls d σ H)
section
variable {X : Cx} {x n : Str} {c : Value} {i : Nat} {body suite : List Stmt} {st : Stmt} {p1 p2 p3 : Pos} {tb : WX → TS} {ts : TS} {Wout : WX} {pins : List (Addr × Obj)} {σ : L2.St} {H : Hp}
theorem inSuite {s : Shared} (a : Addr) (I : Inv X pins σ H s) : Inv (X.suite a (X.pn ++ pins)) [] σ H s :=
  ⟨I.ok.suite _ _, I.os, I.bare, I.base, I.loc, I.cell, I.free, I.freeC, fun p hp => I.pin p (by rw [List.append_nil] at hp; exact hp), I.hok, I.len⟩
theorem outSuite {s : Shared} {a : Addr} (ok : X.Ok) (I : Inv (X.suite a (X.pn ++ pins)) [] σ H s) : Inv X pins σ H s :=
  ⟨ok, I.os, I.bare, I.base, I.loc, I.cell, I.free, I.freeC, fun p hp => I.pin p (by rw [List.append_nil]; exact hp), I.hok, I.len⟩
/-- the exception has come to the clauses: h stands above sI -/
theorem caughtAt {W' : Value → Shared → Prop} {u : Value} {s' : Shared} (hs : X.stack = X.env :: X.outer) (hf : X.env.frame = some X.env.locals) (hex : X.ex = []) (hc : Names X x c) (hN : X.N.Nodup) (hi : X.N[i]? = some n) (hln : X.env.kindOf n = some .local) (tk : L2N.Takes X Wout)
    (hsu : ∀ (a : Addr) (pn : List (Addr × Obj)), PSs (X.suite a pn) (st :: suite) ts) (ok : X.Ok) (D : Ends) (xx : L2N.XE (X.tr (X.pn ++ pins) W') (wTrk X.K c i ts Wout D) u s') :
    wpAny (model X.prog X.w) X.A (noteFrame u X.env) (fun _ s₂ => wpAny (model X.prog X.w) X.A (setFlight u none) (fun _ s₃ =>
      wpAny (model X.prog X.w) X.A (handleBy u X.env [.ExceptHandler (some (.Name x p1)) (some n) (st :: suite) p2]) (SP X pins D) X.xe s₃) X.xe s₂) X.xe s' := by
  have frm : X.A.frames = some (X.env :: X.outer) := hs ▸ ok.frames
  obtain ⟨a, B, sI, pins1, σ1, H1, cls, d, rfl, I1, nb, up, sky, na, os, ag, yes, em, onYes, onNo⟩ := xx
  have I : Inv X pins σ1 H1 sI := I1.ofTry ok
  refine L2N.Sky.land L2N.Zn.steady frm hf (by rw [← hs]; exact sky) fun g1 fly1 up1 => ?_
  obtain ⟨o1, vs1, ho1, hz1, hd1⟩ := fly1.there
  have offStack : a ∉ frs (X.env :: X.outer) := fun hm => by
    obtain ⟨_, o', e', hnf⟩ := fly1.2.2.1.mem hm
    rw [ho1] at e'
    cases e'
    exact hnf _ hd1
  have fresh : sI.heap.get? a = none := by
    cases e : sI.heap.get? a with
    | none => rfl
    | some z =>
      have h := nb a z e (by show a ∉ frs X.stack; rw [hs]; exact offStack)
      rw [fly1.2.1] at h
      cases h
  have land : ∀ {g : Heap}, HandSPX.FlyingZ B (X.env :: X.outer) a (L2N.Zn cls d) g → sI.heap.UpToSlots g → Inv X pins σ1 (upd H1 a (exT a cls d)) { s' with heap := g } := fun {g} fly upg => by
    obtain ⟨o, vs, ho, hz, hd⟩ := fly.there
    exact track I (I.landed nb fly.1 upg os ag) fresh na hex (exT_ok ho hz hd)
  have T1 := inSuite a (land fly1 (up.trans up1))
  refine wpAny_handleBy_cons (codeAny_handlers_test ?_) (fun q => nomatch q)
  have ty : PySem.W.Looks (model X.prog X.w) g1 (typeOf (.ref a)) cls := fun A Q E s k q => wpAny_typeOf_ref (k _ _ ho1) (by rw [hz1.1]; exact q)
  have hit := PySem.W.exm_one (M := model X.prog X.w) (land fly1 (up.trans up1)).kIn ty em
  have cl : ∀ {Q : Value → Shared → Prop} {E : Value → Shared → Prop}, Q c { s' with heap := g1 } → wpAny (model X.prog X.w) (X.A.mark (some (.ref a))) (eval (.Name x p1) X.env) Q E { s' with heap := g1 } := fun {Q E} q => by
    obtain ⟨hg, hdbg, hm | ⟨hm, hv, hnn⟩⟩ := hc
    · exact ld_glob (X := X.suite a (X.pn ++ pins)) T1 hg hm q hdbg
    · exact ld_blt (X := X.suite a (X.pn ++ pins)) T1 hg hm hv q hnn hdbg
  refine cl (hit.here ?_)
  cases yes with
  | true =>
    refine codeAny_handlers_suite_as (HandSPX.lands_againZ fly1 fun g2 fly2 up2 => ?_)
    have T2 := inSuite a (land fly2 ((up.trans up1).trans up2))
    refine store_ok (X := X.suite a (X.pn ++ pins)) (v := .ref a) T2 hN hi (.inl hln) rfl (fun s3 T3 => ?_) (.inr hln)
    have away : ∀ {σ6 : L2.St} {H6 : Hp} {s6 : Shared} {Q : Shared → Prop}, Inv (X.suite a (X.pn ++ pins)) [] σ6 H6 s6 → (∀ s7, Inv X pins (σ6.set i none) H6 s7 → Q s7) →
        wpAny (model X.prog X.w) X.A (do bindName X.env n .none; unbindBehindTheSuite X.env n p2) (fun _ s7 => Q s7) X.xe s6 := fun T q => gone_ok (outSuite ok T) hN hi hln q
    refine wpAny_mono ((hsu a (X.pn ++ pins)).run [] s3 _ _ _ T3 (onYes rfl a na)) (fun f s4 r => ?_) (fun _ _ z => False.elim z)
    cases f with
    | next => obtain ⟨_, _, T4, q⟩ := r; exact away T4 fun _ J => ⟨_, _, J, q⟩
    | brk => obtain ⟨_, _, T4, q⟩ := r; exact away T4 fun _ J => ⟨_, _, J, q⟩
    | cont => obtain ⟨_, _, T4, q⟩ := r; exact away T4 fun _ J => ⟨_, _, J, q⟩
    | ret u => obtain ⟨_, _, _, T4, rv, q⟩ := r; exact away T4 fun _ J => ⟨_, _, _, J, rv, q⟩
  | false =>
    show wpAny _ X.A (handleBy (.ref a) X.env []) _ _ _
    refine wpAny_handleBy_nil ?_
    obtain ⟨_, _, _, o, vs, T, oT, ts', he, hz, hd, h1, _⟩ := id fly1
    unfold PySem.passOn
    refine wpAny_bind (wpAny_field he hd h1 ?_)
    rw [if_neg (show ¬ ((Value.ref T == Value.none) = true) from by simp)]
    have up_ : wpAny (model X.prog X.w) X.A (setFlight (.ref a) X.env.frame) (fun _ s4 => wpAny (model X.prog X.w) X.A (throw (.ref a) : Sem Flow) (SP X pins D) X.xe s4) X.xe { s' with heap := g1 } := by
      rw [hf]
      exact HandSPX.setFlight_upZ fly1 fun g2 held up2 => wpAny_throw (tk _ _ ⟨a, B, sI, pins, σ1, H1, cls, d, rfl, I, nb, (up.trans up1).trans up2, .inr (.inr (by rw [hs]; exact held)), na, os, ag, onNo rfl⟩)
    first
      | exact wpAny_bind (wpAny_pure (wpAny_bind up_))
      | exact wpAny_bind up_
theorem ps_trk (hs : X.stack = X.env :: X.outer) (hf : X.env.frame = some X.env.locals) (hex : X.ex = []) (hN : X.N.Nodup) (hi : X.N[i]? = some n) (hln : X.env.kindOf n = some .local) (hc : Names X x c) (tk : L2N.Takes X Wout)
    (hb : ∀ (W : WX) (pn : List (Addr × Obj)) (xe : Value → Shared → Prop), L2N.Takes (X.tr pn xe) W → PassesOwn (model X.prog X.w) X.A X.env xe → PSs (X.tr pn xe) body (tb W))
    (hsu : ∀ (a : Addr) (pn : List (Addr × Obj)), PSs (X.suite a pn) (st :: suite) ts) :
    PS X (.Try body [.ExceptHandler (some (.Name x p1)) (some n) (st :: suite) p2] [] [] p3) (fun D σ H => tb (wTrk X.K c i ts Wout D) D σ H) := by
  refine ⟨fun pins s σ H D I h => wpAny_Try_except ?_⟩
  have ok := I.ok
  refine wpAny_mono ((hb (wTrk X.K c i ts Wout D) (X.pn ++ pins) _ (fun u s' xx => caughtAt (p1 := p1) (p2 := p2) hs hf hex hc hN hi hln tk hsu ok D xx) PassesOwn.looking).run [] s σ H D (I.toTry _) h) (fun f s1 r => ?_) (fun _ _ z => z)
  cases f with
  | next => obtain ⟨_, _, T, q⟩ := r; exact wpAny_execs_nil ⟨_, _, T.ofTry ok, q⟩
  | brk => obtain ⟨_, _, T, q⟩ := r; exact ⟨_, _, T.ofTry ok, q⟩
  | cont => obtain ⟨_, _, T, q⟩ := r; exact ⟨_, _, T.ofTry ok, q⟩
  | ret u => obtain ⟨_, _, _, T, rv, q⟩ := r; exact ⟨_, _, _, T.ofTry ok, rv, q⟩
end
end Cc

set_option Elab.async false
set_option linter.all false
set_option maxRecDepth 100000
set_option maxHeartbeats 4000000
/-! Defs that may raise; calls by keyword. -/
namespace Cc
open PySem PySem.Spec PyProof.Rows L2
section
variable {P : Program} {w : World} {K : PySem.W.Frag} {mg : Str → Option Value} {base : Heap} {k : Nat} {x qual : Str} {st : Stmt} {N ps : List Str} {sp : Sp} {f : Addr} {fd : FuncData}
theorem okGX (F : Fun K x qual st f fd) (S : FnScope N ps (defScope st)) (len : ∀ vs H Q E, sp vs H Q E → vs.length = ps.length)
    (hbody : ∀ (cdv : Value) (A : Around) (outer : List Env) (s : Shared) (H : Hp) (vs : List V) (Q : VK) (E : XK), A.guards = some [] → Room k (A.deeper (envOfC qual (defScope st) s.heap.objs.size f cdv)) → sp vs H Q E →
      ∃ t, PSs (cxOf (L2N.CX P w) P w K mg base N qual (defScope st) f cdv A outer s H E) (defBody st) t ∧ t { nx := fun _ H' => Q .non H', rt := Q } (start N vs) H) :
    FnG P w K mg base (L2N.CX P w) (k + 1) f fd ps sp := by
  obtain ⟨oc, od, kV, doc, pm, an, cdv, ct, osl, rfl, lk, hcd⟩ := F.ex
  refine ⟨len, fun A hg hr outer s H e0 args us vs Q E hb rv hs => ?_⟩
  obtain ⟨t, h, q⟩ := hbody cdv A outer s H vs Q E hg (hr.deeper _) hs
  exact def_at lk hcd S hr e0 hb rv (len _ _ _ _ hs) h q
theorem mkPX (T : Tx K mg x st) (S : FnScope N ps (defScope st))
    (bi : ∀ (kV doc pm : Value) (an : Option Addr) (cdv ct : Value) (us : List Value), us.length = ps.length → bindArgs (PySem.W.fnOf x x (defArgs st) (defBody st) (defScope st) .none kV doc pm an cdv ct) ⟨us, []⟩ = pure (ps.zip us))
    (len : ∀ vs H Q E, sp vs H Q E → vs.length = ps.length)
    (hbody : ∀ (f : Addr) (cdv : Value) (A : Around) (outer : List Env) (s : Shared) (H : Hp) (vs : List V) (Q : VK) (E : XK), A.guards = some [] → Room k (A.deeper (envOfC x (defScope st) s.heap.objs.size f cdv)) → sp vs H Q E →
      ∃ t, PSs (cxOf (L2N.CX P w) P w K mg base N x (defScope st) f cdv A outer s H E) (defBody st) t ∧ t { nx := fun _ H' => Q .non H', rt := Q } (start N vs) H) :
    Pr P w K mg base (L2N.CX P w) (k + 1) x ps sp := by
  obtain ⟨f, fd, F, g⟩ := T
  exact ⟨f, fd, okGX F S len (hbody f), g, F.kp, F.binds bi⟩
theorem mkAX (S : FnScope N ps (defScope st)) (len : ∀ vs H Q E, sp vs H Q E → vs.length = ps.length)
    (hbody : ∀ (f : Addr) (cdv : Value) (A : Around) (outer : List Env) (s : Shared) (H : Hp) (vs : List V) (Q : VK) (E : XK), A.guards = some [] → Room k (A.deeper (envOfC x (defScope st) s.heap.objs.size f cdv)) → sp vs H Q E →
      ∃ t, PSs (cxOf (L2N.CX P w) P w K mg base N x (defScope st) f cdv A outer s H E) (defBody st) t ∧ t { nx := fun _ H' => Q .non H', rt := Q } (start N vs) H) :
    PrAt P w K mg base (L2N.CX P w) (k + 1) x st ps sp := fun f fd F => okGX F S len (hbody f)
end
/-- what a def of this name keeps, and that the text has it -/
def PrK (P : Program) (w : World) (K : PySem.W.Frag) (mg : Str → Option Value) (base : Heap) (CX : CXT) (k : Nat) (x : Str) (st : Stmt) (ps : List Str) (sp : Sp) : Prop :=
  ∃ f fd, Fun K x x st f fd ∧ FnG P w K mg base CX k f fd ps sp ∧ mg x = some (.ref f)
section
variable {P : Program} {w : World} {K : PySem.W.Frag} {mg : Str → Option Value} {base : Heap} {CX : CXT} {k : Nat} {x : Str} {st : Stmt} {N ps : List Str} {sp : Sp}
theorem PrK.pr (h : PrK P w K mg base CX k x st ps sp)
    (bi : ∀ (kV doc pm : Value) (an : Option Addr) (cdv ct : Value) (us : List Value), us.length = ps.length → bindArgs (PySem.W.fnOf x x (defArgs st) (defBody st) (defScope st) .none kV doc pm an cdv ct) ⟨us, []⟩ = pure (ps.zip us)) :
    Pr P w K mg base CX k x ps sp := by
  obtain ⟨f, fd, F, g, m⟩ := h
  exact ⟨f, fd, g, m, F.kp, F.binds bi⟩
theorem mkK (T : Tx K mg x st) (S : FnScope N ps (defScope st)) (len : ∀ vs H Q E, sp vs H Q E → vs.length = ps.length)
    (hbody : ∀ (f : Addr) (cdv : Value) (A : Around) (outer : List Env) (s : Shared) (H : Hp) (vs : List V) (Q : VK) (E : XK), A.guards = some [] → Room k (A.deeper (envOfC x (defScope st) s.heap.objs.size f cdv)) → sp vs H Q E →
      ∃ t, PSs (cxOf CX0 P w K mg base N x (defScope st) f cdv A outer s H E).nox (defBody st) t ∧ t { nx := fun _ H' => Q .non H', rt := Q } (start N vs) H) :
    PrK P w K mg base CX0 (k + 1) x st ps sp := by
  obtain ⟨f, fd, F, g⟩ := T
  exact ⟨f, fd, F, okG F S len (hbody f), g⟩
theorem mkKX (T : Tx K mg x st) (S : FnScope N ps (defScope st)) (len : ∀ vs H Q E, sp vs H Q E → vs.length = ps.length)
    (hbody : ∀ (f : Addr) (cdv : Value) (A : Around) (outer : List Env) (s : Shared) (H : Hp) (vs : List V) (Q : VK) (E : XK), A.guards = some [] → Room k (A.deeper (envOfC x (defScope st) s.heap.objs.size f cdv)) → sp vs H Q E →
      ∃ t, PSs (cxOf (L2N.CX P w) P w K mg base N x (defScope st) f cdv A outer s H E) (defBody st) t ∧ t { nx := fun _ H' => Q .non H', rt := Q } (start N vs) H) :
    PrK P w K mg base (L2N.CX P w) (k + 1) x st ps sp := by
  obtain ⟨f, fd, F, g⟩ := T
  exact ⟨f, fd, F, okGX F S len (hbody f), g⟩
end
section
variable {X : Cx} {CX : CXT} {j k : Nat} {f : Addr} {fd : FuncData} {ps ks : List Str} {is : List Nat} {sp : Sp} {E : L2.St → XK} {x : Str} {p pos : Pos} {e : Expr} {es : List Expr} {kws : List Keyword} {t : TA} {W : WX}
theorem runGS {pins : List (Addr × Obj)} {σ : L2.St} {H : Hp} {s : Shared} {Q : VK} {args : Args} {us : List Value} {vs : List V} (F : FnG X.prog X.w X.K X.mg X.base CX k f fd ps sp) (hG : X.A.guards = some []) (hr : Room k X.A) (hb : BindsTo s fd args (ps.zip us)) (hx : PassesAt CX X σ (E σ))
    (I : Inv X pins σ H s) (r : Vals vs us) (h : sp vs H Q (E σ)) : codeAny (model X.prog X.w) X.A (.call (.ref f) args) (fun r s' => match r with | .ok (.ret u) => EP X pins σ Q u s' | .error e => X.xe e s' | _ => False) s := by
  refine codeAny_mono (F.goes X.A hG hr X.stack s H I.env0 args us vs Q (E σ) hb r h) fun r s' hq => ?_
  match r, hq with
  | .error e, hq => exact hx pins H s e s' I hq
  | .ok (.ret u), hq => exact I.after hq
  | .ok .next, hq => exact hq.elim
  | .ok .brk, hq => exact hq.elim
  | .ok .cont, hq => exact hq.elim
/-- f(e, ..), where f may raise -/
theorem pe_GS (F : FnG X.prog X.w X.K X.mg X.base CX k f fd ps sp) (hG : X.A.guards = some []) (hr : Room k X.A) (hg : Gl X x) (hm : X.mg x = some (.ref f)) (hk : PySem.W.keepIn X.K (.ref f) = true) (hb : Binds X.K fd ps []) (hx : ∀ σ, PassesAt CX X σ (E σ))
    (ha : PA X (e :: es) t) (hdb : (x == ("__debug__" : Str)) = false := by decide) (he : starEach (e :: es) X.env = (false, eval e X.env) :: starEach es X.env := by rfl) (hpl : (backTo pos (starEach es X.env)).any (·.1) = false := by rfl) :
    PE X (.Call (.Name x p) (e :: es) [] pos) (tCallS sp E t) := by
  refine ⟨fun pins s σ H Q I h => wpAny_Call_Name_kw (ld_glob I hg hm ?_ hdb)⟩
  refine PySem.W.callWith_K (h₀ := X.base) I.ok.mod.kin hk (thn (ha.run pos pins s σ H _ I h) fun us s1 ⟨vs, H1, I1, r, q⟩ => ⟨I1.kIn, ?_⟩) he hpl
  have b := hb s1 us I1.kIn (by rw [List.append_nil]; exact r.length.symm.trans (F.long _ _ _ _ q))
  rw [List.append_nil] at b
  refine wpAny_call (codeAny_mono (runGS F hG hr b (hx σ) I1 r q) fun r s' z => ?_)
  match r, z with
  | .error _, z => exact z
  | .ok (.ret _), z => exact z
def tCallKS (sp : Sp) (gV : List V → List V) (E : L2.St → XK) (t : TA) : TE := fun σ H Q => t σ H fun vs H1 => sp (gV vs) H1 Q (E σ)
/-- f(a = e, ..) -/
theorem pe_GK {g : List Value → List Value} {gV : List V → List V} (F : FnG X.prog X.w X.K X.mg X.base CX k f fd ps sp) (hG : X.A.guards = some []) (hr : Room k X.A) (hg : Gl X x) (hm : X.mg x = some (.ref f)) (hk : PySem.W.keepIn X.K (.ref f) = true)
    (hb : ∀ (s : Shared) (us : List Value), (g us).length = ps.length → BindsTo s fd ⟨[], ks.zip us⟩ (ps.zip (g us))) (hrel : ∀ {vs : List V} {us : List Value}, Vals vs us → Vals (gV vs) (g us)) (hx : ∀ σ, PassesAt CX X σ (E σ)) (hkw : PK X kws t)
    (hall : (backToKw pos (keywordEach kws X.env)).all (·.1.isSome) = true := by rfl) (hks : (backToKw pos (keywordEach kws X.env)).filterMap (·.1) = ks := by rfl) (hdb : (x == ("__debug__" : Str)) = false := by decide)
    (hpl : ((backTo pos (starEach [] X.env)).any (·.1) || (backToKw pos (keywordEach kws X.env)).any (·.1.isNone)) = false := by rfl) :
    PE X (.Call (.Name x p) [] kws pos) (tCallKS sp gV E t) := by
  refine ⟨fun pins s σ H Q I h => wpAny_Call_Name_kw (ld_glob I hg hm ?_ hdb)⟩
  refine PySem.W.callWith_KW0 (h₀ := X.base) I.ok.mod.kin hk hall ?_ hpl
  refine thn (hkw.run pos pins s σ H _ I h) fun us s1 ⟨vs, H1, I1, r, q⟩ => ⟨I1.kIn, ?_⟩
  rw [hks]
  have r2 := hrel r
  refine wpAny_call (codeAny_mono (runGS F hG hr (hb s1 us (r2.length.symm.trans (F.long _ _ _ _ q))) (hx σ) I1 r2 q) fun r s' z => ?_)
  match r, z with
  | .error _, z => exact z
  | .ok (.ret _), z => exact z
theorem pass0At (E : L2.St → XK) (h : ∀ σ, E σ = E0) : ∀ σ, PassesAt CX0 X σ (E σ) := fun _ _ _ _ _ _ _ z => z.elim
/-- by position, where it may raise -/
theorem pe_PX (h : Pr X.prog X.w X.K X.mg X.base (L2N.CX X.prog X.w) j x ps sp) (hr : Room k X.A) (hG : X.A.guards = some []) (hg : Gl X x) (tk : L2N.Takes X W) (ha : PA X (e :: es) t) (hj : j ≤ k := by decide)
    (hdb : (x == ("__debug__" : Str)) = false := by decide) (he : starEach (e :: es) X.env = (false, eval e X.env) :: starEach es X.env := by rfl) (hpl : (backTo pos (starEach es X.env)).any (·.1) = false := by rfl) :
    PE X (.Call (.Name x p) (e :: es) [] pos) (tCallS sp (WE W) t) := by
  obtain ⟨f, fd, F, g, kp, b⟩ := h
  exact pe_GS F hG (hr.mono hj) hg g kp b (fun σ => L2N.passAt tk σ) ha hdb he hpl
section
variable {st : Stmt} {g : List Value → List Value} {gV : List V → List V}
/-- by keyword, where it may raise -/
theorem pe_KX (h : PrK X.prog X.w X.K X.mg X.base (L2N.CX X.prog X.w) j x st ps sp) (hr : Room k X.A) (hG : X.A.guards = some []) (hg : Gl X x) (tk : L2N.Takes X W)
    (hb : ∀ (kV doc pm : Value) (an : Option Addr) (cdv ct : Value) (us : List Value), (g us).length = ps.length → bindArgs (PySem.W.fnOf x x (defArgs st) (defBody st) (defScope st) .none kV doc pm an cdv ct) ⟨[], ks.zip us⟩ = pure (ps.zip (g us)))
    (hrel : ∀ {vs : List V} {us : List Value}, Vals vs us → Vals (gV vs) (g us)) (hkw : PK X kws t) (hj : j ≤ k := by decide)
    (hall : (backToKw pos (keywordEach kws X.env)).all (·.1.isSome) = true := by rfl) (hks : (backToKw pos (keywordEach kws X.env)).filterMap (·.1) = ks := by rfl) (hdb : (x == ("__debug__" : Str)) = false := by decide)
    (hpl : ((backTo pos (starEach [] X.env)).any (·.1) || (backToKw pos (keywordEach kws X.env)).any (·.1.isNone)) = false := by rfl) :
    PE X (.Call (.Name x p) [] kws pos) (tCallKS sp gV (WE W) t) := by
  obtain ⟨f, fd, F, G, m⟩ := h
  obtain ⟨oc, od, kV, doc, pm, an, cdv, ct, osl, rfl, lk, hcd⟩ := F.ex
  exact pe_GK G hG (hr.mono hj) hg m F.kp (fun s us hl => .of_eq (hb _ _ _ _ _ _ us hl)) hrel (fun σ => L2N.passAt tk σ) hkw hall hks hdb hpl
/-- by keyword, where it raises nothing -/
theorem pe_KP (h : PrK X.prog X.w X.K X.mg X.base CX0 j x st ps sp) (hr : Room k X.A) (hG : X.A.guards = some []) (hg : Gl X x)
    (hb : ∀ (kV doc pm : Value) (an : Option Addr) (cdv ct : Value) (us : List Value), (g us).length = ps.length → bindArgs (PySem.W.fnOf x x (defArgs st) (defBody st) (defScope st) .none kV doc pm an cdv ct) ⟨[], ks.zip us⟩ = pure (ps.zip (g us)))
    (hrel : ∀ {vs : List V} {us : List Value}, Vals vs us → Vals (gV vs) (g us)) (hkw : PK X kws t) (hj : j ≤ k := by decide)
    (hall : (backToKw pos (keywordEach kws X.env)).all (·.1.isSome) = true := by rfl) (hks : (backToKw pos (keywordEach kws X.env)).filterMap (·.1) = ks := by rfl) (hdb : (x == ("__debug__" : Str)) = false := by decide)
    (hpl : ((backTo pos (starEach [] X.env)).any (·.1) || (backToKw pos (keywordEach kws X.env)).any (·.1.isNone)) = false := by rfl) :
    PE X (.Call (.Name x p) [] kws pos) (tCallKS sp gV (fun _ => E0) t) := by
  obtain ⟨f, fd, F, G, m⟩ := h
  obtain ⟨oc, od, kV, doc, pm, an, cdv, ct, osl, rfl, lk, hcd⟩ := F.ex
  exact pe_GK G hG (hr.mono hj) hg m F.kp (fun s us hl => .of_eq (hb _ _ _ _ _ _ us hl)) hrel (fun σ _ _ _ _ _ _ z => z.elim) hkw hall hks hdb hpl
end
end
/-- two arguments by keyword, as they stand and the other way round -/
def swap2 {α : Type} : List α → List α
  | [a, b] => [b, a]
  | _ => []
theorem Vals.swap2 : ∀ {vs : List V} {us : List Value}, Vals vs us → Vals (swap2 vs) (Cc.swap2 us)
  | _, _, .nil => .nil
  | _, _, .cons _ .nil => .nil
  | _, _, .cons h1 (.cons h2 .nil) => .cons h2 (.cons h1 .nil)
  | _, _, .cons _ (.cons _ (.cons _ _)) => .nil
section
variable {σ : L2.St} {H : Hp} {Q : VK} {K : PySem.W.Frag} {C : Addr} {ta : TA} {te : TE} {W : WX} {D : Ends} {sp : Sp} {t : TA} {E : L2.St → XK} {gV : List V → List V}
def tRaise (K : PySem.W.Frag) (C : Addr) (W : WX) (ta : TA) : TS := fun _ σ H => tMk K C ta σ H fun cls d H' => W cls d σ H'
theorem ps_rs {X : Cx} {e : Expr} {pos : Pos} (hc : X.calm = true) (tk : L2N.Takes X W) (he : L2N.PMk X e (tMk X.K C ta)) : PS X (.Raise (some e) none pos) (tRaise X.K C W ta) := L2N.ps_raise hc tk he
theorem x_rs : tRaise K C W ta D σ H ↔ ta σ H fun vs H1 => MkR K C vs H1 fun cls d H' => W cls d σ H' := Iff.rfl
theorem x_callS : tCallS sp E t σ H Q ↔ t σ H fun vs H1 => sp vs H1 Q (E σ) := Iff.rfl
theorem x_callKS : tCallKS sp gV E t σ H Q ↔ t σ H fun vs H1 => sp (gV vs) H1 Q (E σ) := Iff.rfl
theorem mkR1 {H1 : Hp} {v : V} {R : XK} (h : ∀ d, H1 d = none → R (.ref C) (some d) (upd H1 d (.xd [("value", v)]))) : MkR K C [v] H1 R := mkR h
end
end Cc

set_option Elab.async false
set_option linter.all false
set_option maxRecDepth 100000
set_option maxHeartbeats 4000000
/-! Methods of own classes, where no repr is under way; readings of fields. -/
namespace Cc
open PySem PySem.Spec PyProof.Rows L2
/-- the method m of the class at C, by its def -/
def MTx (K : PySem.W.Frag) (C : Addr) (m q : Str) (st : Stmt) : Prop := ∃ f fd, Fun K m q st f fd ∧ Meth K C m f
def MPr (P : Program) (w : World) (K : PySem.W.Frag) (mg : Str → Option Value) (base : Heap) (CX : CXT) (k : Nat) (C : Addr) (m : Str) (ps : List Str) (sp : Sp) : Prop :=
  ∃ f fd, FnG P w K mg base CX k f fd ps sp ∧ Meth K C m f ∧ Binds K fd ps []
section
variable {P : Program} {w : World} {K : PySem.W.Frag} {mg : Str → Option Value} {base : Heap} {k : Nat} {C : Addr} {m q : Str} {st : Stmt} {N ps : List Str} {sp : Sp}
theorem mkM (T : MTx K C m q st) (S : FnScope N ps (defScope st))
    (bi : ∀ (kV doc pm : Value) (an : Option Addr) (cdv ct : Value) (us : List Value), us.length = ps.length → bindArgs (PySem.W.fnOf m q (defArgs st) (defBody st) (defScope st) .none kV doc pm an cdv ct) ⟨us, []⟩ = pure (ps.zip us))
    (len : ∀ vs H Q E, sp vs H Q E → vs.length = ps.length)
    (hbody : ∀ (f : Addr) (cdv : Value) (A : Around) (outer : List Env) (s : Shared) (H : Hp) (vs : List V) (Q : VK) (E : XK), A.guards = some [] → Room k (A.deeper (envOfC q (defScope st) s.heap.objs.size f cdv)) → sp vs H Q E →
      ∃ t, PSs (cxOf CX0 P w K mg base N q (defScope st) f cdv A outer s H E).nox (defBody st) t ∧ t { nx := fun _ H' => Q .non H', rt := Q } (start N vs) H) :
    MPr P w K mg base CX0 (k + 1) C m ps sp := by
  obtain ⟨f, fd, F, g⟩ := T
  exact ⟨f, fd, okG F S len (hbody f), g, F.binds bi⟩
end
section
variable {X : Cx} {CX : CXT} {j k : Nat} {C : Addr} {f : Addr} {fd : FuncData} {ps : List Str} {sp : Sp} {E : XK} {x m : Str} {p pos apos : Pos} {o e : Expr} {es : List Expr} {t : TA} {ta : TE} {dvs : List V} {ds : List Value}
/-- o.m(e, ..) -/
theorem pe_MP {pl : Sem Bool} (he : PE X o ta) (c : Cls X.K C) (h : MPr X.prog X.w X.K X.mg X.base CX0 j C m ps sp) (hr : Room k X.A) (hG : X.A.guards = some []) (ha : PA X (e :: es) t) (hj : j ≤ k := by decide)
    (hst : starEach (e :: es) X.env = (false, eval e X.env) :: starEach es X.env := by rfl) (hpl : (backTo pos (starEach es X.env)).any (·.1) = false := by rfl)
    (ht : eval (.Call (.Attribute o m apos) (e :: es) [] pos) X.env = (do
      let ov ← eval o X.env
      standAt apos.atName
      let (fn, first) ← holding [ov] (getMethod ov m pl)
      callWith pos fn first (backTo pos (starEach (e :: es) X.env)) (backToKw pos (keywordEach [] X.env))) := by rfl) :
    PE X (.Call (.Attribute o m apos) (e :: es) [] pos) (tMeth C m sp [] E0 ta t) := by
  obtain ⟨f, fd, F, hm, hb⟩ := h
  refine ⟨fun pins s σ H Q I h => PySem.W.methodCall_KW (pl := pl) (thn (he.run pins s σ H _ I h) fun u s1 r => ?_) ht⟩
  obtain ⟨x, H1, I1, rx, a, dx, fs, rfl, ea, l, q⟩ := r
  obtain rfl : u = Value.ref a := rx
  refine getmeth_ok I1 ea c hm l (PySem.W.callWith_K (first := [.ref a]) (h₀ := X.base) I.ok.mod.kin hm.kp (thn (ha.run pos pins s1 σ H1 _ I1 q) fun us s2 r2 => ?_) hst hpl)
  obtain ⟨vs, H2, I2, r, q2⟩ := r2
  exact ⟨I2.kIn, runG (us := .ref a :: us) (vs := .ref a :: vs) F hG (hr.mono hj) hb .nil pass0 I2 (.cons rfl r) q2⟩
/-- o.m() -/
theorem pe_MP0 {pl : Sem Bool} (he : PE X o ta) (c : Cls X.K C) (h : MPr X.prog X.w X.K X.mg X.base CX0 j C m ps sp) (hr : Room k X.A) (hG : X.A.guards = some []) (hj : j ≤ k := by decide)
    (ht : eval (.Call (.Attribute o m apos) [] [] pos) X.env = (do
      let ov ← eval o X.env
      standAt apos.atName
      let (fn, first) ← holding [ov] (getMethod ov m pl)
      callWith pos fn first (backTo pos (starEach [] X.env)) (backToKw pos (keywordEach [] X.env))) := by rfl) :
    PE X (.Call (.Attribute o m apos) [] [] pos) (tMeth C m sp [] E0 ta tNil) := by
  obtain ⟨f, fd, F, hm, hb⟩ := h
  refine ⟨fun pins s σ H Q I h => PySem.W.methodCall_KW (pl := pl) (thn (he.run pins s σ H _ I h) fun u s1 r => ?_) ht⟩
  obtain ⟨x, H1, I1, rx, a, dx, fs, rfl, ea, l, q⟩ := r
  obtain rfl : u = Value.ref a := rx
  exact getmeth_ok I1 ea c hm l (PySem.W.callWith_K0 (first := [.ref a]) I1.kIn hm.kp (runG (us := [.ref a]) (vs := [.ref a]) F hG (hr.mono hj) hb .nil pass0 I1 (.cons rfl .nil) q))
end
/-! ### readings -/
def Fld (K : PySem.W.Frag) (f : Str) (x : V) (H : Hp) (Q : VK) : Prop := ∃ a C dx fs v, x = .ref a ∧ H a = some (.ins C dx fs) ∧ Cls K C ∧ NoAttr K C f ∧ fs.lookup f = some v ∧ Q v H
def SFld (K : PySem.W.Frag) (f : Str) (x y : V) (H : Hp) (G : Hp → Prop) : Prop := ∃ a C dx fs, x = .ref a ∧ H a = some (.ins C dx fs) ∧ Cls K C ∧ NoAttr K C f ∧ fs.length < 1000 ∧ G (upd H a (.ins C dx (putF f y fs)))
def MethR (C : Addr) (m : Str) (sp : Sp) (t : TA) (x : V) (σ : L2.St) (H : Hp) (Q : VK) : Prop := ∃ a dx fs, x = .ref a ∧ H a = some (.ins C dx fs) ∧ fs.lookup m = none ∧ t σ H fun vs H2 => sp (x :: (vs ++ [])) H2 Q E0
section
variable {σ : L2.St} {H : Hp} {Q : VK} {K : PySem.W.Frag} {v y : V} {ta tv : TE} {t : TA} {f m : Str} {D : Ends} {C p dx : Addr} {fs : List (Str × V)} {sp : Sp} {G : Hp → Prop} {xs : List V} {rd : V → V → Hp → VK → Prop} {T : String} {r : V → List V → Hp → VK → Prop} {b : Bool}
theorem x_fld : tFld K ta f σ H Q ↔ ta σ H fun x H1 => Fld K f x H1 Q := Iff.rfl
theorem fld (h : H p = some (.ins C dx fs)) (c : Cls K C) (n : NoAttr K C f) (l : fs.lookup f = some v) (q : Q v H) : Fld K f (.ref p) H Q := ⟨p, C, dx, fs, v, rfl, h, c, n, l, q⟩
theorem x_sfld : sFld K ta tv f D σ H ↔ tv σ H fun y H1 => ta σ H1 fun x H2 => SFld K f x y H2 fun H3 => D.nx σ H3 := Iff.rfl
theorem sfld (h : H p = some (.ins C dx fs)) (c : Cls K C) (n : NoAttr K C f) (l : fs.length < 1000) (q : G (upd H p (.ins C dx (putF f y fs)))) : SFld K f (.ref p) y H G := ⟨p, C, dx, fs, rfl, h, c, n, l, q⟩
theorem x_meth : tMeth C m sp [] E0 ta t σ H Q ↔ ta σ H fun x H1 => MethR C m sp t x σ H1 Q := Iff.rfl
theorem meth (h : H p = some (.ins C dx fs)) (l : fs.lookup m = none) (q : t σ H fun vs H2 => sp (.ref p :: (vs ++ [])) H2 Q E0) : MethR C m sp t (.ref p) σ H Q := ⟨p, dx, fs, rfl, h, l, q⟩
theorem x_make {dvs : List V} {E : XK} : tMake C sp dvs E t σ H Q ↔ t σ H fun vs H1 => ∀ x dx, H1 x = none → H1 dx = none → dx ≠ x → sp (.ref x :: (vs ++ dvs)) (upd (upd H1 dx (.own x)) x (.ins C dx [])) (fun v H2 => v = .non ∧ Q (.ref x) H2) E := Iff.rfl
theorem x_fldaug : sFldAug K ta tv rd f D σ H ↔ ta σ H fun x H1 => ∃ a C dx fs v, x = .ref a ∧ H1 a = some (.ins C dx fs) ∧ Cls K C ∧ NoAttr K C f ∧ fs.lookup f = some v ∧
  tv σ H1 fun y H2 => rd v y H2 fun z H3 => ∃ dx' fs', H3 a = some (.ins C dx' fs') ∧ fs'.length < 1000 ∧ D.nx σ (upd H3 a (.ins C dx' (putF f z fs'))) := Iff.rfl
theorem x_BM0 : tBM0 K T r ta σ H Q ↔ ta σ H fun x H1 => tyV K T x H1 ∧ r x [] H1 Q := Iff.rfl
theorem x_pop {l : Addr} (h : H l = some (.lst xs)) (hy : xs[xs.length - 1]? = some y) (q : Q y (upd H l (.lst xs.dropLast))) : rPop (.ref l) [] H Q := ⟨l, xs, y, rfl, rfl, h, hy, q⟩
end
section
variable {σ : L2.St} {H : Hp} {Q : VK} {i : Nat} {te : TE} {ti : V → V → Hp → VK → Prop} {D : Ends} {g : Int → Int → Int} {a b : Int}
theorem x_aug : tAug i te ti D σ H ↔ ∃ x, σ[i]? = some (some x) ∧ te σ H fun y H1 => ti x y H1 fun z H2 => D.nx (σ.set i (some z)) H2 := Iff.rfl
theorem x_ipI : ipI g (.int a) (.int b) H Q ↔ Q (.int (g a b)) H := ⟨fun ⟨_, _, e1, e2, q⟩ => by cases e1; cases e2; exact q, fun q => ⟨_, _, rfl, rfl, q⟩⟩
theorem x_rAdd : rAdd (.int a) (.int b) H Q ↔ Q (.int (a + b)) H := ⟨fun ⟨_, _, e1, e2, q⟩ => by cases e1; cases e2; exact q, fun q => ⟨_, _, rfl, rfl, q⟩⟩
end
theorem x_while {c : TT} {tb : TS} {D : Ends} {σ : L2.St} {H : Hp} : tWhile c tb D σ H ↔ ∃ W : Nat → L2.St → Hp → Prop, (∃ m, W m σ H) ∧ ∀ m σ H, W m σ H →
  c σ H fun b H1 => if b = true then ∃ N : L2.St → Hp → Prop, (∀ σ' H', N σ' H' → ∃ m', m' < m ∧ W m' σ' H') ∧ tb { D with nx := N, ct := N, bk := D.nx } σ H1 else D.nx σ H1 := Iff.rfl
theorem x_retN {D : Ends} {σ : L2.St} {H : Hp} : tRetN D σ H ↔ D.rt .non H := Iff.rfl
section
variable {X : Cx} {K : PySem.W.Frag}
theorem ixTK (h : X.K = K) : IxR X (rIxT K) := h ▸ ix_tup
theorem ixLK (h : X.K = K) : IxR X (rIxL K) := h ▸ ix_list
end
theorem truL {K : PySem.W.Frag} {H : Hp} {p : Addr} {xs : List V} (h : SqL K H p xs) : TruV K (.ref p) H (!xs.isEmpty) := .inl ⟨xs, h, rfl⟩
theorem truT {K : PySem.W.Frag} {H : Hp} {p : Addr} {xs : List V} (h : SqT K H p xs) : TruV K (.ref p) H (!xs.isEmpty) := .inr (.inl ⟨xs, h, rfl⟩)
end Cc

set_option Elab.async false
set_option linter.all false
set_option maxRecDepth 100000
set_option maxHeartbeats 4000000
/-! The numbers that a chain can give: what the object that is asked for them holds. -/
namespace Cc
open PySem PySem.Spec PyProof.Rows L2
abbrev Rg := List (Int × Int)
def cntR (r : Rg) : Int := (r.map fun p => p.2 - p.1 + 1).sum
def numAt : Rg → Int → Option Int
  | [], _ => none
  | p :: r, k => if k ≤ p.2 - p.1 then some (p.1 + k) else numAt r (k - (p.2 - p.1 + 1))
def movR (r : Rg) (d : Int) : Rg := r.map fun p => (p.1 + d, p.2 + d)
def stayR (r : Rg) (last : Int) : Rg := (r.filter fun p => decide (p.1 ≤ last)).map fun p => (p.1, if last < p.2 then last else p.2)
def leavR (r : Rg) (last : Int) : Rg := (r.filter fun p => decide (last < p.2)).map fun p => (if last + 1 > p.1 then last + 1 else p.1, p.2)
structure Lv where
  w : Int
  cut : Int
  rs : Rg
structure Spr where
  lv : List Lv
  off : Int
  tot : Int
def Spr.new : Spr := ⟨[], 0, 0⟩
def popS (lv : List Lv) (n : Int) : List Lv := (lv.reverse.dropWhile fun v => decide (n ≤ v.w)).reverse
def lowOf (r : Rg) : Int := match r with | p :: _ => p.1 | [] => 0
def wider (S : Spr) (v : Lv) (w : Str) (n : Int) : Spr :=
  let off := castI (lowOf v.rs + S.off) w n - lowOf v.rs
  let last := lowI w n + 2 ^ n.toNat - 1 - off
  if leavR v.rs last = [] then ⟨S.lv, off, S.tot⟩ else ⟨S.lv ++ [⟨n, cntR (stayR v.rs last), movR (leavR v.rs last) (-(2 ^ n.toNat)) ++ stayR v.rs last⟩], off, S.tot⟩
def takeS (S : Spr) (w : Str) (n : Int) : Spr :=
  if w = "add" then ⟨S.lv, S.off + n, S.tot + n⟩
  else match (popS S.lv n).getLast? with
    | none => ⟨[⟨n, 0, [(0, 2 ^ n.toNat - 1)]⟩], lowI w n, S.tot⟩
    | some v => wider ⟨popS S.lv n, S.off, S.tot⟩ v w n
/-- every level has a range -/
def Full (S : Spr) : Prop := ∀ v ∈ S.lv, v.rs ≠ []

theorem popS_snoc (lv : List Lv) (v : Lv) (n : Int) : popS (lv ++ [v]) n = if n ≤ v.w then popS lv n else lv ++ [v] := by
  unfold popS
  rw [List.reverse_append, List.reverse_singleton, List.singleton_append, List.dropWhile_cons]
  by_cases h : n ≤ v.w
  · simp [h]
  · simp [h]
theorem popS_nil (n : Int) : popS [] n = [] := rfl
theorem popS_sub {lv : List Lv} {n : Int} {v : Lv} (h : v ∈ popS lv n) : v ∈ lv := by
  unfold popS at h
  rw [List.mem_reverse] at h
  exact List.mem_reverse.mp ((List.dropWhile_sublist _).mem h)

/-! ### in the heap -/
inductive Rgs (K : PySem.W.Frag) (H : Hp) : List V → Rg → Prop
  | nil : Rgs K H [] []
  | cons {t : Addr} {a b : Int} {xs : List V} {r : Rg} : H t = some (.tup [.int a, .int b]) → Rgs K H xs r → Rgs K H (.ref t :: xs) ((a, b) :: r)
def RgAt (K : PySem.W.Frag) (H : Hp) (l : Addr) (r : Rg) : Prop := ∃ xs, H l = some (.lst xs) ∧ Rgs K H xs r
inductive Lvs (K : PySem.W.Frag) (H : Hp) (l : Addr) : List V → List Lv → Prop
  | nil : Lvs K H l [] []
  | cons {t q : Addr} {w c : Int} {r : Rg} {xs : List V} {lv : List Lv} : SqT K H t [.int w, .int c, .ref q] → q ≠ l → RgAt K H q r → Lvs K H l xs lv → Lvs K H l (.ref t :: xs) (⟨w, c, r⟩ :: lv)
def sf (l : Addr) (o t : Int) : List (Str × V) := [("levels", .ref l), ("offset", .int o), ("total", .int t)]
/-- the object stands at p, its list of levels at l -/
def SpAt (K : PySem.W.Frag) (C : Addr) (H : Hp) (p l : Addr) (S : Spr) : Prop := ∃ dx xs, H p = some (.ins C dx (sf l S.off S.tot)) ∧ H l = some (.lst xs) ∧ Lvs K H l xs S.lv
/-- all but p and l stands -/
def But (p l : Addr) (H H' : Hp) : Prop := ∀ b o, b ≠ p → b ≠ l → H b = some o → H' b = some o
section
variable {K : PySem.W.Frag} {H H' H'' : Hp} {p l q : Addr} {xs ys : List V} {r r' : Rg} {C : Addr} {S : Spr} {lv : List Lv}
theorem But.refl : But p l H H := fun _ _ _ _ e => e
theorem But.trans (a : But p l H H') (b : But p l H' H'') : But p l H H'' := fun c o h1 h2 e => b c o h1 h2 (a c o h1 h2 e)
theorem But.of (e : Same H H') : But p l H H' := fun b o _ _ h => e b o h
theorem But.updP {o : HO} : But p l H (upd H p o) := fun b u h _ e => by rw [upd_ne h]; exact e
theorem But.updL {o : HO} : But p l H (upd H l o) := fun b u _ h e => by rw [upd_ne h]; exact e
/-- tuples are none of the two -/
theorem But.tup {o : HO} (e : But p l H H') (hp : H p = some o) (hl : H l = some (.lst ys)) (no : ∀ zs, o ≠ .tup zs) (nf : ∀ u v, o ≠ .frz u v) {t : Addr} (h : SqT K H t xs) : SqT K H' t xs := by
  have np : ∀ {u : HO}, H t = some u → (∀ zs, u ≠ .tup zs → True) → u ≠ o → t ≠ p := fun hu _ hn z => by
    rw [z, hp] at hu
    exact hn (Option.some.inj hu).symm
  rcases h with (h | ⟨u, h⟩) | h
  · refine .inl (.inl (e t _ (fun z => ?_) (fun z => ?_) h))
    · rw [z, hp] at h; exact no _ (Option.some.inj h)
    · rw [z, hl] at h; exact nomatch h
  · refine .inl (.inr ⟨u, e t _ (fun z => ?_) (fun z => ?_) h⟩)
    · rw [z, hp] at h; exact nf _ _ (Option.some.inj h)
    · rw [z, hl] at h; exact nomatch h
  · exact .inr h
theorem Rgs.same (e : ∀ {t : Addr} {xs : List V}, H t = some (.tup xs) → H' t = some (.tup xs)) : ∀ {xs : List V} {r : Rg}, Rgs K H xs r → Rgs K H' xs r
  | _, _, .nil => .nil
  | _, _, .cons h t => .cons (e h) (Rgs.same e t)
theorem RgAt.same (e : Same H H') (h : RgAt K H q r) : RgAt K H' q r := by
  obtain ⟨xs, h1, h2⟩ := h
  exact ⟨xs, e _ _ h1, h2.same fun h => e _ _ h⟩
theorem RgAt.but {dx : Addr} {fs : List (Str × V)} (e : But p l H H') (hp : H p = some (.ins C dx fs)) (hl : H l = some (.lst ys)) (hq : q ≠ l) (h : RgAt K H q r) : RgAt K H' q r := by
  obtain ⟨xs, h1, h2⟩ := h
  refine ⟨xs, e q _ (fun z => ?_) hq h1, h2.same fun h => e _ _ (fun z => by rw [z, hp] at h; exact nomatch h) (fun z => by rw [z, hl] at h; exact nomatch h) h⟩
  rw [z, hp] at h1
  exact nomatch h1
theorem Lvs.but {dx : Addr} {fs : List (Str × V)} (e : But p l H H') (hp : H p = some (.ins C dx fs)) (hl : H l = some (.lst ys)) : ∀ {xs : List V} {lv : List Lv}, Lvs K H l xs lv → Lvs K H' l xs lv
  | _, _, .nil => .nil
  | _, _, .cons h1 h2 h3 h4 => .cons (But.tup e hp hl (fun _ => nofun) (fun _ _ => nofun) h1) h2 (RgAt.but e hp hl h2 h3) (Lvs.but e hp hl h4)
theorem Lvs.same (e : Same H H') : ∀ {xs : List V} {lv : List Lv}, Lvs K H l xs lv → Lvs K H' l xs lv
  | _, _, .nil => .nil
  | _, _, .cons h1 h2 h3 h4 => .cons (Same.tup e h1) h2 (h3.same e) (Lvs.same e h4)
theorem SpAt.same (e : Same H H') (h : SpAt K C H p l S) : SpAt K C H' p l S := by
  obtain ⟨dx, xs, h1, h2, h3⟩ := h
  exact ⟨dx, xs, e _ _ h1, e _ _ h2, h3.same e⟩
theorem Lvs.len : ∀ {xs : List V} {lv : List Lv}, Lvs K H l xs lv → xs.length = lv.length
  | _, _, .nil => rfl
  | _, _, .cons _ _ _ t => congrArg (· + 1) (Lvs.len t)
theorem Lvs.get : ∀ {xs : List V} {lv : List Lv} {i : Nat} {x : V}, Lvs K H l xs lv → xs[i]? = some x → ∃ t q v, x = .ref t ∧ lv[i]? = some v ∧ SqT K H t [.int v.w, .int v.cut, .ref q] ∧ q ≠ l ∧ RgAt K H q v.rs
  | _, _, _, _, .nil, e => by simp at e
  | _, _, 0, _, .cons h1 h2 h3 _, e => by
    simp at e
    exact ⟨_, _, _, e.symm, rfl, h1, h2, h3⟩
  | _, _, i + 1, x, .cons _ _ _ t, e => by
    obtain ⟨t', q, v, e1, e2, e3⟩ := Lvs.get (i := i) (x := x) t (by simpa using e)
    exact ⟨t', q, v, e1, by simpa using e2, e3⟩
theorem Lvs.snoc {t : Addr} {w c : Int} : ∀ {xs : List V} {lv : List Lv}, Lvs K H l xs lv → SqT K H t [.int w, .int c, .ref q] → q ≠ l → RgAt K H q r → Lvs K H l (xs ++ [.ref t]) (lv ++ [⟨w, c, r⟩])
  | _, _, .nil, h1, h2, h3 => .cons h1 h2 h3 .nil
  | _, _, .cons a b c' d, h1, h2, h3 => .cons a b c' (Lvs.snoc d h1 h2 h3)
theorem Lvs.dropLast (h : Lvs K H l xs lv) : Lvs K H l xs.dropLast lv.dropLast := by
  induction h with
  | nil => exact .nil
  | cons a b c d ih =>
    cases d with
    | nil => exact .nil
    | cons a' b' c' d' => exact .cons a b c ih
theorem Rgs.len : ∀ {xs : List V} {r : Rg}, Rgs K H xs r → xs.length = r.length
  | _, _, .nil => rfl
  | _, _, .cons _ t => congrArg (· + 1) (Rgs.len t)
theorem Rgs.get : ∀ {xs : List V} {r : Rg} {i : Nat} {x : V}, Rgs K H xs r → xs[i]? = some x → ∃ t a b, x = .ref t ∧ r[i]? = some (a, b) ∧ SqT K H t [.int a, .int b]
  | _, _, _, _, .nil, e => by simp at e
  | _, _, 0, _, .cons h1 _, e => by
    simp at e
    exact ⟨_, _, _, e.symm, rfl, SqT.of h1⟩
  | _, _, i + 1, x, .cons _ t, e => by
    obtain ⟨t', a, b, e1, e2, e3⟩ := Rgs.get (i := i) (x := x) t (by simpa using e)
    exact ⟨t', a, b, e1, by simpa using e2, e3⟩
theorem Rgs.append : ∀ {xs ys : List V} {r r' : Rg}, Rgs K H xs r → Rgs K H ys r' → Rgs K H (xs ++ ys) (r ++ r')
  | _, _, _, _, .nil, h => h
  | _, _, _, _, .cons a b, h => .cons a (Rgs.append b h)
theorem Rgs.snoc {t : Addr} {a b : Int} (h : Rgs K H xs r) (ht : H t = some (.tup [.int a, .int b])) : Rgs K H (xs ++ [.ref t]) (r ++ [(a, b)]) := h.append (.cons ht .nil)
end
/-- a list of ranges grows by one, its new tuple at p -/
theorem Rgs.grow {K : PySem.W.Frag} {H : Hp} {p D : Addr} {ys zs : List V} {r : Rg} {a b : Int} {o : HO} (h : Rgs K H ys r) (np : H p = none) (hD : H D = some (.lst zs)) : Rgs K (upd (upd H p (.tup [.int a, .int b])) D o) (ys ++ [.ref p]) (r ++ [(a, b)]) := by
  have hpD : p ≠ D := fun z => by rw [z, hD] at np; cases np
  refine (h.same fun {t zs} h => ?_).snoc (by rw [upd_ne hpD, upd_same])
  have h1 := (same_new (o := .tup [.int a, .int b]) np) _ _ h
  rw [upd_ne (fun z => by rw [z, upd_ne hpD.symm, hD] at h1; exact nomatch h1)]
  exact h1
/-- another list changes: none of the object's, for its items are no ranges and no levels -/
theorem Rgs.other {K : PySem.W.Frag} {H : Hp} {c : Addr} {o : HO} (ho : ∀ zs, H c ≠ some (.tup zs)) {xs : List V} {r : Rg} (h : Rgs K H xs r) : Rgs K (upd H c o) xs r :=
  h.same fun h => by rw [upd_ne (fun z => ho _ (by rw [← z]; exact h))]; exact h
theorem RgAt.other {K : PySem.W.Frag} {H : Hp} {c t q : Addr} {ys : List V} {o : HO} {x : Str} {n : Int} {r : Rg} (hc : H c = some (.lst (.ref t :: ys))) (ht : H t = some (.tup [.str x, .int n])) (hr : r ≠ []) (h : RgAt K H q r) : RgAt K (upd H c o) q r := by
  obtain ⟨xs, h1, h2⟩ := h
  have hq : q ≠ c := fun z => by
    rw [z, hc] at h1
    cases h1
    cases h2 with
    | cons a b =>
      rw [ht] at a
      cases a
  exact ⟨xs, by rw [upd_ne hq]; exact h1, h2.other fun zs e => by rw [hc] at e; cases e⟩
theorem Lvs.other {K : PySem.W.Frag} {H : Hp} {l c t : Addr} {ys : List V} {o : HO} {x : Str} {n : Int} (hc : H c = some (.lst (.ref t :: ys))) (ht : H t = some (.tup [.str x, .int n]))
    {xs : List V} {lv : List Lv} (hf : ∀ v ∈ lv, v.rs ≠ []) (h : Lvs K H l xs lv) : Lvs K (upd H c o) l xs lv := by
  induction h with
  | nil => exact .nil
  | cons h1 h2 h3 h4 ih =>
    refine .cons ?_ h2 (h3.other hc ht (hf _ List.mem_cons_self)) (ih fun v hv => hf v (List.mem_cons_of_mem _ hv))
    rcases h1 with (h1 | ⟨u, h1⟩) | h1
    · exact .inl (.inl (by show upd H c o _ = _; rw [upd_ne (fun z => by rw [z, hc] at h1; cases h1)]; exact h1))
    · exact .inl (.inr ⟨u, by show upd H c o _ = _; rw [upd_ne (fun z => by rw [z, hc] at h1; cases h1)]; exact h1⟩)
    · exact .inr h1
theorem SpAt.other {K : PySem.W.Frag} {C : Addr} {H : Hp} {p l c t : Addr} {ys : List V} {o : HO} {x : Str} {n : Int} {S : Spr} (hc : H c = some (.lst (.ref t :: ys))) (ht : H t = some (.tup [.str x, .int n])) (hl : c ≠ l) (hF : ∀ v ∈ S.lv, v.rs ≠ []) (h : SpAt K C H p l S) : SpAt K C (upd H c o) p l S := by
  obtain ⟨dx, xs, h1, h2, h3⟩ := h
  exact ⟨dx, xs, by rw [upd_ne (fun z => by rw [z, hc] at h1; cases h1)]; exact h1, by rw [upd_ne hl.symm]; exact h2, h3.other hc ht hF⟩
/-! ### the fields -/
theorem sf_levels (l : Addr) (o t : Int) : (sf l o t).lookup ("levels" : Str) = some (.ref l) := by
  unfold sf
  rw [List.lookup_cons, show (("levels" : Str) == "levels") = true by decide +kernel]
theorem sf_offset (l : Addr) (o t : Int) : (sf l o t).lookup ("offset" : Str) = some (.int o) := by
  unfold sf
  rw [List.lookup_cons, show (("offset" : Str) == "levels") = false by decide +kernel]
  simp only
  rw [List.lookup_cons, show (("offset" : Str) == "offset") = true by decide +kernel]
theorem sf_total (l : Addr) (o t : Int) : (sf l o t).lookup ("total" : Str) = some (.int t) := by
  unfold sf
  rw [List.lookup_cons, show (("total" : Str) == "levels") = false by decide +kernel]
  simp only
  rw [List.lookup_cons, show (("total" : Str) == "offset") = false by decide +kernel]
  simp only
  rw [List.lookup_cons, show (("total" : Str) == "total") = true by decide +kernel]
theorem sf_none {m : Str} (l : Addr) (o t : Int) (h1 : (m == ("levels" : Str)) = false) (h2 : (m == ("offset" : Str)) = false) (h3 : (m == ("total" : Str)) = false) : (sf l o t).lookup m = none := by
  unfold sf
  rw [List.lookup_cons, h1]
  simp only
  rw [List.lookup_cons, h2]
  simp only
  rw [List.lookup_cons, h3]
  rfl
theorem lo_ : ¬ (("levels" : Str) = "offset") := by decide +kernel
theorem lt_ : ¬ (("levels" : Str) = "total") := by decide +kernel
theorem ot_ : ¬ (("offset" : Str) = "total") := by decide +kernel
theorem sf_put_offset (l : Addr) (o o' t : Int) : putF "offset" (.int o') (sf l o t) = sf l o' t := by
  show (if ("levels" : Str) = "offset" then _ else (("levels" : Str), V.ref l) :: (if ("offset" : Str) = "offset" then (("offset" : Str), V.int o') :: [(("total" : Str), V.int t)] else _)) = sf l o' t
  rw [if_neg lo_, if_pos rfl]
  rfl
theorem sf_put_total (l : Addr) (o t t' : Int) : putF "total" (.int t') (sf l o t) = sf l o t' := by
  show (if ("levels" : Str) = "total" then _ else (("levels" : Str), V.ref l) :: (if ("offset" : Str) = "total" then _ else (("offset" : Str), V.int o) :: (if ("total" : Str) = "total" then [(("total" : Str), V.int t')] else _))) = sf l o t'
  rw [if_neg lt_, if_neg ot_, if_pos rfl]
  rfl
theorem sf_make (l : Addr) : putF "total" (.int 0) (putF "offset" (.int 0) (putF "levels" (.ref l) [])) = sf l 0 0 := by
  show putF "total" (.int 0) (if ("levels" : Str) = "offset" then _ else (("levels" : Str), V.ref l) :: [(("offset" : Str), V.int 0)]) = sf l 0 0
  rw [if_neg lo_]
  show (if ("levels" : Str) = "total" then _ else (("levels" : Str), V.ref l) :: (if ("offset" : Str) = "total" then _ else (("offset" : Str), V.int 0) :: [(("total" : Str), V.int 0)])) = sf l 0 0
  rw [if_neg lt_, if_neg ot_]
  rfl
end Cc

set_option Elab.async false
set_option linter.all false
set_option maxRecDepth 100000
set_option maxHeartbeats 4000000
/-! What casts make of numbers: plain arithmetic. -/
namespace Cc
open PySem PySem.Spec PyProof.Rows L2
theorem two_succ (n : Nat) : (2 : Int) ^ (n + 1) = 2 * 2 ^ n := by rw [Int.pow_succ, Int.mul_comm]
theorem two_dvd {m n : Nat} (h : m ≤ n) : (2 : Int) ^ m ∣ 2 ^ n := ⟨2 ^ (n - m), by rw [← Int.pow_add, Nat.add_sub_cancel' h]⟩
theorem low_u (n : Int) : lowI "u" n = 0 := if_pos rfl
theorem low_s (n : Int) : lowI "s" n = -(2 ^ (n - 1).toNat) := if_neg (by decide +kernel)
theorem cast_lo (x : Int) (w : Str) (n : Int) : lowI w n ≤ castI x w n := by
  have h := Int.emod_nonneg (x - lowI w n) (show (2 : Int) ^ n.toNat ≠ 0 from Int.ne_of_gt (two_pos _))
  unfold castI
  omega
theorem cast_hi (x : Int) (w : Str) (n : Int) : castI x w n < lowI w n + 2 ^ n.toNat := by
  have h := Int.emod_lt_of_pos (x - lowI w n) (two_pos n.toNat)
  unfold castI
  omega
theorem cast_mod (x : Int) (w : Str) (n : Int) : castI x w n % 2 ^ n.toNat = x % 2 ^ n.toNat := by
  unfold castI
  rw [Int.add_emod_emod, show lowI w n + (x - lowI w n) = x by omega]
theorem cast_dvd (x : Int) (w : Str) (n : Int) : (2 : Int) ^ n.toNat ∣ castI x w n - x := Int.dvd_of_emod_eq_zero (Int.emod_eq_emod_iff_emod_sub_eq_zero.mp (cast_mod x w n))
theorem cast_fix {x : Int} {w : Str} {n : Int} (h0 : lowI w n ≤ x) (h1 : x < lowI w n + 2 ^ n.toNat) : castI x w n = x := by
  unfold castI
  rw [Int.emod_eq_of_lt (by omega) (by omega)]
  omega
theorem cast_same {x y : Int} {w : Str} {n : Int} (h : x % 2 ^ n.toNat = y % 2 ^ n.toNat) : castI x w n = castI y w n := by
  unfold castI
  have e : (x - lowI w n) % 2 ^ n.toNat = (y - lowI w n) % 2 ^ n.toNat := by rw [Int.sub_emod, h, ← Int.sub_emod]
  rw [e]
theorem mod_mod_of {x y : Int} {m n : Nat} (h : m ≤ n) (e : x % 2 ^ n = y % 2 ^ n) : x % 2 ^ m = y % 2 ^ m := by
  rw [← Int.emod_emod_of_dvd x (two_dvd h), e, Int.emod_emod_of_dvd y (two_dvd h)]
/-- a wider cast ahead of a narrower one is needless -/
theorem cast_cast {x : Int} {w w' : Str} {n o : Int} (h : n ≤ o) : castI (castI x w' o) w n = castI x w n :=
  cast_same (mod_mod_of (by omega) (cast_mod x w' o))
theorem cast_u (x n : Int) : castI x "u" n = x % 2 ^ n.toNat := by
  unfold castI
  rw [low_u, Int.sub_zero, Int.zero_add]
theorem half_two {n : Int} (h : 1 ≤ n) : (2 : Int) ^ n.toNat = 2 * 2 ^ (n - 1).toNat := by
  rw [← two_succ]
  congr 1
  omega
theorem fits_in {x : Int} {w w' : Str} {n : Int} (hw : w = "u" ∨ w = "s") (hn : 1 ≤ n) : castI (castI x w n) "s" (n + 1) = castI x w n := by
  have h0 := cast_lo x w n
  have h1 := cast_hi x w n
  have p := two_pos n.toNat
  have q := two_pos (n - 1).toNat
  have e := half_two hn
  have e2 := half_two (n := n + 1) (by omega)
  rw [show (n + 1 - 1).toNat = n.toNat by omega] at e2
  refine cast_fix ?_ ?_
  · rw [low_s, show (n + 1 - 1).toNat = n.toNat by omega]
    rcases hw with rfl | rfl
    · rw [low_u] at h0; omega
    · rw [low_s] at h0; omega
  · rw [low_s, show (n + 1 - 1).toNat = n.toNat by omega, e2]
    rcases hw with rfl | rfl
    · rw [low_u] at h1; omega
    · rw [low_s] at h1; omega
/-! the lowest binary digits, by halving -/
def bitsI (x : Int) (m : Nat) : List Int := (List.range m).map fun j => x / 2 ^ j % 2
theorem bits_len (x : Int) (m : Nat) : (bitsI x m).length = m := by unfold bitsI; simp
theorem bits_succ (x : Int) (m : Nat) : bitsI x (m + 1) = bitsI x m ++ [x / 2 ^ m % 2] := by
  unfold bitsI
  rw [List.range_succ, List.map_append]
  rfl
theorem half_half (x : Int) (m : Nat) : x / 2 ^ m / 2 = x / 2 ^ (m + 1) := by
  rw [Int.ediv_ediv_of_nonneg (Int.le_of_lt (two_pos m)), Int.pow_succ]
/-- what the digits up to the i-th are worth -/
def worth (x : Int) : Nat → Int
  | 0 => 0
  | i + 1 => worth x i + x / 2 ^ i % 2 * 2 ^ i
theorem worth_mod (x : Int) : ∀ i, worth x i = x % 2 ^ i
  | 0 => by simp [worth]
  | i + 1 => by
    have ih := worth_mod x i
    unfold worth
    rw [ih]
    have p := two_pos i
    have h1 := Int.emod_add_mul_ediv x (2 ^ i)
    have h2 := Int.emod_add_mul_ediv (x / 2 ^ i) 2
    have h3 := Int.emod_add_mul_ediv x (2 ^ (i + 1))
    rw [half_half] at h2
    have e : (2 : Int) ^ (i + 1) = 2 ^ i * 2 := Int.pow_succ _ _
    have h4 : (2 : Int) ^ i * (x / 2 ^ i) = 2 ^ i * (x / 2 ^ i % 2) + 2 ^ (i + 1) * (x / 2 ^ (i + 1)) := by
      have h5 : (2 : Int) ^ i * (x / 2 ^ i) = 2 ^ i * (x / 2 ^ i % 2 + 2 * (x / 2 ^ (i + 1))) := by rw [h2]
      rw [h5, Int.mul_add, ← Int.mul_assoc, ← e]
    rw [Int.mul_comm (x / 2 ^ i % 2)]
    omega
theorem signed_worth {x n : Int} (hn : 1 ≤ n) : castI x "s" n = worth x (n.toNat - 1) - x / 2 ^ (n.toNat - 1) % 2 * 2 ^ (n.toNat - 1) := by
  rw [worth_mod]
  have p := two_pos (n.toNat - 1)
  have e : (2 : Int) ^ n.toNat = 2 * 2 ^ (n.toNat - 1) := by
    rw [← two_succ]
    congr 1
    omega
  have r0 := Int.emod_nonneg x (show (2 : Int) ^ (n.toNat - 1) ≠ 0 from Int.ne_of_gt p)
  have r1 := Int.emod_lt_of_pos x p
  have b0 := Int.emod_nonneg (x / 2 ^ (n.toNat - 1)) (show (2 : Int) ≠ 0 by decide)
  have b1 := Int.emod_lt_of_pos (x / 2 ^ (n.toNat - 1)) (show (0 : Int) < 2 by decide)
  have w2 := worth_mod x (n.toNat - 1 + 1)
  have w1 := worth_mod x (n.toNat - 1)
  unfold worth at w2
  rw [w1, two_succ] at w2
  rw [← e] at w2
  generalize hb : x / 2 ^ (n.toNat - 1) % 2 = b at *
  generalize hr : x % 2 ^ (n.toNat - 1) = r at *
  generalize hP : (2 : Int) ^ (n.toNat - 1) = Pw at *
  have lo : lowI "s" n = -Pw := by rw [low_s, ← hP]; congr 2; omega
  have key : ∀ y : Int, y % 2 ^ n.toNat = x % 2 ^ n.toNat → -Pw ≤ y → y < Pw → castI x "s" n = y := fun y hy h0 h1 => by
    rw [cast_same (w := "s") hy.symm]
    exact cast_fix (by rw [lo]; exact h0) (by rw [lo, e]; omega)
  have hb2 : b = 0 ∨ b = 1 := by omega
  rcases hb2 with rfl | rfl
  · refine key _ ?_ (by omega) (by omega)
    rw [← w2]
    rw [Int.zero_mul, Int.sub_zero, Int.add_zero]
    exact Int.emod_eq_of_lt r0 (by rw [e]; omega)
  · refine key _ ?_ (by omega) (by omega)
    rw [← w2, Int.one_mul]
    have : r - Pw = (r + Pw) + (2 ^ n.toNat) * (-1) := by rw [e]; omega
    rw [this, Int.add_mul_emod_self_left]
    exact Int.emod_eq_of_lt (by omega) (by rw [e]; omega)
end Cc

set_option Elab.async false
set_option linter.all false
set_option maxRecDepth 100000
set_option maxHeartbeats 1000000
/-! What the steps make of the levels: ascending ranges, as many numbers as the least cast has. -/
namespace Cc
open PySem PySem.Spec PyProof.Rows L2
/-- ascending ranges between lo and hi -/
def Asc : Int → Rg → Int → Prop
  | _, [], _ => True
  | lo, (a, b) :: r, hi => lo ≤ a ∧ a ≤ b ∧ b ≤ hi ∧ Asc (b + 1) r hi
theorem Asc.low {lo lo' hi : Int} : ∀ {r : Rg}, Asc lo r hi → lo' ≤ lo → Asc lo' r hi
  | [], _, _ => trivial
  | (a, b) :: r, ⟨h1, h2, h3, h4⟩, h => ⟨by omega, h2, h3, h4⟩
theorem Asc.high {hi hi' : Int} (h : hi ≤ hi') : ∀ {r : Rg} {lo : Int}, Asc lo r hi → Asc lo r hi'
  | [], _, _ => trivial
  | (a, b) :: r, _, ⟨h1, h2, h3, h4⟩ => ⟨h1, h2, by omega, Asc.high h h4⟩
theorem Asc.mov {d hi : Int} : ∀ {r : Rg} {lo : Int}, Asc lo r hi → Asc (lo + d) (movR r d) (hi + d)
  | [], _, _ => trivial
  | (a, b) :: r, _, ⟨h1, h2, h3, h4⟩ => by
    have h := Asc.mov (d := d) h4
    exact ⟨by omega, by omega, by omega, by rw [show b + d + 1 = b + 1 + d by omega]; exact h⟩
theorem Asc.app {hi mid lo2 : Int} {r2 : Rg} (h2 : Asc lo2 r2 hi) (hm : mid < lo2) (hh : mid ≤ hi) : ∀ {r : Rg} {lo : Int}, Asc lo r mid → lo ≤ lo2 → Asc lo (r ++ r2) hi
  | [], _, _, hl => h2.low hl
  | (a, b) :: r, _, ⟨h3, h4, h5, h6⟩, _ => ⟨h3, h4, by omega, Asc.app h2 hm hh h6 (by omega)⟩
theorem stayR_cons (a b : Int) (r : Rg) (z : Int) : stayR ((a, b) :: r) z = if a ≤ z then (a, if z < b then z else b) :: stayR r z else stayR r z := by
  unfold stayR
  by_cases h : a ≤ z
  · rw [List.filter_cons_of_pos (by simp [h]), if_pos h]; rfl
  · rw [List.filter_cons_of_neg (by simp [h]), if_neg h]
theorem leavR_cons (a b : Int) (r : Rg) (z : Int) : leavR ((a, b) :: r) z = if z < b then (if z + 1 > a then z + 1 else a, b) :: leavR r z else leavR r z := by
  unfold leavR
  by_cases h : z < b
  · rw [List.filter_cons_of_pos (by simp [h]), if_pos h]; rfl
  · rw [List.filter_cons_of_neg (by simp [h]), if_neg h]
theorem Asc.stay {z hi : Int} : ∀ {r : Rg} {lo : Int}, Asc lo r hi → Asc lo (stayR r z) z
  | [], _, _ => trivial
  | (a, b) :: r, lo, ⟨h1, h2, h3, h4⟩ => by
    have h := Asc.stay (z := z) h4
    rw [stayR_cons]
    by_cases hc : a ≤ z
    · rw [if_pos hc]
      by_cases hb : z < b
      · rw [if_pos hb]
        exact ⟨h1, hc, by omega, h.low (by omega)⟩
      · rw [if_neg hb]
        exact ⟨h1, h2, by omega, h⟩
    · rw [if_neg hc]
      exact h.low (by omega)
theorem Asc.leave {z hi : Int} : ∀ {r : Rg} {lo : Int}, Asc lo r hi → Asc (z + 1) (leavR r z) hi
  | [], _, _ => trivial
  | (a, b) :: r, lo, ⟨h1, h2, h3, h4⟩ => by
    have h := Asc.leave (z := z) h4
    rw [leavR_cons]
    by_cases hc : z < b
    · rw [if_pos hc]
      have tail : Asc (b + 1) (leavR r z) hi := by
        clear h
        revert h4
        generalize hlo : b + 1 = lo'
        have hz : z < lo' := by omega
        clear hlo
        intro h4
        clear h1 h2 h3 hc
        induction r generalizing lo' with
        | nil => trivial
        | cons p r ih =>
          obtain ⟨a, b⟩ := p
          obtain ⟨g1, g2, g3, g4⟩ := h4
          rw [leavR_cons, if_pos (show z < b by omega), if_neg (show ¬ z + 1 > a by omega)]
          exact ⟨g1, g2, g3, ih (b + 1) (by omega) g4⟩
      by_cases hb : z + 1 > a
      · rw [if_pos hb]
        exact ⟨by omega, by omega, h3, tail⟩
      · rw [if_neg hb]
        exact ⟨by omega, h2, h3, tail⟩
    · rw [if_neg hc]
      exact h
theorem Asc.none_leave {z hi : Int} : ∀ {r : Rg} {lo : Int}, Asc lo r hi → z < lo → stayR r z = []
  | [], _, _, _ => rfl
  | (a, b) :: r, lo, ⟨h1, h2, h3, h4⟩, h => by
    rw [stayR_cons, if_neg (by omega)]
    exact Asc.none_leave h4 (by omega)
theorem leavR_le (r : Rg) (z : Int) : (leavR r z).length ≤ r.length := by
  unfold leavR
  rw [List.length_map]
  exact List.length_filter_le _ _
theorem parts_len {z hi : Int} : ∀ {r : Rg} {lo : Int}, Asc lo r hi → (stayR r z).length + (leavR r z).length ≤ r.length + 1
  | [], _, _ => by simp [stayR, leavR]
  | (a, b) :: r, lo, ⟨h1, h2, h3, h4⟩ => by
    have ih := parts_len (z := z) h4
    rw [stayR_cons, leavR_cons]
    by_cases hc : a ≤ z
    · by_cases hb : z < b
      · rw [if_pos hc, if_pos hb, if_pos hb, Asc.none_leave h4 (by omega)]
        have := leavR_le r z
        simp only [List.length_cons, List.length_nil]
        omega
      · rw [if_pos hc, if_neg hb, if_neg hb]
        simp only [List.length_cons]
        omega
    · by_cases hb : z < b
      · rw [if_neg hc, if_pos hb]
        simp only [List.length_cons]
        omega
      · omega
theorem cntR_cons (p : Int × Int) (r : Rg) : cntR (p :: r) = p.2 - p.1 + 1 + cntR r := by
  unfold cntR
  rw [List.map_cons, List.sum_cons]
theorem cntR_app (r s : Rg) : cntR (r ++ s) = cntR r + cntR s := by
  unfold cntR
  rw [List.map_append, List.sum_append]
theorem cntR_mov (r : Rg) (d : Int) : cntR (movR r d) = cntR r := by
  induction r with
  | nil => rfl
  | cons p r ih =>
    show cntR ((p.1 + d, p.2 + d) :: movR r d) = _
    rw [cntR_cons, cntR_cons, ih]
    dsimp only
    omega
theorem parts_cnt {z hi : Int} : ∀ {r : Rg} {lo : Int}, Asc lo r hi → cntR (stayR r z) + cntR (leavR r z) = cntR r
  | [], _, _ => rfl
  | (a, b) :: r, lo, ⟨h1, h2, h3, h4⟩ => by
    have ih := parts_cnt (z := z) h4
    rw [stayR_cons, leavR_cons, cntR_cons]
    by_cases hc : a ≤ z
    · by_cases hb : z < b
      · rw [if_pos hc, if_pos hb, if_pos hb, if_pos (show z + 1 > a by omega), cntR_cons, cntR_cons]
        dsimp only
        omega
      · rw [if_pos hc, if_neg hb, if_neg hb, cntR_cons]
        dsimp only
        omega
    · rw [if_neg hc, if_pos (show z < b by omega), if_neg (show ¬ z + 1 > a by omega), cntR_cons]
      dsimp only
      omega
theorem numAt_some {hi : Int} : ∀ {r : Rg} {lo k : Int}, Asc lo r hi → 0 ≤ k → k < cntR r → ∃ v, numAt r k = some v ∧ lo ≤ v ∧ v ≤ hi
  | [], _, k, _, h0, h1 => by
    have : cntR [] = 0 := rfl
    omega
  | (a, b) :: r, lo, k, ⟨h1, h2, h3, h4⟩, h0, hk => by
    rw [cntR_cons] at hk
    dsimp only at hk
    unfold numAt
    by_cases hc : k ≤ b - a
    · rw [if_pos hc]
      exact ⟨_, rfl, by dsimp only; omega, by dsimp only; omega⟩
    · rw [if_neg hc]
      obtain ⟨v, e, e1, e2⟩ := numAt_some (k := k - (b - a + 1)) h4 (by omega) (by omega)
      exact ⟨v, e, by omega, e2⟩
/-- a level: its ranges ascend within as many numbers as its width has -/
def LvOk (k : Nat) (v : Lv) : Prop := v.rs.length ≤ k ∧ v.rs ≠ [] ∧ 1 ≤ v.w ∧ v.w ≤ big ∧ Asc (lowOf v.rs) v.rs (lowOf v.rs + 2 ^ v.w.toNat - 1)
structure Sok (k : Nat) (S : Spr) : Prop where
  len : S.lv.length ≤ k
  lvl : ∀ v ∈ S.lv, LvOk k v
  cnt : ∀ u, S.lv.head? = some u → ∀ v ∈ S.lv, cntR v.rs = 2 ^ u.w.toNat
  asc : S.lv.Pairwise fun u v => u.w < v.w
theorem Sok.new : Sok 0 Spr.new := ⟨Nat.le_refl _, fun _ h => (nomatch h), fun _ h => (nomatch h), List.Pairwise.nil⟩
theorem LvOk.up {k m : Nat} {v : Lv} (h : LvOk k v) (hk : k ≤ m) : LvOk m v := ⟨Nat.le_trans h.1 hk, h.2⟩
theorem Sok.up {k m : Nat} {S : Spr} (h : Sok k S) (hk : k ≤ m) : Sok m S := ⟨Nat.le_trans h.len hk, fun v hv => (h.lvl v hv).up hk, h.cnt, h.asc⟩
theorem popS_pre (n : Int) : ∀ lv : List Lv, ∃ r, lv = popS lv n ++ r := by
  intro lv
  induction hk : lv.length generalizing lv with
  | zero =>
    have : lv = [] := List.length_eq_zero_iff.mp hk
    exact ⟨[], by rw [this]; rfl⟩
  | succ k ih =>
    rcases List.eq_nil_or_concat lv with rfl | ⟨l0, v, rfl⟩
    · cases hk
    · rw [List.concat_eq_append] at *
      rw [popS_snoc]
      by_cases h : n ≤ v.w
      · rw [if_pos h]
        obtain ⟨r, hr⟩ := ih l0 (by simpa using hk)
        exact ⟨r ++ [v], by rw [← List.append_assoc, ← hr]⟩
      · rw [if_neg h]
        exact ⟨[], (List.append_nil _).symm⟩
theorem popS_last {n : Int} {v : Lv} : ∀ {lv : List Lv}, (popS lv n).getLast? = some v → v.w < n := by
  intro lv
  induction hk : lv.length generalizing lv with
  | zero =>
    have : lv = [] := List.length_eq_zero_iff.mp hk
    intro h
    rw [this] at h
    exact nomatch h
  | succ k ih =>
    rcases List.eq_nil_or_concat lv with rfl | ⟨l0, u, rfl⟩
    · cases hk
    · rw [List.concat_eq_append] at *
      rw [popS_snoc]
      by_cases h : n ≤ u.w
      · rw [if_pos h]
        exact ih (by simpa using hk)
      · rw [if_neg h, List.getLast?_concat]
        intro e
        cases e
        omega
theorem Sok.pop {k : Nat} {S : Spr} {n : Int} {o t : Int} (h : Sok k S) : Sok k ⟨popS S.lv n, o, t⟩ := by
  obtain ⟨r, hr⟩ := popS_pre n S.lv
  have sub : ∀ v ∈ popS S.lv n, v ∈ S.lv := fun v hv => popS_sub hv
  refine ⟨?_, fun v hv => h.lvl v (sub v hv), fun u hu v hv => h.cnt u ?_ v (sub v hv), ?_⟩
  · have := h.len
    rw [hr, List.length_append] at this
    show (popS S.lv n).length ≤ k
    omega
  · have hu' : (popS S.lv n).head? = some u := hu
    rw [hr]
    cases hp : popS S.lv n with
    | nil => rw [hp] at hu'; cases hu'
    | cons a b => rw [hp] at hu'; exact hu'
  · have := h.asc
    rw [hr] at this
    exact (List.pairwise_append.mp this).1
theorem low_range {x : Str} {n y : Int} (n0 : 1 ≤ n) : lowI x n ≤ castI y x n ∧ castI y x n ≤ lowI x n + 2 ^ n.toNat - 1 := by
  unfold castI
  have h0 := Int.emod_nonneg (y - lowI x n) (show (2 ^ n.toNat : Int) ≠ 0 from Int.ne_of_gt (two_pos _))
  have h1 := Int.emod_lt_of_pos (y - lowI x n) (two_pos n.toNat)
  omega
theorem two_mono {a b : Int} (h : a ≤ b) : (2 : Int) ^ a.toNat ≤ 2 ^ b.toNat := by
  have h : 2 ^ a.toNat ≤ 2 ^ b.toNat := Nat.pow_le_pow_right (by decide) (by omega)
  exact_mod_cast h
theorem asc_lowOf {lo hi : Int} {r : Rg} (h : Asc lo r hi) (hne : r ≠ []) : lo ≤ lowOf r ∧ Asc (lowOf r) r hi ∧ lowOf r ≤ hi := by
  cases r with
  | nil => exact absurd rfl hne
  | cons p r =>
    obtain ⟨a, b⟩ := p
    obtain ⟨h1, h2, h3, h4⟩ := h
    exact ⟨h1, ⟨Int.le_refl _, h2, h3, h4⟩, by show a ≤ hi; omega⟩
/-- the ranges of a wider cast that moves some of them -/
theorem widerR_ok {r : Rg} {lo hi z N : Int} (h : Asc lo r hi) (hz : lo ≤ z) (hN : hi - lo < N) (hne : leavR r z ≠ []) : Asc (z + 1 - N) (movR (leavR r z) (-N) ++ stayR r z) z := by
  have h1 := (h.leave (z := z)).mov (d := -N)
  have h2 := h.stay (z := z)
  by_cases hc : hi ≤ z
  · have : leavR r z = [] := by
      have := h.leave (z := z)
      cases hl : leavR r z with
      | nil => rfl
      | cons p q =>
        rw [hl] at this
        obtain ⟨a, b⟩ := p
        obtain ⟨g1, g2, g3, _⟩ := this
        omega
    exact absurd this hne
  · rw [show z + 1 + -N = z + 1 - N by omega] at h1
    exact Asc.app h2 (by omega) (by omega) h1 (by omega)
theorem wider_ok {k : Nat} {S : Spr} {v : Lv} {x : Str} {n : Int} (h : Sok k S) (hv : S.lv.getLast? = some v) (n0 : 1 ≤ n) (n1 : n ≤ big) (hw : v.w < n) : Sok (k + 1) (wider S v x n) := by
  have hmem : v ∈ S.lv := List.mem_of_getLast? hv
  obtain ⟨l1, l2, l3, l4, l5⟩ := h.lvl v hmem
  unfold wider
  dsimp only
  generalize hz : lowI x n + 2 ^ n.toNat - 1 - (castI (lowOf v.rs + S.off) x n - lowOf v.rs) = z
  have lz : lowOf v.rs ≤ z := by
    have := (low_range (x := x) (n := n) (y := lowOf v.rs + S.off) n0).2
    omega
  have hN : lowOf v.rs + 2 ^ v.w.toNat - 1 - lowOf v.rs < 2 ^ n.toNat := by
    have := two_mono (show v.w ≤ n by omega)
    omega
  by_cases hc : leavR v.rs z = []
  · rw [if_pos hc]
    exact ⟨Nat.le_succ_of_le h.len, fun u hu => (h.lvl u hu).up (Nat.le_succ k), h.cnt, h.asc⟩
  · rw [if_neg hc]
    have hasc := widerR_ok l5 lz hN hc
    have hne : movR (leavR v.rs z) (-(2 ^ n.toNat)) ++ stayR v.rs z ≠ [] := by
      unfold movR
      intro e
      rw [List.append_eq_nil_iff, List.map_eq_nil_iff] at e
      exact hc e.1
    have hcnt : cntR (movR (leavR v.rs z) (-(2 ^ n.toNat)) ++ stayR v.rs z) = cntR v.rs := by
      have := parts_cnt (z := z) l5
      rw [cntR_app, cntR_mov]
      omega
    refine ⟨?_, fun u hu => ?_, fun u hu t ht => ?_, ?_⟩
    · show (S.lv ++ _).length ≤ k + 1
      rw [List.length_append]
      have := h.len
      simp only [List.length_cons, List.length_nil]
      omega
    · rcases List.mem_append.mp hu with hu | hu
      · exact (h.lvl u hu).up (Nat.le_succ k)
      · rw [List.mem_singleton] at hu
        subst hu
        refine ⟨?_, hne, n0, n1, ?_⟩
        · have := parts_len (z := z) l5
          show (movR (leavR v.rs z) (-(2 ^ n.toNat)) ++ stayR v.rs z).length ≤ k + 1
          unfold movR
          rw [List.length_append, List.length_map]
          omega
        · obtain ⟨g1, g2, g3⟩ := asc_lowOf hasc hne
          exact g2.high (by show z ≤ lowOf (movR (leavR v.rs z) (-(2 ^ n.toNat)) ++ stayR v.rs z) + 2 ^ n.toNat - 1; omega)
    · have hne' : S.lv ≠ [] := fun e => by rw [e] at hv; cases hv
      have hu' : S.lv.head? = some u := by
        have hu2 : (S.lv ++ [(⟨n, cntR (stayR v.rs z), movR (leavR v.rs z) (-(2 ^ n.toNat)) ++ stayR v.rs z⟩ : Lv)]).head? = some u := hu
        cases hl : S.lv with
        | nil => exact absurd hl hne'
        | cons a b => rw [hl] at hu2; exact hu2
      rcases List.mem_append.mp ht with ht | ht
      · exact h.cnt u hu' t ht
      · rw [List.mem_singleton] at ht
        subst ht
        show cntR (movR (leavR v.rs z) (-(2 ^ n.toNat)) ++ stayR v.rs z) = _
        rw [hcnt]
        exact h.cnt u hu' v hmem
    · refine List.pairwise_append.mpr ⟨h.asc, by simp, fun a ha b hb => ?_⟩
      rw [List.mem_singleton] at hb
      subst hb
      show a.w < n
      have : a.w ≤ v.w := by
        obtain ⟨ys, hy⟩ := List.getLast?_eq_some_iff.mp hv
        have hA := h.asc
        rw [hy] at hA ha
        rcases List.mem_append.mp ha with ha | ha
        · exact Int.le_of_lt ((List.pairwise_append.mp hA).2.2 a ha v (by simp))
        · rw [List.mem_singleton] at ha
          rw [ha]
          exact Int.le_refl _
      omega
theorem takeS_ok {k : Nat} {S : Spr} {x : Str} {n : Int} (h : Sok k S) (ok : okS (x, n) = true) (hb : n ≤ (if x = "add" then n else big)) : Sok (k + 1) (takeS S x n) := by
  unfold takeS
  by_cases hx : x = "add"
  · rw [if_pos hx]
    exact ⟨Nat.le_succ_of_le h.len, fun u hu => (h.lvl u hu).up (Nat.le_succ k), h.cnt, h.asc⟩
  · rw [if_neg hx] at hb ⊢
    have n0 := isC_of ok hx
    cases hl : (popS S.lv n).getLast? with
    | none =>
      dsimp only
      have hp := two_pos n.toNat
      refine ⟨by simp, fun v hv => ?_, fun u hu v hv => ?_, by simp⟩
      · rw [List.mem_singleton] at hv
        subst hv
        refine ⟨by simp, by simp, n0, hb, ?_⟩
        show Asc 0 [(0, 2 ^ n.toNat - 1)] (0 + 2 ^ n.toNat - 1)
        exact ⟨by omega, by omega, by omega, trivial⟩
      · rw [List.mem_singleton] at hv
        subst hv
        cases hu
        show cntR [(0, 2 ^ n.toNat - 1)] = 2 ^ n.toNat
        rw [cntR_cons]
        have : cntR [] = 0 := rfl
        dsimp only
        omega
    | some v =>
      exact wider_ok h.pop hl n0 hb (popS_last hl)
end Cc

set_option Elab.async false
set_option linter.all false
set_option maxRecDepth 100000
set_option maxHeartbeats 4000000
/-! zip of two tuples; *xs in a display. -/
namespace Cc
open PySem PySem.Spec PyProof.Rows L2 RZ
section
variable {K : PySem.W.Frag} {σ : L2.St} {H : Hp} {Q : VK} {g : TG} {tt : TT} {te : TE} {ta t : TA} {vs : List Nat} {D : Addr} {a b : Addr} {xs ys : List V} {tb : TS} {N : Ends}
theorem x_lcZ : tLc (iZipA K ta) g tt te vs σ H Q ↔ ta σ H fun ws H1 => ∃ a b xs ys, ws = [.ref a, .ref b] ∧ ((SqL K H1 a xs ∧ SqL K H1 b ys ∧ ∀ D, H1 D = none → Lcp (Itz K a b) g tt te vs σ D H1 Q) ∨
  (SqT K H1 a xs ∧ SqT K H1 b ys ∧ ∀ D, H1 D = none → Lcp (ItzT K a b) g tt te vs σ D H1 Q)) := Iff.rfl
theorem x_forZ : tFor (iZipA K ta) g tb N σ H ↔ ta σ H fun ws H1 => ∃ a b xs ys, ws = [.ref a, .ref b] ∧ ((SqL K H1 a xs ∧ SqL K H1 b ys ∧ Lp (Itz K a b) g tb N σ H1) ∨ (SqT K H1 a xs ∧ SqT K H1 b ys ∧ Lp (ItzT K a b) g tb N σ H1)) := Iff.rfl
theorem x_star {Q : List V → Hp → Prop} : StX.tStar K te t σ H Q ↔ te σ H fun x H1 => ∃ p xs, x = V.ref p ∧ (SqT K H1 p xs ∨ SqL K H1 p xs) ∧ t σ H1 fun ys H2 => Q (xs ++ ys) H2 := Iff.rfl
theorem x_lcE : tLc (iEnum K ta) g tt te vs σ H Q ↔ ta σ H fun ws H1 => ∃ a xs, ws = [.ref a] ∧ SqL K H1 a xs ∧ ∀ D, H1 D = none → Lcp (Ite K a) g tt te vs σ D H1 Q := Iff.rfl
theorem lcE (Pv : Nat → Hp → Prop) (h0 : Pv 0 (upd H D (.lst []))) (hl : ∀ i H, Pv i H → SqL K H a xs)
    (hs : ∀ i x T H, xs[i]? = some x → Pv i H → H T = none → g (.ref T) (wipe σ vs) (upd H T (.tup [.int (i : Nat), x])) fun σ2 H2 => wipe σ2 vs = wipe σ vs ∧ tt σ2 H2 fun b H3 =>
      if b = true then te σ2 H3 fun y H4 => ∃ acc, H4 D = some (.lst acc) ∧ acc.length < sizeLine ∧ Pv (i + 1) (upd H4 D (.lst (acc ++ [y]))) else Pv (i + 1) H3) (hd : ∀ H, Pv xs.length H → Q (.ref D) H) : Lcp (Ite K a) g tt te vs σ D H Q := by
  refine ⟨fun i m H => m = xs.length - i ∧ i ≤ xs.length ∧ Pv i H, ⟨_, rfl, Nat.zero_le _, h0⟩, ?_⟩
  rintro i m H ⟨rfl, hi, p⟩
  have q := hl i H p
  by_cases lt : i < xs.length
  · refine .inr ⟨⟨xs, xs[i], q, List.getElem?_eq_getElem lt⟩, Pv (i + 1), fun H' p' => ⟨xs.length - (i + 1), by omega, rfl, lt, p'⟩, fun x H' y => ?_⟩
    obtain ⟨T, z, rfl, nT, rfl, f⟩ := y
    exact hs i z T H (f xs q) p nT
  · have e : i = xs.length := by omega
    subst e
    exact .inl ⟨⟨xs, q, Nat.le_refl _⟩, hd H p⟩
theorem x_lcT {tl : TE} : tLc (iTup K tl) g tt te vs σ H Q ↔ tl σ H fun x H1 => ∃ a, x = .ref a ∧ (∃ xs, SqT K H1 a xs) ∧ ∀ D, H1 D = none → Lcp (Itt K a) g tt te vs σ D H1 Q := Iff.rfl
theorem lcT (Pv : Nat → Hp → Prop) (h0 : Pv 0 (upd H D (.lst []))) (hl : ∀ i H, Pv i H → SqT K H a xs)
    (hs : ∀ i x H, xs[i]? = some x → Pv i H → g x (wipe σ vs) H fun σ2 H2 => wipe σ2 vs = wipe σ vs ∧ tt σ2 H2 fun b H3 =>
      if b = true then te σ2 H3 fun y H4 => ∃ acc, H4 D = some (.lst acc) ∧ acc.length < sizeLine ∧ Pv (i + 1) (upd H4 D (.lst (acc ++ [y]))) else Pv (i + 1) H3) (hd : ∀ H, Pv xs.length H → Q (.ref D) H) : Lcp (Itt K a) g tt te vs σ D H Q := by
  refine ⟨fun i m H => m = xs.length - i ∧ i ≤ xs.length ∧ Pv i H, ⟨_, rfl, Nat.zero_le _, h0⟩, ?_⟩
  rintro i m H ⟨rfl, hi, p⟩
  have q := hl i H p
  by_cases lt : i < xs.length
  · refine .inr ⟨⟨xs, xs[i], q, List.getElem?_eq_getElem lt⟩, Pv (i + 1), fun H' p' => ⟨xs.length - (i + 1), by omega, rfl, lt, p'⟩, fun x H' y => ?_⟩
    obtain ⟨e, y⟩ := y
    subst e
    exact hs i x _ (y xs q) p
  · have e : i = xs.length := by omega
    subst e
    exact .inl ⟨⟨xs, q, Nat.le_refl _⟩, hd H p⟩
theorem lcZ (Pv : Nat → Hp → Prop) (h0 : Pv 0 (upd H D (.lst []))) (hq : ∀ i H, Pv i H → SqT K H a xs ∧ SqT K H b ys)
    (hs : ∀ i x y T H, xs[i]? = some x → ys[i]? = some y → Pv i H → H T = none → g (.ref T) (wipe σ vs) (upd H T (.tup [x, y])) fun σ2 H2 => wipe σ2 vs = wipe σ vs ∧ tt σ2 H2 fun b H3 =>
      if b = true then te σ2 H3 fun y H4 => ∃ acc, H4 D = some (.lst acc) ∧ acc.length < sizeLine ∧ Pv (i + 1) (upd H4 D (.lst (acc ++ [y]))) else Pv (i + 1) H3)
    (hd : ∀ H, Pv (min xs.length ys.length) H → Q (.ref D) H) : Lcp (ItzT K a b) g tt te vs σ D H Q := by
  refine ⟨fun i m H => m = min xs.length ys.length - i ∧ i ≤ min xs.length ys.length ∧ Pv i H, ⟨_, rfl, Nat.zero_le _, h0⟩, ?_⟩
  rintro i m H ⟨rfl, hi, p⟩
  obtain ⟨qx, qy⟩ := hq i H p
  by_cases lt : i < min xs.length ys.length
  · have hx : xs[i]? = some (xs[i]'(by omega)) := List.getElem?_eq_getElem _
    have hy : ys[i]? = some (ys[i]'(by omega)) := List.getElem?_eq_getElem _
    refine .inr ⟨⟨xs, ys, _, _, qx, qy, hx, hy⟩, Pv (i + 1), fun H' p' => ⟨min xs.length ys.length - (i + 1), by omega, rfl, lt, p'⟩, fun v H' y => ?_⟩
    obtain ⟨T, x', y', rfl, nT, rfl, f1, f2⟩ := y
    exact hs i x' y' T H (f1 xs qx) (f2 ys qy) p nT
  · have e : i = min xs.length ys.length := by omega
    subst e
    exact .inl ⟨⟨xs, ys, qx, qy, by omega⟩, hd H p⟩
theorem lpZ (Pv : Nat → L2.St → Hp → Prop) (h0 : Pv 0 σ H) (hq : ∀ i σ H, Pv i σ H → SqT K H a xs ∧ SqT K H b ys)
    (hs : ∀ i x y T σ H, xs[i]? = some x → ys[i]? = some y → Pv i σ H → H T = none → g (.ref T) σ (upd H T (.tup [x, y])) fun σ2 H2 => tb { N with nx := Pv (i + 1), ct := Pv (i + 1), bk := N.nx } σ2 H2)
    (hd : ∀ σ H, Pv (min xs.length ys.length) σ H → N.nx σ H) : Lp (ItzT K a b) g tb N σ H := by
  refine ⟨fun i m σ H => m = min xs.length ys.length - i ∧ i ≤ min xs.length ys.length ∧ Pv i σ H, ⟨_, rfl, Nat.zero_le _, h0⟩, ?_⟩
  rintro i m σ H ⟨rfl, hi, p⟩
  obtain ⟨qx, qy⟩ := hq i σ H p
  by_cases lt : i < min xs.length ys.length
  · have hx : xs[i]? = some (xs[i]'(by omega)) := List.getElem?_eq_getElem _
    have hy : ys[i]? = some (ys[i]'(by omega)) := List.getElem?_eq_getElem _
    refine .inr ⟨⟨xs, ys, _, _, qx, qy, hx, hy⟩, Pv (i + 1), fun σ' H' p' => ⟨min xs.length ys.length - (i + 1), by omega, rfl, lt, p'⟩, fun v H' y => ?_⟩
    obtain ⟨T, x', y', rfl, nT, rfl, f1, f2⟩ := y
    exact hs i x' y' T σ H (f1 xs qx) (f2 ys qy) p nT
  · have e : i = min xs.length ys.length := by omega
    subst e
    exact .inl ⟨⟨xs, ys, qx, qy, by omega⟩, hd σ H p⟩
end
section
variable {K : PySem.W.Frag} {H : Hp} {Q : VK}
theorem x_allB {a : Addr} {bs : List Bool} (h : SqL K H a (bs.map V.bl)) (q : Q (.bl (bs.all id)) H) : rAll K [.ref a] H Q := ⟨a, bs, rfl, h, q⟩
end
end Cc

set_option Elab.async false
set_option linter.all false
set_option maxRecDepth 100000
set_option maxHeartbeats 4000000
/-! list.count of flat values. -/
namespace Cc
open PySem PySem.Spec PyProof.Rows L2
theorem cnt_eq {y : V} : ∀ {ys : List V} {us : List Value}, Vals ys us → ys.all flatV = true → us.countP (eqU y) = ys.countP fun z => eqV z y
  | _, _, .nil, _ => rfl
  | _, _, .cons r t, f => by
    rw [List.all_cons, Bool.and_eq_true] at f
    rw [List.countP_cons, List.countP_cons, cnt_eq t f.2, eqU_of r f.1]
def rCntF (K : PySem.W.Frag) : V → List V → Hp → VK → Prop := fun x xs H Q => ∃ (p : Addr) (ys : List V) (y : V), x = .ref p ∧ xs = [y] ∧ SqL K H p ys ∧ flatV y = true ∧ ys.all flatV = true ∧ Q (.int (ys.countP (fun z => eqV z y) : Nat)) H
section
variable {X : Cx}
theorem mt_cntF : MtR X "list.count" (rCntF X.K) := by
  intro pins s σ H x xs v us Q I rx rxs h
  obtain ⟨p, ys, y, rfl, rfl, hs, fy, fys, q⟩ := h
  cases rx
  obtain ⟨u, rfl, ru⟩ := rxs.one
  obtain ⟨its, rv, ⟨⟨c1, d1, b1, l1⟩, n, ho, h1, h2, h3⟩, hz⟩ := I.list hs
  simp only at h1 h3
  subst h1 h3
  refine call_meets PySem.F.slot_list_count ⟨_, ho, rfl⟩ PySem.F.entry_list_count (PySem.F.args_list_count_2 _ _) (SeqAt.list_countAt p its.toArray n d1 l1 u (eqU y)) ⟨ho, fun w hw => mem_eqAt ru fy rv fys w (by simpa using hw), ?_⟩
  refine ⟨.int (ys.countP (fun z => eqV z y) : Nat), H, I.tok _, ⟨s.toks, ?_⟩, q⟩
  show Value.int ((its.toArray.toList.countP (eqU y) : Nat) : Int) s.toks = _
  rw [show its.toArray.toList = its from rfl, cnt_eq rv fys]
end
end Cc

set_option Elab.async false
set_option linter.all false
set_option maxRecDepth 100000
set_option maxHeartbeats 4000000
/-! The pure layer: slots hold data, not addresses. -/
namespace Cc
open PySem PySem.Spec PyProof.Rows L2

/-! ### data, tracked -/
mutual
inductive Dq (K : PySem.W.Frag) (F : Hp) : V → PyData → Prop
  | non : Dq K F .non .none
  | bl (b : Bool) : Dq K F (.bl b) (.bool b)
  | int (i : Int) : Dq K F (.int i) (.int i)
  | str (x : Str) : Dq K F (.str x) (.str x)
  | lst {a : Addr} {xs : List V} {ds : List PyData} : F a = some (.lst xs) → DqAll K F xs ds → Dq K F (.ref a) (.list ds)
  | tup {a : Addr} {xs : List V} {ds : List PyData} : SqT K F a xs → DqAll K F xs ds → Dq K F (.ref a) (.tuple ds)
inductive DqAll (K : PySem.W.Frag) (F : Hp) : List V → List PyData → Prop
  | nil : DqAll K F [] []
  | cons {v : V} {vs : List V} {d : PyData} {ds : List PyData} : Dq K F v d → DqAll K F vs ds → DqAll K F (v :: vs) (d :: ds)
end
section
variable {K : PySem.W.Frag} {F F' : Hp}
mutual
theorem Dq.same (e : Same F F') : ∀ (d : PyData) {v : V}, Dq K F v d → Dq K F' v d
  | .none, _, h => by cases h; exact .non
  | .bool b, _, h => by cases h; exact .bl b
  | .int i, _, h => by cases h; exact .int i
  | .str x, _, h => by cases h; exact .str x
  | .list ds, _, h => by
    cases h with
    | lst hs ha => exact .lst (e _ _ hs) (DqAll.same e ds ha)
  | .tuple ds, _, h => by
    cases h with
    | tup hs ha => exact .tup (Same.tup e hs) (DqAll.same e ds ha)
  | .dict _, _, h => by cases h
theorem DqAll.same (e : Same F F') : ∀ (ds : List PyData) {vs : List V}, DqAll K F vs ds → DqAll K F' vs ds
  | [], _, h => by cases h; exact .nil
  | d :: ds, _, h => by
    cases h with
    | cons h1 h2 => exact .cons (Dq.same e d h1) (DqAll.same e ds h2)
end
mutual
theorem Dq.dp : ∀ (d : PyData) {v : V}, Dq K F v d → Dp K F v d
  | .none, _, h => by cases h; exact .non
  | .bool b, _, h => by cases h; exact .bl b
  | .int i, _, h => by cases h; exact .int i
  | .str x, _, h => by cases h; exact .str x
  | .list ds, _, h => by
    cases h with
    | lst hs ha => exact .lst (.of hs) (DqAll.dp ds ha)
  | .tuple ds, _, h => by
    cases h with
    | tup hs ha => exact .tup hs (DqAll.dp ds ha)
  | .dict _, _, h => by cases h
theorem DqAll.dp : ∀ (ds : List PyData) {vs : List V}, DqAll K F vs ds → DpAll K F vs ds
  | [], _, h => by cases h; exact .nil
  | d :: ds, _, h => by
    cases h with
    | cons h1 h2 => exact .cons (Dq.dp d h1) (DqAll.dp ds h2)
end
theorem DqAll.len {vs : List V} {ds : List PyData} (h : DqAll K F vs ds) : vs.length = ds.length := by
  induction ds generalizing vs with
  | nil => cases h; rfl
  | cons d ds ih => cases h with | cons _ h2 => exact congrArg (· + 1) (ih h2)
theorem DqAll.get {vs : List V} {ds : List PyData} (h : DqAll K F vs ds) : ∀ {i : Nat} {d : PyData}, ds[i]? = some d → ∃ v, vs[i]? = some v ∧ Dq K F v d := by
  induction ds generalizing vs with
  | nil => intro i d e; simp at e
  | cons d ds ih =>
    cases h with
    | cons h1 h2 =>
      intro i d' e
      cases i with
      | zero => simp at e; subst e; exact ⟨_, rfl, h1⟩
      | succ i => exact ih h2 (by simpa using e)
theorem DqAll.getV {vs : List V} {ds : List PyData} (h : DqAll K F vs ds) : ∀ {i : Nat} {v : V}, vs[i]? = some v → ∃ d, ds[i]? = some d ∧ Dq K F v d := by
  induction ds generalizing vs with
  | nil => cases h; intro i d e; simp at e
  | cons d ds ih =>
    cases h with
    | cons h1 h2 =>
      intro i d' e
      cases i with
      | zero => simp at e; subst e; exact ⟨_, rfl, h1⟩
      | succ i => exact ih h2 (by simpa using e)
theorem DqAll.app {vs ws : List V} {ds es : List PyData} (h : DqAll K F vs ds) (h' : DqAll K F ws es) : DqAll K F (vs ++ ws) (ds ++ es) := by
  induction ds generalizing vs with
  | nil => cases h; exact h'
  | cons d ds ih => cases h with | cons h1 h2 => exact .cons h1 (ih h2)
theorem DqAll.one {v : V} {d : PyData} (h : Dq K F v d) : DqAll K F [v] [d] := .cons h .nil
theorem DqAll.set {vs : List V} {ds : List PyData} {v : V} {d : PyData} (h : DqAll K F vs ds) (hv : Dq K F v d) : ∀ i, DqAll K F (vs.set i v) (ds.set i d) := by
  induction ds generalizing vs with
  | nil => cases h; intro i; exact .nil
  | cons d' ds ih =>
    cases h with
    | cons h1 h2 =>
      intro i
      cases i with
      | zero => exact .cons hv h2
      | succ i => exact .cons h1 (ih h2 i)
theorem DqAll.take {vs : List V} {ds : List PyData} (h : DqAll K F vs ds) : ∀ i, DqAll K F (vs.take i) (ds.take i) := by
  induction ds generalizing vs with
  | nil => cases h; intro i; simp; exact .nil
  | cons d' ds ih =>
    cases h with
    | cons h1 h2 =>
      intro i
      cases i with
      | zero => exact .nil
      | succ i => exact .cons h1 (ih h2 i)
theorem DqAll.drop {vs : List V} {ds : List PyData} (h : DqAll K F vs ds) : ∀ i, DqAll K F (vs.drop i) (ds.drop i) := by
  induction ds generalizing vs with
  | nil => cases h; intro i; simp; exact .nil
  | cons d' ds ih =>
    cases h with
    | cons h1 h2 =>
      intro i
      cases i with
      | zero => exact .cons h1 h2
      | succ i => exact ih h2 i
theorem DqAll.rev {vs : List V} {ds : List PyData} (h : DqAll K F vs ds) : DqAll K F vs.reverse ds.reverse := by
  induction ds generalizing vs with
  | nil => cases h; exact .nil
  | cons d ds ih => cases h with | cons h1 h2 => rw [List.reverse_cons, List.reverse_cons]; exact (ih h2).app (.one h1)
def cutA {α : Type} (xs : List α) (lo hi : Option Int) : List α := (xs.drop (HT.sIx xs.length 0 lo)).take (HT.sIx xs.length xs.length hi - HT.sIx xs.length 0 lo)
theorem DqAll.cut {vs : List V} {ds : List PyData} (h : DqAll K F vs ds) (lo hi : Option Int) : DqAll K F (cutV vs lo hi) (cutA ds lo hi) := by
  unfold cutV cutA
  rw [h.len]
  exact (h.drop _).take _
theorem DqAll.dropLast {vs : List V} {ds : List PyData} (h : DqAll K F vs ds) : DqAll K F vs.dropLast ds.dropLast := by
  rw [List.dropLast_eq_take, List.dropLast_eq_take, h.len]
  exact h.take _
theorem DqAll.ints {vs : List V} : ∀ {ns : List Int}, DqAll K F vs (ns.map PyData.int) → vs = ns.map V.int := by
  intro ns
  induction ns generalizing vs with
  | nil => intro h; cases h; rfl
  | cons n ns ih =>
    intro h
    cases h with
    | cons h1 h2 => cases h1; rw [ih h2]; rfl
theorem DqAll.bools {vs : List V} : ∀ {ns : List Bool}, DqAll K F vs (ns.map PyData.bool) → vs = ns.map V.bl := by
  intro ns
  induction ns generalizing vs with
  | nil => intro h; cases h; rfl
  | cons n ns ih =>
    intro h
    cases h with
    | cons h1 h2 => cases h1; rw [ih h2]; rfl
theorem dqInts : ∀ ns : List Int, DqAll K F (ns.map V.int) (ns.map PyData.int)
  | [] => .nil
  | n :: ns => .cons (.int n) (dqInts ns)
theorem dqBools : ∀ ns : List Bool, DqAll K F (ns.map V.bl) (ns.map PyData.bool)
  | [] => .nil
  | n :: ns => .cons (.bl n) (dqBools ns)
end

/-! ### what a slot holds -/
inductive A where
  | d (x : PyData)
  | exc (c : Nat) (x : PyData)
  | spr (S : Spr)
  | scr (ns : List Int)
inductive Sl where
  | un
  | own (ds : List PyData)
  | rng (n : Nat)
  | a (x : A)
/-- the draws' object: footprint, address, heap, how many draws at most -/
structure RngI where
  at_ : (Addr → Prop) → Addr → Hp → Nat → Prop
  stay : ∀ {R : Addr → Prop} {r : Addr} {H H' : Hp} {n : Nat}, at_ R r H n → (∀ b o, R b → H b = some o → H' b = some o) → at_ R r H' n
structure Gx where
  K : PySem.W.Frag
  C : Nat → Addr
  S : Addr
  I : RngI
structure Fr where
  M : Addr → Prop
  R : Addr → Prop
  r : Addr
  ri : Nat
  F0 : Hp
  H0 : Hp
def Rp (Γ : Gx) (F : Hp) (v : V) : A → Prop
  | .d x => Dq Γ.K F v x
  | .exc c x => ∃ a d u, v = .ref a ∧ F a = some (exT a (.ref (Γ.C c)) (some d)) ∧ F d = some (.xd [("value", u)]) ∧ Dq Γ.K F u x
  | .spr S => ∃ p l, v = .ref p ∧ SpAt Γ.K Γ.S F p l S
  | .scr ns => ∃ a, v = .ref a ∧ SqL Γ.K F a (ns.map V.int)
def RpAll (Γ : Gx) (F : Hp) : List V → List A → Prop
  | [], [] => True
  | v :: vs, x :: xs => Rp Γ F v x ∧ RpAll Γ F vs xs
  | _, _ => False
theorem Rp.same {Γ : Gx} {F F' : Hp} (e : Same F F') {v : V} : ∀ {x : A}, Rp Γ F v x → Rp Γ F' v x
  | .d x, h => Dq.same e x h
  | .exc c x, ⟨a, d, u, h0, h1, h2, h3⟩ => ⟨a, d, u, h0, e _ _ h1, e _ _ h2, Dq.same e x h3⟩
  | .spr S, ⟨p, l, h0, h1⟩ => ⟨p, l, h0, h1.same e⟩
  | .scr ns, ⟨a, h0, h1⟩ => ⟨a, h0, e.seq h1⟩
theorem RpAll.same {Γ : Gx} {F F' : Hp} (e : Same F F') : ∀ {vs : List V} {xs : List A}, RpAll Γ F vs xs → RpAll Γ F' vs xs
  | [], [], h => h
  | _ :: _, _ :: _, ⟨h1, h2⟩ => ⟨h1.same e, RpAll.same e h2⟩
  | [], _ :: _, h => h
  | _ :: _, [], h => h
theorem RpAll.len {Γ : Gx} {F : Hp} : ∀ {vs : List V} {xs : List A}, RpAll Γ F vs xs → vs.length = xs.length
  | [], [], h => rfl
  | _ :: _, _ :: _, ⟨_, h2⟩ => congrArg (· + 1) (RpAll.len h2)
  | [], _ :: _, h => h.elim
  | _ :: _, [], h => h.elim
def OwnA (σ : L2.St) (ρ : List Sl) (b : Addr) : Prop := ∃ (i : Nat) (ds : List PyData), ρ[i]? = some (.own ds) ∧ σ[i]? = some (some (.ref b))
def SlR (Γ : Gx) (f : Fr) (F H : Hp) (i : Nat) (v : Option (Option V)) : Sl → Prop
  | .un => True
  | .a x => ∃ u, v = some (some u) ∧ Rp Γ F u x
  | .own ds => ∃ a xs, v = some (some (.ref a)) ∧ H a = some (.lst xs) ∧ DqAll Γ.K F xs ds ∧ F a = none ∧ (f.H0 a = none ∨ f.M a)
  | .rng n => (i = f.ri ∧ v = some (some (.ref f.r))) ∧ Γ.I.at_ f.R f.r H n
/-- what a known object leans on is known -/
def okO (F : Hp) (a : Addr) : HO → Prop
  | .ins _ dx _ => F dx = some (.own a)
  | .own x => F x ≠ none
  | .dT _ => False
  | .frz _ u => (∃ xs, u = .lst xs) ∨ ∃ xs, u = .tup xs
  | _ => True
def smpl : HO → Prop
  | .ins _ _ _ => False
  | .own _ => False
  | .dT _ => False
  | .frz _ u => (∃ xs, u = .lst xs) ∨ ∃ xs, u = .tup xs
  | _ => True
theorem okO.of {F : Hp} {a : Addr} {o : HO} (h : smpl o) : okO F a o := by
  cases o <;> first | exact trivial | exact h | exact h.elim
theorem okO.same {F F' : Hp} {a : Addr} {o : HO} (s : Same F F') (h : okO F a o) : okO F' a o := by
  cases o <;> first | exact trivial | exact (h : False).elim | skip
  · exact s _ _ h
  · rename_i x
    have h : F x ≠ none := h
    show F' x ≠ none
    intro z
    cases e : F x with
    | none => exact h e
    | some o => rw [s _ _ e] at z; cases z
  · exact h
structure Ent (Γ : Gx) (f : Fr) (F H : Hp) (σ : L2.St) (ρ : List Sl) : Prop where
  s0 : Same f.F0 F
  s1 : Same F H
  new : ∀ b o, F b = some o → f.F0 b = some o ∨ f.H0 b = none ∨ f.M b
  chg : ∀ b o, f.H0 b = some o → ¬ f.M b → H b = some o
  liv : ∀ b, H b = none → f.H0 b = none
  len : σ.length = ρ.length
  sl : ∀ (i : Nat) (s : Sl), ρ[i]? = some s → SlR Γ f F H i σ[i]? s
  dis : ∀ (i j : Nat) (a : Addr) (ds es : List PyData), ρ[i]? = some (.own ds) → ρ[j]? = some (.own es) → σ[i]? = some (some (.ref a)) → σ[j]? = some (some (.ref a)) → i = j
  rm : ∀ b, f.R b → f.M b
  rF : ∀ b, f.R b → F b = none
  rl : ∀ b, f.R b → H b ≠ none
  ro : ∀ b, f.R b → ¬ OwnA σ ρ b
  ml : ∀ b, f.M b → f.H0 b ≠ none
  cl : ∀ a o, F a = some o → okO F a o
section
variable {Γ : Gx} {f : Fr} {F H F' H' : Hp} {σ σ' : L2.St} {ρ ρ' : List Sl} {p a : Addr} {o : HO} {i : Nat} {x : A} {v : V} {ds es : List PyData} {xs : List V}
theorem same_updF (h : F p = none) : Same F (upd F p o) := fun b u e => by rw [upd_ne (ne_of_none e h)]; exact e
theorem Ent.fnone (E : Ent Γ f F H σ ρ) (h : H p = none) : F p = none := by
  cases e : F p with
  | none => rfl
  | some u => rw [E.s1 _ _ e] at h; cases h
theorem Ent.notOwn (E : Ent Γ f F H σ ρ) (h : H p = none) : ¬ OwnA σ ρ p := fun ⟨i, ds, h1, h2⟩ => by
  obtain ⟨a, xs, e1, e2, _⟩ := E.sl i _ h1
  rw [h2] at e1
  cases e1
  rw [h] at e2
  cases e2
/-- the slots as they stand, in heaps that have more -/
theorem SlR.more {v : Option (Option V)} : ∀ {s : Sl}, SlR Γ f F H i v s → Same F F' → (∀ a, v = some (some (.ref a)) → (∃ ds, s = .own ds) → F' a = none ∧ ∀ o, H a = some o → H' a = some o) → (∀ b o, f.R b → H b = some o → H' b = some o) → SlR Γ f F' H' i v s
  | .un, _, _, _, _ => trivial
  | .a x, ⟨u, h1, h2⟩, e, _, _ => ⟨u, h1, h2.same e⟩
  | .own ds, ⟨a, xs, h1, h2, h3, h4, h5⟩, e, k, _ => by
    obtain ⟨k1, k2⟩ := k a h1 ⟨ds, rfl⟩
    exact ⟨a, xs, h1, k2 _ h2, DqAll.same e ds h3, k1, h5⟩
  | .rng n, ⟨h1, h2⟩, _, _, k => ⟨h1, Γ.I.stay h2 k⟩
/-- a new object is laid and known -/
theorem Ent.alloc (E : Ent Γ f F H σ ρ) (h : H p = none) (hs : smpl o := by exact trivial) : Ent Γ f (upd F p o) (upd H p o) σ ρ := by
  have hF := E.fnone h
  have sF := same_updF (o := o) hF
  have sH := same_updF (o := o) h
  refine ⟨E.s0.trans sF, fun b u e => ?_, fun b u e => ?_, fun b u e m => sH _ _ (E.chg b u e m), fun b e => ?_, E.len, fun i s hi => (E.sl i s hi).more sF (fun a ha ⟨ds, hs⟩ => ?_) (fun b o _ e => sH _ _ e), E.dis, E.rm, fun b hb => ?_, fun b hb => ?_, E.ro, E.ml, fun b u e => ?_⟩
  · by_cases hb : b = p
    · rw [hb, upd_same] at e ⊢; exact e
    · rw [upd_ne hb] at e ⊢; exact E.s1 _ _ e
  · by_cases hb : b = p
    · rw [hb]; exact .inr (.inl (E.liv p h))
    · rw [upd_ne hb] at e; exact E.new b u e
  · by_cases hb : b = p
    · rw [hb, upd_same] at e; cases e
    · rw [upd_ne hb] at e; exact E.liv b e
  · subst hs
    obtain ⟨a', xs, e1, e2, _, e4, _⟩ := E.sl i _ hi
    rw [ha] at e1
    cases e1
    have hne := ne_of_none e2 h
    rw [upd_ne hne]
    exact ⟨e4, fun o q => sH _ _ q⟩
  · have hne : b ≠ p := fun z => E.rl b hb (by rw [z]; exact h)
    rw [upd_ne hne]
    exact E.rF b hb
  · have hne : b ≠ p := fun z => E.rl b hb (by rw [z]; exact h)
    rw [upd_ne hne]
    exact E.rl b hb
  · by_cases hb : b = p
    · rw [hb, upd_same] at e; cases e; exact .of hs
    · rw [upd_ne hb] at e; exact (E.cl b u e).same sF
/-- a new object is laid, not yet known -/
theorem Ent.raw (E : Ent Γ f F H σ ρ) (h : H p = none) : Ent Γ f F (upd H p o) σ ρ := by
  have sH := same_updF (o := o) h
  refine ⟨E.s0, E.s1.trans sH, E.new, fun b u e m => sH _ _ (E.chg b u e m), fun b e => ?_, E.len, fun i s hi => (E.sl i s hi).more (Same.refl _) (fun a ha ⟨ds, hs⟩ => ?_) (fun b o _ e => sH _ _ e), E.dis, E.rm, E.rF, fun b hb => ?_, E.ro, E.ml, E.cl⟩
  · by_cases hb : b = p
    · rw [hb, upd_same] at e; cases e
    · rw [upd_ne hb] at e; exact E.liv b e
  · subst hs
    obtain ⟨a', xs, e1, e2, _, e4, _⟩ := E.sl i _ hi
    rw [ha] at e1
    cases e1
    exact ⟨e4, fun o q => sH _ _ q⟩
  · have hne : b ≠ p := fun z => E.rl b hb (by rw [z]; exact h)
    rw [upd_ne hne]
    exact E.rl b hb
/-- an object that no slot owns and that is not known is changed -/
theorem Ent.poke (E : Ent Γ f F H σ ρ) (hF : F p = none) (h0 : f.H0 p = none ∨ f.M p) (hO : ¬ OwnA σ ρ p) (hR : ¬ f.R p) : Ent Γ f F (upd H p o) σ ρ := by
  refine ⟨E.s0, fun b u e => ?_, E.new, fun b u e m => ?_, fun b e => ?_, E.len, fun i s hi => (E.sl i s hi).more (Same.refl _) (fun a ha ⟨ds, hs⟩ => ?_) (fun b o hb e => ?_), E.dis, E.rm, E.rF, fun b hb => ?_, E.ro, E.ml, E.cl⟩
  · rw [upd_ne (ne_of_none e hF)]; exact E.s1 _ _ e
  · have hne : b ≠ p := fun z => by
      rw [z] at e m
      rcases h0 with h0 | h0
      · rw [h0] at e; cases e
      · exact m h0
    rw [upd_ne hne]
    exact E.chg b u e m
  · by_cases hb : b = p
    · rw [hb, upd_same] at e; cases e
    · rw [upd_ne hb] at e; exact E.liv b e
  · subst hs
    obtain ⟨a', xs, e1, e2, _, e4, _⟩ := E.sl i _ hi
    have hne : a ≠ p := fun z => hO ⟨i, ds, hi, by rw [ha, z]⟩
    rw [ha] at e1
    cases e1
    rw [upd_ne hne]
    exact ⟨e4, fun o q => q⟩
  · rw [upd_ne (fun z => by rw [z] at hb; exact hR hb)]; exact e
  · rw [upd_ne (fun z => by rw [z] at hb; exact hR hb)]; exact E.rl b hb
/-- such an object becomes known -/
theorem Ent.fz (E : Ent Γ f F H σ ρ) (hF : F p = none) (hH : H p = some o) (h0 : f.H0 p = none ∨ f.M p) (hO : ¬ OwnA σ ρ p) (hR : ¬ f.R p) (hs : smpl o := by exact trivial) : Ent Γ f (upd F p o) H σ ρ := by
  have sF := same_updF (o := o) hF
  refine ⟨E.s0.trans sF, fun b u e => ?_, fun b u e => ?_, E.chg, E.liv, E.len, fun i s hi => (E.sl i s hi).more sF (fun a ha ⟨ds, hs⟩ => ?_) (fun b o _ e => e), E.dis, E.rm, fun b hb => ?_, E.rl, E.ro, E.ml, fun b u e => ?_⟩
  · by_cases hb : b = p
    · rw [hb, upd_same] at e; cases e; rw [hb]; exact hH
    · rw [upd_ne hb] at e; exact E.s1 _ _ e
  · by_cases hb : b = p
    · rw [hb]; rcases h0 with h0 | h0
      · exact .inr (.inl h0)
      · exact .inr (.inr h0)
    · rw [upd_ne hb] at e; exact E.new b u e
  · subst hs
    obtain ⟨a', xs, e1, e2, _, e4, _⟩ := E.sl i _ hi
    have hne : a ≠ p := fun z => hO ⟨i, ds, hi, by rw [ha, z]⟩
    rw [ha] at e1
    cases e1
    rw [upd_ne hne]
    exact ⟨e4, fun o q => q⟩
  · rw [upd_ne (fun z => by rw [z] at hb; exact hR hb)]; exact E.rF b hb
  · by_cases hb : b = p
    · rw [hb, upd_same] at e; cases e; exact .of hs
    · rw [upd_ne hb] at e; exact (E.cl b u e).same sF
theorem own_set {w : Option V} {s : Sl} {b : Addr} (h : OwnA (σ.set i w) (ρ.set i s) b) : OwnA σ ρ b ∨ ((∃ ds, s = .own ds) ∧ w = some (.ref b)) := by
  obtain ⟨j, ds, h1, h2⟩ := h
  rw [List.getElem?_set] at h1 h2
  by_cases hj : i = j
  · rw [if_pos hj] at h1 h2
    split at h1
    · split at h2
      · cases h1; cases h2; exact .inr ⟨⟨ds, rfl⟩, rfl⟩
      · cases h2
    · cases h1
  · rw [if_neg hj] at h1 h2
    exact .inl ⟨j, ds, h1, h2⟩
/-- slot i is set to something that it does not own -/
theorem Ent.put (E : Ent Γ f F H σ ρ) {w : Option V} {s : Sl} (hs : ∀ ds, s ≠ .own ds) (h : i < σ.length → SlR Γ f F H i (some w) s) : Ent Γ f F H (σ.set i w) (ρ.set i s) := by
  refine ⟨E.s0, E.s1, E.new, E.chg, E.liv, by rw [List.length_set, List.length_set]; exact E.len, fun j s' hj => ?_, fun j k a ds es h1 h2 h3 h4 => ?_, E.rm, E.rF, E.rl, fun b hb ho => ?_, E.ml, E.cl⟩
  · rw [List.getElem?_set] at hj ⊢
    by_cases hij : i = j
    · rw [if_pos hij] at hj ⊢
      split at hj
      · rename_i hl
        cases hj
        have hl' : j < σ.length := by rw [E.len]; exact hij ▸ hl
        rw [if_pos (hij ▸ hl')]
        subst hij
        exact h hl'
      · cases hj
    · rw [if_neg hij] at hj ⊢
      exact E.sl j s' hj
  · rw [List.getElem?_set] at h1 h2 h3 h4
    by_cases hij : i = j
    · rw [if_pos hij] at h1
      split at h1
      · cases h1; exact absurd rfl (hs _)
      · cases h1
    · by_cases hik : i = k
      · rw [if_pos hik] at h2
        split at h2
        · cases h2; exact absurd rfl (hs _)
        · cases h2
      · rw [if_neg hij] at h1 h3
        rw [if_neg hik] at h2 h4
        exact E.dis j k a ds es h1 h2 h3 h4
  · rcases own_set ho with ho | ⟨⟨ds, e⟩, _⟩
    · exact E.ro b hb ho
    · exact hs ds e
theorem set_self {α : Type} {l : List α} {i : Nat} {w : α} (h : l[i]? = some w) : l.set i w = l := by
  apply List.ext_getElem?
  intro j
  rw [List.getElem?_set]
  by_cases hij : i = j
  · subst hij
    rw [if_pos rfl]
    split
    · exact h.symm
    · rename_i hl
      rw [List.getElem?_eq_none (by omega)] at h; cases h
  · rw [if_neg hij]
theorem Ent.setA (E : Ent Γ f F H σ ρ) (h : Rp Γ F v x) : Ent Γ f F H (σ.set i (some v)) (ρ.set i (.a x)) := E.put (fun _ => nofun) fun _ => ⟨v, rfl, h⟩
/-- slot i is no longer known -/
theorem Ent.setU (E : Ent Γ f F H σ ρ) {w : Option V} : Ent Γ f F H (σ.set i w) (ρ.set i .un) := E.put (fun _ => nofun) fun _ => trivial
theorem Ent.forget (E : Ent Γ f F H σ ρ) : Ent Γ f F H σ (ρ.set i .un) := by
  by_cases hi : i < σ.length
  · have := E.setU (i := i) (w := σ[i])
    rwa [set_self (List.getElem?_eq_getElem hi)] at this
  · rw [List.set_eq_of_length_le (by rw [← E.len]; omega)]
    exact E
/-- slot i is known as x where it stands -/
theorem Ent.same_as (E : Ent Γ f F H σ ρ) (hi : σ[i]? = some (some v)) (h : Rp Γ F v x) : Ent Γ f F H σ (ρ.set i (.a x)) := by
  have := E.setA (i := i) h
  rwa [set_self hi] at this
/-- slot i owns a list -/
theorem Ent.setO (E : Ent Γ f F H σ ρ) (hH : H a = some (.lst xs)) (hD : DqAll Γ.K F xs ds) (hF : F a = none) (h0 : f.H0 a = none ∨ f.M a) (hO : ¬ OwnA σ ρ a) (hR : ¬ f.R a) : Ent Γ f F H (σ.set i (some (.ref a))) (ρ.set i (.own ds)) := by
  refine ⟨E.s0, E.s1, E.new, E.chg, E.liv, by rw [List.length_set, List.length_set]; exact E.len, fun j s' hj => ?_, fun j k b es es' h1 h2 h3 h4 => ?_, E.rm, E.rF, E.rl, fun b hb ho => ?_, E.ml, E.cl⟩
  · rw [List.getElem?_set] at hj ⊢
    by_cases hij : i = j
    · rw [if_pos hij] at hj ⊢
      split at hj
      · rename_i hl
        cases hj
        have hl' : j < σ.length := by rw [E.len]; exact hij ▸ hl
        rw [if_pos (hij ▸ hl')]
        exact ⟨a, xs, rfl, hH, hD, hF, h0⟩
      · cases hj
    · rw [if_neg hij] at hj ⊢
      exact E.sl j s' hj
  · rw [List.getElem?_set] at h1 h2 h3 h4
    by_cases hij : i = j
    · by_cases hik : i = k
      · exact hij.symm.trans hik
      · rw [if_pos hij] at h3
        rw [if_neg hik] at h2 h4
        split at h3
        · cases h3; exact absurd ⟨k, es', h2, h4⟩ hO
        · cases h3
    · by_cases hik : i = k
      · rw [if_pos hik] at h4
        rw [if_neg hij] at h1 h3
        split at h4
        · cases h4; exact absurd ⟨j, es, h1, h3⟩ hO
        · cases h4
      · rw [if_neg hij] at h1 h3
        rw [if_neg hik] at h2 h4
        exact E.dis j k b es es' h1 h2 h3 h4
  · rcases own_set ho with ho | ⟨_, e⟩
    · exact E.ro b hb ho
    · cases e; exact hR hb
/-- what slot i owns, it owns alone -/
theorem Ent.alone (E : Ent Γ f F H σ ρ) (hi : ρ[i]? = some (.own ds)) (ha : σ[i]? = some (some (.ref a))) : ¬ OwnA σ (ρ.set i .un) a := fun ⟨j, es, h1, h2⟩ => by
  rw [List.getElem?_set] at h1
  by_cases hij : i = j
  · rw [if_pos hij] at h1
    split at h1 <;> cases h1
  · rw [if_neg hij] at h1
    exact hij (E.dis i j a ds es hi h1 ha h2)
/-- the list that slot i owns becomes known -/
theorem Ent.freeO (E : Ent Γ f F H σ ρ) (hi : ρ[i]? = some (.own ds)) : ∃ a xs, σ[i]? = some (some (.ref a)) ∧ H a = some (.lst xs) ∧ F a = none ∧ Dq Γ.K (upd F a (.lst xs)) (.ref a) (.list ds) ∧ Ent Γ f (upd F a (.lst xs)) H σ (ρ.set i (.a (.d (.list ds)))) := by
  obtain ⟨a, xs, e1, e2, e3, e4, e5⟩ := E.sl i _ hi
  have E1 := E.forget (i := i)
  have hR : ¬ f.R a := fun z => E.ro a z ⟨i, ds, hi, e1⟩
  have E2 := E1.fz e4 e2 e5 (E.alone hi e1) hR
  have hd : Dq Γ.K (upd F a (.lst xs)) (.ref a) (.list ds) := .lst upd_same (DqAll.same (same_updF e4) ds e3)
  have E3 := E2.same_as (x := .d (.list ds)) e1 hd
  rw [List.set_set] at E3
  exact ⟨a, xs, e1, e2, e4, hd, E3⟩
/-- the list that slot i owns is changed -/
theorem Ent.mutO (E : Ent Γ f F H σ ρ) (hi : ρ[i]? = some (.own ds)) (ha : σ[i]? = some (some (.ref a))) (hD : DqAll Γ.K F xs es) : Ent Γ f F (upd H a (.lst xs)) σ (ρ.set i (.own es)) := by
  obtain ⟨a', ys, e1, e2, e3, e4, e5⟩ := E.sl i _ hi
  rw [ha] at e1
  cases e1
  have hR : ¬ f.R a := fun z => E.ro a z ⟨i, ds, hi, ha⟩
  have E2 := (E.forget (i := i)).poke (o := .lst xs) e4 e5 (E.alone hi ha) hR
  have E3 := E2.setO (i := i) (a := a) (xs := xs) upd_same hD e4 e5 (E.alone hi ha) hR
  rw [List.set_set, set_self ha] at E3
  exact E3
/-- what a step between two places of a run keeps, said of the run's start -/
def Fr.from (f : Fr) (σ : L2.St) (ρ : List Sl) (F H : Hp) : Fr := ⟨fun b => f.M b ∨ OwnA σ ρ b, f.R, f.r, f.ri, F, H⟩
theorem Ent.self (E : Ent Γ f F H σ ρ) : Ent Γ (f.from σ ρ F H) F H σ ρ := by
  refine ⟨Same.refl _, E.s1, fun b o e => .inl e, fun b o e _ => e, fun b e => e, E.len, fun i s hi => ?_, E.dis, fun b hb => .inl (E.rm b hb), E.rF, E.rl, E.ro, fun b hb z => hb.elim (fun m => E.ml b m (E.liv b z)) (fun o => E.notOwn z o), E.cl⟩
  have := E.sl i s hi
  cases s with
  | un => trivial
  | a x => exact this
  | rng n => exact this
  | own ds =>
    obtain ⟨a, xs, e1, e2, e3, e4, e5⟩ := this
    exact ⟨a, xs, e1, e2, e3, e4, .inr (.inr ⟨i, ds, hi, e1⟩)⟩
theorem Ent.ownM (E : Ent Γ f F H σ ρ) {b : Addr} (h : OwnA σ ρ b) : f.H0 b = none ∨ f.M b := by
  obtain ⟨i, ds, h1, h2⟩ := h
  obtain ⟨a, xs, e1, _, _, _, e5⟩ := E.sl i _ h1
  rw [h2] at e1
  cases e1
  exact e5
theorem Ent.trans (E : Ent Γ f F H σ ρ) (E' : Ent Γ (f.from σ ρ F H) F' H' σ' ρ') : Ent Γ f F' H' σ' ρ' := by
  refine ⟨E.s0.trans E'.s0, E'.s1, fun b o e => ?_, fun b o e m => ?_, fun b e => E.liv b (E'.liv b e), E'.len, fun i s hi => ?_, E'.dis, E.rm, E'.rF, E'.rl, E'.ro, E.ml, E'.cl⟩
  · rcases E'.new b o e with h | h | h
    · exact E.new b o h
    · exact .inr (.inl (E.liv b h))
    · rcases h with h | h
      · exact .inr (.inr h)
      · exact .inr (E.ownM h)
  · refine E'.chg b o (E.chg b o e m) fun z => ?_
    rcases z with z | z
    · exact m z
    · rcases E.ownM z with y | y
      · rw [y] at e; cases e
      · exact m y
  · have := E'.sl i s hi
    cases s with
    | un => trivial
    | a x => exact this
    | rng n => exact this
    | own ds =>
      obtain ⟨a, xs, e1, e2, e3, e4, e5⟩ := this
      refine ⟨a, xs, e1, e2, e3, e4, ?_⟩
      rcases e5 with h | h | h
      · exact .inl (E.liv a h)
      · exact .inr h
      · exact E.ownM h
/-- what no slot owns and no draw touches stands -/
theorem Ent.kept (E' : Ent Γ (f.from σ ρ F H) F' H' σ' ρ') {b : Addr} {o : HO} (h : H b = some o) (hM : ¬ f.M b) (hO : ¬ OwnA σ ρ b) : H' b = some o :=
  E'.chg b o h fun z => z.elim hM hO
end
end Cc

set_option Elab.async false
set_option linter.all false
set_option maxRecDepth 100000
set_option maxHeartbeats 4000000
/-! The pure layer: expressions. -/
namespace Cc
open PySem PySem.Spec PyProof.Rows L2
abbrev XX := Nat → PyData → List Sl → Prop
abbrev EE := List Sl → (A → List Sl → Prop) → XX → Prop
abbrev AA := List Sl → (List A → List Sl → Prop) → XX → Prop
abbrev BB := List Sl → (Bool → List Sl → Prop) → XX → Prop
abbrev LL := List Sl → (List PyData → List Sl → Prop) → XX → Prop
abbrev P2 := PyData → PyData → (PyData → Prop) → Prop
abbrev PL := List A → (PyData → Prop) → Prop
def OutX (Γ : Gx) (f : Fr) (W : WX) (σ : L2.St) (Xx : XX) : Prop := ∀ c d ρ' F' H' dx v, Xx c d ρ' → Ent Γ f F' H' σ ρ' → F' dx = some (.xd [("value", v)]) → Dq Γ.K F' v d → W (.ref (Γ.C c)) (some dx) σ H'
def OutE (Γ : Gx) (f : Fr) (F : Hp) (σ : L2.St) (R : A → List Sl → Prop) (Q : VK) : Prop := ∀ x ρ' F' H' v, R x ρ' → Ent Γ f F' H' σ ρ' → Same F F' → Rp Γ F' v x → Q v H'
def OutA (Γ : Gx) (f : Fr) (F : Hp) (σ : L2.St) (R : List A → List Sl → Prop) (Q : List V → Hp → Prop) : Prop := ∀ xs ρ' F' H' vs, R xs ρ' → Ent Γ f F' H' σ ρ' → Same F F' → RpAll Γ F' vs xs → Q vs H'
def OutB (Γ : Gx) (f : Fr) (F : Hp) (σ : L2.St) (R : Bool → List Sl → Prop) (Q : Bool → Hp → Prop) : Prop := ∀ b ρ' F' H', R b ρ' → Ent Γ f F' H' σ ρ' → Same F F' → Q b H'
/-- a list that no one else has -/
structure Own1 (Γ : Gx) (f : Fr) (F H : Hp) (σ : L2.St) (ρ : List Sl) (a : Addr) (xs : List V) (ds : List PyData) : Prop where
  hH : H a = some (.lst xs)
  hF : F a = none
  hD : DqAll Γ.K F xs ds
  h0 : f.H0 a = none
  hO : ¬ OwnA σ ρ a
  hR : ¬ f.R a
def OutL (Γ : Gx) (f : Fr) (F : Hp) (σ : L2.St) (R : List PyData → List Sl → Prop) (Q : VK) : Prop := ∀ ds ρ' F' H' a xs, R ds ρ' → Ent Γ f F' H' σ ρ' → Same F F' → Own1 Γ f F' H' σ ρ' a xs ds → Q (.ref a) H'
def DenE (Γ : Gx) (W : WX) (t : TE) (ε : EE) : Prop := ∀ f F H σ ρ Q R Xx, Ent Γ f F H σ ρ → ε ρ R Xx → OutE Γ f F σ R Q → OutX Γ f W σ Xx → t σ H Q
def DenA (Γ : Gx) (W : WX) (t : TA) (ε : AA) : Prop := ∀ f F H σ ρ Q R Xx, Ent Γ f F H σ ρ → ε ρ R Xx → OutA Γ f F σ R Q → OutX Γ f W σ Xx → t σ H Q
def DenB (Γ : Gx) (W : WX) (t : TT) (ε : BB) : Prop := ∀ f F H σ ρ Q R Xx, Ent Γ f F H σ ρ → ε ρ R Xx → OutB Γ f F σ R Q → OutX Γ f W σ Xx → t σ H Q
def DenL (Γ : Gx) (W : WX) (t : TE) (ε : LL) : Prop := ∀ f F H σ ρ Q R Xx, Ent Γ f F H σ ρ → ε ρ R Xx → OutL Γ f F σ R Q → OutX Γ f W σ Xx → t σ H Q
def DE (Γ : Gx) (X : Cx) (W : WX) (e : Expr) (t : TE) (ε : EE) : Prop := PE X e t ∧ DenE Γ W t ε
def DL (Γ : Gx) (X : Cx) (W : WX) (e : Expr) (t : TE) (ε : LL) : Prop := PE X e t ∧ DenL Γ W t ε
def DA (Γ : Gx) (X : Cx) (W : WX) (es : List Expr) (t : TA) (ε : AA) : Prop := PA X es t ∧ DenA Γ W t ε
def DT (Γ : Gx) (X : Cx) (W : WX) (e : Expr) (t : TT) (ε : BB) : Prop := PT X e t ∧ DenB Γ W t ε

/-! ### meanings -/
def dD : A → (PyData → Prop) → Prop
  | .d x, P => P x
  | _, _ => False
def dB : A → (Bool → Prop) → Prop
  | .d (.bool b), P => P b
  | _, _ => False
def dI : A → (Int → Prop) → Prop
  | .d (.int b), P => P b
  | _, _ => False
def dL : A → (List PyData → Prop) → Prop
  | .d (.list b), P => P b
  | _, _ => False
def dS : A → (List PyData → Prop) → Prop
  | .d (.list b), P => P b
  | .d (.tuple b), P => P b
  | _, _ => False
def dAll : List A → (List PyData → Prop) → Prop
  | [], P => P []
  | x :: xs, P => dD x fun d => dAll xs fun ds => P (d :: ds)
def szL (n : Nat) : Prop := n ≤ sizeLine
def eVar (i : Nat) : EE := fun ρ R _ => match ρ[i]? with
  | some (.a x) => R x ρ
  | some (.own ds) => R (.d (.list ds)) (ρ.set i (.a (.d (.list ds))))
  | _ => False
def eC (d : PyData) : EE := fun ρ R _ => R (.d d) ρ
def eOp (p : P2) (a b : EE) : EE := fun ρ R Xx => a ρ (fun x ρ1 => b ρ1 (fun y ρ2 => dD x fun u => dD y fun w => p u w fun d => R (.d d) ρ2) Xx) Xx
def eUn (p : PyData → (PyData → Prop) → Prop) (a : EE) : EE := fun ρ R Xx => a ρ (fun x ρ1 => dD x fun u => p u fun d => R (.d d) ρ1) Xx
def eAnd (a b : EE) : EE := fun ρ R Xx => a ρ (fun x ρ1 => dB x fun c => if c = true then b ρ1 R Xx else R (.d (.bool false)) ρ1) Xx
def eOr (a b : EE) : EE := fun ρ R Xx => a ρ (fun x ρ1 => dB x fun c => if c = true then R (.d (.bool true)) ρ1 else b ρ1 R Xx) Xx
def eNot (a : EE) : EE := fun ρ R Xx => a ρ (fun x ρ1 => dB x fun c => R (.d (.bool !c)) ρ1) Xx
def eIf (t : BB) (a b : EE) : EE := fun ρ R Xx => t ρ (fun c ρ1 => if c = true then a ρ1 R Xx else b ρ1 R Xx) Xx
def isNon : A → Bool
  | .d .none => true
  | _ => false
def eIsN (a : EE) : EE := fun ρ R Xx => a ρ (fun x ρ1 => R (.d (.bool (isNon x))) ρ1) Xx
def eNotN (a : EE) : EE := fun ρ R Xx => a ρ (fun x ρ1 => R (.d (.bool !(isNon x))) ρ1) Xx
def bOf (a : EE) : BB := fun ρ R Xx => a ρ (fun x ρ1 => dB x fun c => R c ρ1) Xx
def truP : A → (Bool → Prop) → Prop
  | .d (.list ds), R => R (!ds.isEmpty)
  | .d (.tuple ds), R => R (!ds.isEmpty)
  | .d (.int i), R => R (i != 0)
  | .d (.bool b), R => R b
  | .d .none, R => R false
  | _, _ => False
def bTru (a : EE) : BB := fun ρ R Xx => a ρ (fun x ρ1 => truP x fun b => R b ρ1) Xx
def bNot (a : BB) : BB := fun ρ R Xx => a ρ (fun b ρ1 => R (!b) ρ1) Xx
def aNil : AA := fun ρ R _ => R [] ρ
def aCons (a : EE) (b : AA) : AA := fun ρ R Xx => a ρ (fun x ρ1 => b ρ1 (fun xs ρ2 => R (x :: xs) ρ2) Xx) Xx
def aStar (a : EE) (b : AA) : AA := fun ρ R Xx => a ρ (fun x ρ1 => dS x fun us => b ρ1 (fun xs ρ2 => R (us.map A.d ++ xs) ρ2) Xx) Xx
def eTup (a : AA) : EE := fun ρ R Xx => a ρ (fun xs ρ1 => dAll xs fun ds => szL ds.length ∧ R (.d (.tuple ds)) ρ1) Xx
def lDisp (a : AA) : LL := fun ρ R Xx => a ρ (fun xs ρ1 => dAll xs fun ds => szL ds.length ∧ R ds ρ1) Xx
def eFz (a : LL) : EE := fun ρ R Xx => a ρ (fun ds ρ1 => R (.d (.list ds)) ρ1) Xx
def eCB (p : PL) (a : AA) : EE := fun ρ R Xx => a ρ (fun xs ρ1 => p xs fun d => R (.d d) ρ1) Xx
def lCat (a b : EE) : LL := fun ρ R Xx => a ρ (fun x ρ1 => b ρ1 (fun y ρ2 => dL x fun u => dL y fun w => szL (u.length + w.length) ∧ R (u ++ w) ρ2) Xx) Xx
def lRep (a b : EE) : LL := fun ρ R Xx => a ρ (fun x ρ1 => b ρ1 (fun y ρ2 => dL x fun u => dI y fun k => -(2 ^ 63) ≤ k ∧ k < 2 ^ 63 ∧ szL (u.length * k.toNat) ∧ R (List.replicate k.toNat u).flatten ρ2) Xx) Xx
def lOf (a : EE) : LL := fun ρ R Xx => a ρ (fun x ρ1 => dS x fun u => R u ρ1) Xx
def dO : Option EE → List Sl → (Option Int → List Sl → Prop) → XX → Prop
  | none, ρ, R, _ => R none ρ
  | some e, ρ, R, Xx => e ρ (fun x ρ1 => dI x fun i => R (some i) ρ1) Xx
def lSl (a : EE) (lo hi : Option EE) : LL := fun ρ R Xx => a ρ (fun x ρ1 => dL x fun u => dO lo ρ1 (fun l ρ2 => dO hi ρ2 (fun h ρ3 => R (cutA u l h) ρ3) Xx) Xx) Xx
def pIx : P2
  | .list ds, .int i, R => ∃ d, atI ds i = some d ∧ R d
  | .tuple ds, .int i, R => ∃ d, atI ds i = some d ∧ R d
  | .str z, .int i, R => z.length ≤ sizeLine ∧ ∃ c, atI z.cps.toList i = some c ∧ R (.str ⟨#[c]⟩)
  | _, _, _ => False
def eIxN (i : Nat) (e : EE) : EE := fun ρ R Xx => match ρ[i]? with
  | some (.own _) => e ρ (fun y ρ1 => dI y fun k => match ρ1[i]? with | some (.own ds) => ∃ d, atI ds k = some d ∧ R (.d d) ρ1 | _ => False) Xx
  | some (.a x) => e ρ (fun y ρ1 => dD x fun u => dD y fun w => pIx u w fun d => R (.d d) ρ1) Xx
  | _ => False
def pLen : A → (Int → Prop) → Prop
  | .d (.list ds), R => R ds.length
  | .d (.tuple ds), R => R ds.length
  | .scr ns, R => R ns.length
  | _, _ => False
def eLenN (i : Nat) : EE := fun ρ R _ => match ρ[i]? with
  | some (.own ds) => R (.d (.int ds.length)) ρ
  | some (.a x) => pLen x fun n => R (.d (.int n)) ρ
  | _ => False
def pI0 (g : Int → Int → PyData) : P2
  | .int a, .int b, R => R (g a b)
  | _, _, _ => False
def pI (C : Int → Int → Prop) (g : Int → Int → PyData) : P2
  | .int a, .int b, R => C a b ∧ R (g a b)
  | _, _, _ => False
def pEq : P2
  | .int a, .int b, R => R (.bool (decide (a = b)))
  | .str a, .str b, R => R (.bool (decide (a = b)))
  | .bool a, .bool b, R => R (.bool (decide (a = b)))
  | _, _, _ => False
def pNe : P2
  | .int a, .int b, R => R (.bool (!decide (a = b)))
  | .str a, .str b, R => R (.bool (!decide (a = b)))
  | .bool a, .bool b, R => R (.bool (!decide (a = b)))
  | _, _, _ => False
def pEqD : P2 := fun a b R => SeqAt.shaped a = true ∧ SeqAt.shaped b = true ∧ R (.bool (PyData.eqv a b))
def pNeD : P2 := fun a b R => SeqAt.shaped a = true ∧ SeqAt.shaped b = true ∧ R (.bool (!PyData.eqv a b))
def flatD : PyData → Bool
  | .none | .bool _ | .int _ | .str _ => true
  | _ => false
def vOf : PyData → V
  | .bool b => .bl b
  | .int i => .int i
  | .str z => .str z
  | _ => .non
def pIn (neg : Bool) : P2
  | x, .list ds, R => flatD x = true ∧ ds.all flatD = true ∧ R (.bool (if neg then !inV (vOf x) (ds.map vOf) else inV (vOf x) (ds.map vOf)))
  | x, .tuple ds, R => flatD x = true ∧ ds.all flatD = true ∧ R (.bool (if neg then !inV (vOf x) (ds.map vOf) else inV (vOf x) (ds.map vOf)))
  | _, _, _ => False
def pNeg : PyData → (PyData → Prop) → Prop
  | .int a, R => R (.int (-a))
  | _, _ => False
def eChain (p p' : P2) (a b c : EE) : EE := fun ρ R Xx => a ρ (fun x ρ1 => b ρ1 (fun y ρ2 => dD x fun u => dD y fun w => p u w fun d => dB (.d d) fun k => if k = true then c ρ2 (fun z ρ3 => dD z fun v => p' w v fun d => R (.d d) ρ3) Xx else R (.d (.bool false)) ρ2) Xx) Xx

section
variable {Γ : Gx} {X : Cx} {W : WX} {f : Fr} {F H F' H' : Hp} {σ : L2.St} {ρ ρ' : List Sl} {x : A} {v : V} {d : PyData} {e e1 e2 e3 : Expr} {a b c : EE} {i : Nat} {es : List Expr} {pos : Pos}
theorem OutE.sub {R : A → List Sl → Prop} {Q : VK} (o : OutE Γ f F σ R Q) (s : Same F F') : OutE Γ f F' σ R Q := fun x ρ' F' H' v r E s' h => o x ρ' F' H' v r E (s.trans s') h
theorem OutL.sub {R : List PyData → List Sl → Prop} {Q : VK} (o : OutL Γ f F σ R Q) (s : Same F F') : OutL Γ f F' σ R Q := fun x ρ' F' H' a xs r E s' h => o x ρ' F' H' a xs r E (s.trans s') h
theorem OutA.sub {R : List A → List Sl → Prop} {Q : List V → Hp → Prop} (o : OutA Γ f F σ R Q) (s : Same F F') : OutA Γ f F' σ R Q := fun x ρ' F' H' v r E s' h => o x ρ' F' H' v r E (s.trans s') h
theorem OutB.sub {R : Bool → List Sl → Prop} {Q : Bool → Hp → Prop} (o : OutB Γ f F σ R Q) (s : Same F F') : OutB Γ f F' σ R Q := fun x ρ' F' H' r E s' => o x ρ' F' H' r E (s.trans s')
theorem dD_of {P : PyData → Prop} (h : dD x P) : ∃ d, x = .d d ∧ P d := by
  cases x with
  | d y => exact ⟨y, rfl, h⟩
  | exc => exact h.elim
  | spr => exact h.elim
  | scr => exact h.elim
theorem dB_of {P : Bool → Prop} (h : dB x P) : ∃ b, x = .d (.bool b) ∧ P b := by
  cases x with
  | d y => cases y <;> first | exact ⟨_, rfl, h⟩ | exact h.elim
  | exc => exact h.elim
  | spr => exact h.elim
  | scr => exact h.elim
theorem dI_of {P : Int → Prop} (h : dI x P) : ∃ b, x = .d (.int b) ∧ P b := by
  cases x with
  | d y => cases y <;> first | exact ⟨_, rfl, h⟩ | exact h.elim
  | exc => exact h.elim
  | spr => exact h.elim
  | scr => exact h.elim
theorem dL_of {P : List PyData → Prop} (h : dL x P) : ∃ b, x = .d (.list b) ∧ P b := by
  cases x with
  | d y => cases y <;> first | exact ⟨_, rfl, h⟩ | exact h.elim
  | exc => exact h.elim
  | spr => exact h.elim
  | scr => exact h.elim
theorem dS_of {P : List PyData → Prop} (h : dS x P) : ∃ b, (x = .d (.list b) ∨ x = .d (.tuple b)) ∧ P b := by
  cases x with
  | d y => cases y <;> first | exact ⟨_, .inl rfl, h⟩ | exact ⟨_, .inr rfl, h⟩ | exact h.elim
  | exc => exact h.elim
  | spr => exact h.elim
  | scr => exact h.elim
theorem dAll_of : ∀ {xs : List A} {P : List PyData → Prop}, dAll xs P → ∃ ds, xs = ds.map A.d ∧ P ds
  | [], _, h => ⟨[], rfl, h⟩
  | x :: xs, P, h => by
    obtain ⟨d, e, h1⟩ := dD_of h
    obtain ⟨ds, e2, h2⟩ := dAll_of (xs := xs) h1
    exact ⟨d :: ds, by rw [e, e2]; rfl, h2⟩
theorem RpAll.dq {F : Hp} : ∀ {vs : List V} {ds : List PyData}, RpAll Γ F vs (ds.map A.d) → DqAll Γ.K F vs ds
  | [], [], _ => .nil
  | _ :: _, _ :: _, ⟨h1, h2⟩ => .cons h1 (RpAll.dq h2)
  | [], _ :: _, h => h.elim
  | _ :: _, [], h => h.elim
theorem DqAll.rp {F : Hp} : ∀ {vs : List V} {ds : List PyData}, DqAll Γ.K F vs ds → RpAll Γ F vs (ds.map A.d)
  | [], [], _ => trivial
  | _ :: _, _ :: _, .cons h1 h2 => ⟨h1, DqAll.rp h2⟩
theorem RpAll.app {F : Hp} : ∀ {vs ws : List V} {xs ys : List A}, RpAll Γ F vs xs → RpAll Γ F ws ys → RpAll Γ F (vs ++ ws) (xs ++ ys)
  | [], _, [], _, _, h => h
  | _ :: _, _, _ :: _, _, ⟨h1, h2⟩, h => ⟨h1, RpAll.app h2 h⟩
  | [], _, _ :: _, _, h, _ => h.elim
  | _ :: _, _, [], _, h, _ => h.elim

theorem de_var (h : PE X e (tVar i)) : DE Γ X W e (tVar i) (eVar i) := by
  refine ⟨h, fun f F H σ ρ Q R Xx E r o _ => ?_⟩
  unfold eVar at r
  split at r
  · rename_i x hx
    obtain ⟨u, hu, hr⟩ := E.sl i _ hx
    exact ⟨u, hu, o x ρ F H u r E (Same.refl _) hr⟩
  · rename_i ds hx
    obtain ⟨a, xs, e1, e2, e4, hd, E2⟩ := E.freeO hx
    exact ⟨_, e1, o _ _ _ _ _ r E2 (same_updF e4) hd⟩
  · exact r.elim
theorem de_c (h : PE X e (tC v)) (hv : ∀ F, Dq Γ.K F v d) : DE Γ X W e (tC v) (eC d) := ⟨h, fun f F H σ ρ Q R Xx E r o _ => o _ ρ F H v r E (Same.refl _) (hv F)⟩
/-- an operator by values -/
def OpD (Γ : Gx) (r : R2) (p : P2) : Prop := ∀ f F H σ ρ x y u w Q R, Ent Γ f F H σ ρ → Dq Γ.K F x u → Dq Γ.K F y w → p u w R → (∀ d v F' H', R d → Ent Γ f F' H' σ ρ → Same F F' → Dq Γ.K F' v d → Q v H') → r x y H Q
theorem den_op {r : R2} {p : P2} {ta tb : TE} (hp : OpD Γ r p) (h1 : DenE Γ W ta a) (h2 : DenE Γ W tb b) : DenE Γ W (tOp r ta tb) (eOp p a b) := fun f F H σ ρ Q R Xx E q o ox => by
  refine h1 f F H σ ρ _ _ Xx E q (fun x ρ1 F1 H1 v1 q1 E1 s1 r1 => ?_) ox
  refine h2 f F1 H1 σ ρ1 _ _ Xx E1 q1 (fun y ρ2 F2 H2 v2 q2 E2 s2 r2 => ?_) ox
  obtain ⟨u, rfl, q2'⟩ := dD_of q2
  clear q2; have q2 := q2'
  obtain ⟨w, rfl, q2'⟩ := dD_of q2
  clear q2; have q2 := q2'
  exact hp f F2 H2 σ ρ2 v1 v2 u w Q _ E2 (Dq.same s2 u r1) r2 q2 fun d v F' H' rd E' s' hd => o _ _ _ _ _ rd E' ((s1.trans s2).trans s') hd
theorem de_op {r : R2} {p : P2} (hp : OpD Γ r p) (hpe : ∀ {ta tb : TE}, PE X e1 ta → PE X e2 tb → PE X e (tOp r ta tb)) {ta : TE} (h1 : DE Γ X W e1 ta a) {tb : TE} (h2 : DE Γ X W e2 tb b) : DE Γ X W e (tOp r ta tb) (eOp p a b) := by
  obtain ⟨p1, d1⟩ := h1
  obtain ⟨p2, d2⟩ := h2
  exact ⟨hpe p1 p2, den_op hp d1 d2⟩
theorem opd_int0 {g : Int → Int → Int} : OpD Γ (rI0 fun i j => .int (g i j)) (pI0 fun i j => .int (g i j)) := fun f F H σ ρ x y u w Q R E h1 h2 q o => by
  unfold pI0 at q
  split at q
  · cases h1; cases h2
    exact ⟨_, _, rfl, rfl, o _ _ F H q E (Same.refl _) (.int _)⟩
  · exact q.elim
theorem opd_bl0 {g : Int → Int → Bool} : OpD Γ (rI0 fun i j => .bl (g i j)) (pI0 fun i j => .bool (g i j)) := fun f F H σ ρ x y u w Q R E h1 h2 q o => by
  unfold pI0 at q
  split at q
  · cases h1; cases h2
    exact ⟨_, _, rfl, rfl, o _ _ F H q E (Same.refl _) (.bl _)⟩
  · exact q.elim
theorem opd_int {C : Int → Int → Prop} {g : Int → Int → Int} : OpD Γ (rI C fun i j => .int (g i j)) (pI C fun i j => .int (g i j)) := fun f F H σ ρ x y u w Q R E h1 h2 q o => by
  unfold pI at q
  split at q
  · cases h1; cases h2
    exact ⟨_, _, rfl, rfl, q.1, o _ _ F H q.2 E (Same.refl _) (.int _)⟩
  · exact q.elim
theorem opd_eq : OpD Γ rEq pEq := fun f F H σ ρ x y u w Q R E h1 h2 q o => by
  unfold pEq at q
  split at q
  · cases h1; cases h2
    refine ⟨rfl, o _ _ F H q E (Same.refl _) ?_⟩
    rw [x_dec]; exact .bl _
  · cases h1; cases h2
    refine ⟨rfl, o _ _ F H q E (Same.refl _) ?_⟩
    rw [x_decS]; exact .bl _
  · rename_i a1 b1
    cases h1; cases h2
    refine ⟨rfl, o _ _ F H q E (Same.refl _) ?_⟩
    rw [show decide (V.bl a1 = V.bl b1) = decide (a1 = b1) by cases a1 <;> cases b1 <;> rfl]; exact .bl _
  · exact q.elim
theorem opd_ne : OpD Γ rNe pNe := fun f F H σ ρ x y u w Q R E h1 h2 q o => by
  unfold pNe at q
  split at q
  · cases h1; cases h2
    refine ⟨rfl, o _ _ F H q E (Same.refl _) ?_⟩
    rw [x_dec]; exact .bl _
  · cases h1; cases h2
    refine ⟨rfl, o _ _ F H q E (Same.refl _) ?_⟩
    rw [x_decS]; exact .bl _
  · rename_i a1 b1
    cases h1; cases h2
    refine ⟨rfl, o _ _ F H q E (Same.refl _) ?_⟩
    rw [show decide (V.bl a1 = V.bl b1) = decide (a1 = b1) by cases a1 <;> cases b1 <;> rfl]; exact .bl _
  · exact q.elim
theorem opd_eqD : OpD Γ (rEqD Γ.K) pEqD := fun f F H σ ρ x y u w Q R E h1 h2 q o =>
  ⟨u, w, Dp.same E.s1 u (Dq.dp u h1), Dp.same E.s1 w (Dq.dp w h2), q.1, q.2.1, o _ _ F H q.2.2 E (Same.refl _) (.bl _)⟩
theorem opd_neD : OpD Γ (rNeD Γ.K) pNeD := fun f F H σ ρ x y u w Q R E h1 h2 q o =>
  ⟨u, w, Dp.same E.s1 u (Dq.dp u h1), Dp.same E.s1 w (Dq.dp w h2), q.1, q.2.1, o _ _ F H q.2.2 E (Same.refl _) (.bl _)⟩
theorem flat_v {F : Hp} : ∀ {u : PyData} {x : V}, Dq Γ.K F x u → flatD u = true → x = vOf u ∧ flatV x = true
  | .none, _, h, _ => by cases h; exact ⟨rfl, rfl⟩
  | .bool _, _, h, _ => by cases h; exact ⟨rfl, rfl⟩
  | .int _, _, h, _ => by cases h; exact ⟨rfl, rfl⟩
  | .str _, _, h, _ => by cases h; exact ⟨rfl, rfl⟩
  | .list _, _, _, h => nomatch h
  | .tuple _, _, _, h => nomatch h
  | .dict _, _, _, h => nomatch h
theorem flat_vs {F : Hp} : ∀ {us : List PyData} {xs : List V}, DqAll Γ.K F xs us → us.all flatD = true → xs = us.map vOf ∧ xs.all flatV = true
  | [], _, h, _ => by cases h; exact ⟨rfl, rfl⟩
  | u :: us, _, h, hf => by
    cases h with
    | cons h1 h2 =>
      rw [List.all_cons, Bool.and_eq_true] at hf
      obtain ⟨e1, f1⟩ := flat_v h1 hf.1
      obtain ⟨e2, f2⟩ := flat_vs h2 hf.2
      exact ⟨by rw [e1, e2]; rfl, by rw [List.all_cons, f1, f2]; rfl⟩
theorem opd_in {neg : Bool} : OpD Γ (rIn Γ.K neg) (pIn neg) := fun f F H σ ρ x y u w Q R E h1 h2 q o => by
  unfold pIn at q
  split at q
  · cases h2 with
    | lst hs ha =>
      obtain ⟨e1, f1⟩ := flat_v h1 q.1
      obtain ⟨e2, f2⟩ := flat_vs ha q.2.1
      subst e1 e2
      exact ⟨_, _, rfl, .inl (.of (E.s1 _ _ hs)), f1, f2, o _ _ F H q.2.2 E (Same.refl _) (.bl _)⟩
  · cases h2 with
    | tup hs ha =>
      obtain ⟨e1, f1⟩ := flat_v h1 q.1
      obtain ⟨e2, f2⟩ := flat_vs ha q.2.1
      subst e1 e2
      exact ⟨_, _, rfl, .inr (Same.tup E.s1 hs), f1, f2, o _ _ F H q.2.2 E (Same.refl _) (.bl _)⟩
  · exact q.elim
theorem atI_dq {F : Hp} {xs : List V} {ds : List PyData} (h : DqAll Γ.K F xs ds) {k : Int} {d : PyData} (e : atI ds k = some d) : ∃ v, atI xs k = some v ∧ Dq Γ.K F v d := by
  unfold atI at e ⊢
  rw [h.len]
  cases hk : ixN ds.length k with
  | none => rw [hk] at e; cases e
  | some j =>
    rw [hk] at e
    exact h.get e
theorem opd_ix : OpD Γ (rIx Γ.K) pIx := fun f F H σ ρ x y u w Q R E h1 h2 q o => by
  unfold pIx at q
  split at q
  · obtain ⟨d, hd, q⟩ := q
    cases h2
    cases h1 with
    | lst hs ha =>
      obtain ⟨v, hv, dv⟩ := atI_dq ha hd
      exact .inl ⟨_, _, _, v, rfl, rfl, .of (E.s1 _ _ hs), hv, o _ _ F H q E (Same.refl _) dv⟩
  · obtain ⟨d, hd, q⟩ := q
    cases h2
    cases h1 with
    | tup hs ha =>
      obtain ⟨v, hv, dv⟩ := atI_dq ha hd
      exact .inr (.inl ⟨_, _, _, v, rfl, rfl, Same.tup E.s1 hs, hv, o _ _ F H q E (Same.refl _) dv⟩)
  · obtain ⟨hz, c, hc, q⟩ := q
    cases h2
    cases h1
    exact .inr (.inr ⟨_, _, c, rfl, rfl, hz, hc, o _ _ F H q E (Same.refl _) (.str _)⟩)
  · exact q.elim
theorem de_ixN (hpe : ∀ {tb : TE}, PE X e2 tb → PE X e (tOp (rIx Γ.K) (tVar i) tb)) {tb : TE} (h : DE Γ X W e2 tb b) : DE Γ X W e (tOp (rIx Γ.K) (tVar i) tb) (eIxN i b) := by
  obtain ⟨p2, d2⟩ := h
  refine ⟨hpe p2, fun f F H σ ρ Q R Xx E q o ox => ?_⟩
  unfold eIxN at q
  split at q
  · rename_i ds hx
    obtain ⟨a, xs, e1, e2, e3, e4, e5⟩ := E.sl i _ hx
    refine ⟨.ref a, e1, ?_⟩
    refine d2 f F H σ ρ _ _ Xx E q (fun y ρ1 F1 H1 v1 q1 E1 s1 r1 => ?_) ox
    obtain ⟨k, rfl, q1'⟩ := dI_of q1
    clear q1; have q1 := q1'
    split at q1
    · rename_i ds' hx'
      obtain ⟨d, hd, q1⟩ := q1
      obtain ⟨a', xs', f1, f2, f3, f4, f5⟩ := E1.sl i _ hx'
      rw [e1] at f1
      cases f1
      cases r1
      obtain ⟨v, hv, dv⟩ := atI_dq f3 hd
      exact .inl ⟨_, _, _, v, rfl, rfl, .of f2, hv, o _ _ _ _ _ q1 E1 s1 dv⟩
    · exact q1.elim
  · rename_i x hx
    obtain ⟨u, hu, hr⟩ := E.sl i _ hx
    refine ⟨u, hu, ?_⟩
    refine d2 f F H σ ρ _ _ Xx E q (fun y ρ1 F1 H1 v1 q1 E1 s1 r1 => ?_) ox
    obtain ⟨u', rfl, q1'⟩ := dD_of q1
    clear q1; have q1 := q1'
    obtain ⟨w', rfl, q1'⟩ := dD_of q1
    clear q1; have q1 := q1'
    exact opd_ix f F1 H1 σ ρ1 u v1 u' w' Q _ E1 (Dq.same s1 u' hr) r1 q1 fun d v F' H' rd E' s' hd => o _ _ _ _ _ rd E' (s1.trans s') hd
  · exact q.elim
theorem de_un (hpe : ∀ {ta : TE}, PE X e1 ta → PE X e (tUn (rU fun i => .int (-i)) ta)) {ta : TE} (h1 : DE Γ X W e1 ta a) : DE Γ X W e (tUn (rU fun i => .int (-i)) ta) (eUn pNeg a) := by
  obtain ⟨p1, d1⟩ := h1
  refine ⟨hpe p1, fun f F H σ ρ Q R Xx E q o ox => ?_⟩
  refine d1 f F H σ ρ _ _ Xx E q (fun x ρ1 F1 H1 v1 q1 E1 s1 r1 => ?_) ox
  obtain ⟨u, rfl, q1'⟩ := dD_of q1
  clear q1; have q1 := q1'
  revert q1
  cases u <;> intro q1 <;> try exact False.elim q1
  cases r1
  exact ⟨_, rfl, o _ _ _ _ _ q1 E1 s1 (.int _)⟩
theorem de_and (hpe : ∀ {ta tb : TE}, PE X e1 ta → PE X e2 tb → PE X e (tAndV ta tb)) {ta : TE} (h1 : DE Γ X W e1 ta a) {tb : TE} (h2 : DE Γ X W e2 tb b) : DE Γ X W e (tAndV ta tb) (eAnd a b) := by
  obtain ⟨p1, d1⟩ := h1
  obtain ⟨p2, d2⟩ := h2
  refine ⟨hpe p1 p2, fun f F H σ ρ Q R Xx E q o ox => ?_⟩
  refine d1 f F H σ ρ _ _ Xx E q (fun x ρ1 F1 H1 v1 q1 E1 s1 r1 => ?_) ox
  obtain ⟨c, rfl, q1'⟩ := dB_of q1
  clear q1; have q1 := q1'
  cases r1
  refine ⟨c, rfl, ?_⟩
  cases c with
  | true => exact d2 f F1 H1 σ ρ1 _ _ Xx E1 q1 (o.sub s1) ox
  | false => exact o _ _ _ _ _ q1 E1 s1 (.bl _)
theorem de_or (hpe : ∀ {ta tb : TE}, PE X e1 ta → PE X e2 tb → PE X e (tOrV ta tb)) {ta : TE} (h1 : DE Γ X W e1 ta a) {tb : TE} (h2 : DE Γ X W e2 tb b) : DE Γ X W e (tOrV ta tb) (eOr a b) := by
  obtain ⟨p1, d1⟩ := h1
  obtain ⟨p2, d2⟩ := h2
  refine ⟨hpe p1 p2, fun f F H σ ρ Q R Xx E q o ox => ?_⟩
  refine d1 f F H σ ρ _ _ Xx E q (fun x ρ1 F1 H1 v1 q1 E1 s1 r1 => ?_) ox
  obtain ⟨c, rfl, q1'⟩ := dB_of q1
  clear q1; have q1 := q1'
  cases r1
  refine ⟨c, rfl, ?_⟩
  cases c with
  | true => exact o _ _ _ _ _ q1 E1 s1 (.bl _)
  | false => exact d2 f F1 H1 σ ρ1 _ _ Xx E1 q1 (o.sub s1) ox
theorem de_one (hpe : ∀ {ta : TE}, PE X e1 ta → PE X e ta) {ta : TE} (h1 : DE Γ X W e1 ta a) : DE Γ X W e ta a := by
  obtain ⟨p1, d1⟩ := h1
  exact ⟨hpe p1, d1⟩
theorem de_not (hpe : ∀ {ta : TE}, PE X e1 ta → PE X e (tNotV ta)) {ta : TE} (h1 : DE Γ X W e1 ta a) : DE Γ X W e (tNotV ta) (eNot a) := by
  obtain ⟨p1, d1⟩ := h1
  refine ⟨hpe p1, fun f F H σ ρ Q R Xx E q o ox => ?_⟩
  refine d1 f F H σ ρ _ _ Xx E q (fun x ρ1 F1 H1 v1 q1 E1 s1 r1 => ?_) ox
  obtain ⟨c, rfl, q1'⟩ := dB_of q1
  clear q1; have q1 := q1'
  cases r1
  exact ⟨c, rfl, o _ _ _ _ _ q1 E1 s1 (.bl _)⟩
theorem isNon_v {F : Hp} (h : Rp Γ F v x) : decide (v = V.non) = Cc.isNon x := by
  cases x with
  | d y => cases y <;> cases h <;> rfl
  | exc c y => obtain ⟨_, _, _, rfl, _⟩ := h; rfl
  | spr S => obtain ⟨_, _, rfl, _⟩ := h; rfl
  | scr ns => obtain ⟨_, rfl, _⟩ := h; rfl
theorem de_isN (hpe : ∀ {ta : TE}, PE X e1 ta → PE X e (tOp (fun x y H Q => y = V.non ∧ Q (V.bl (decide (x = V.non))) H) ta (tC .non))) {ta : TE} (h1 : DE Γ X W e1 ta a) : DE Γ X W e (tOp (fun x y H Q => y = V.non ∧ Q (V.bl (decide (x = V.non))) H) ta (tC .non)) (eIsN a) := by
  obtain ⟨p1, d1⟩ := h1
  refine ⟨hpe p1, fun f F H σ ρ Q R Xx E q o ox => ?_⟩
  refine d1 f F H σ ρ _ _ Xx E q (fun x ρ1 F1 H1 v1 q1 E1 s1 r1 => ?_) ox
  show V.non = V.non ∧ Q (V.bl (decide (v1 = V.non))) H1
  refine ⟨rfl, ?_⟩
  rw [isNon_v r1]
  exact o _ _ _ _ _ q1 E1 s1 (.bl _)
theorem de_notN (hpe : ∀ {ta : TE}, PE X e1 ta → PE X e (tOp (fun x y H Q => y = V.non ∧ Q (V.bl (!decide (x = V.non))) H) ta (tC .non))) {ta : TE} (h1 : DE Γ X W e1 ta a) : DE Γ X W e (tOp (fun x y H Q => y = V.non ∧ Q (V.bl (!decide (x = V.non))) H) ta (tC .non)) (eNotN a) := by
  obtain ⟨p1, d1⟩ := h1
  refine ⟨hpe p1, fun f F H σ ρ Q R Xx E q o ox => ?_⟩
  refine d1 f F H σ ρ _ _ Xx E q (fun x ρ1 F1 H1 v1 q1 E1 s1 r1 => ?_) ox
  show V.non = V.non ∧ Q (V.bl (!decide (v1 = V.non))) H1
  refine ⟨rfl, ?_⟩
  rw [isNon_v r1]
  exact o _ _ _ _ _ q1 E1 s1 (.bl _)
theorem dt_val (hpe : ∀ {ta : TE}, PE X e ta → PT X e (tB ta)) {ta : TE} (h1 : DE Γ X W e ta a) : DT Γ X W e (tB ta) (bOf a) := by
  obtain ⟨p1, d1⟩ := h1
  refine ⟨hpe p1, fun f F H σ ρ Q R Xx E q o ox => ?_⟩
  refine d1 f F H σ ρ _ _ Xx E q (fun x ρ1 F1 H1 v1 q1 E1 s1 r1 => ?_) ox
  obtain ⟨c, rfl, q1'⟩ := dB_of q1
  clear q1; have q1 := q1'
  cases r1
  exact ⟨c, rfl, o _ _ _ _ q1 E1 s1⟩
theorem tru_v {F H : Hp} (s : Same F H) {R : Bool → Prop} (h : Rp Γ F v x) (q : truP x R) : ∃ k, TruV Γ.K v H k ∧ R k := by
  have em : ∀ {us : List PyData} {xs : List V}, DqAll Γ.K F xs us → us.isEmpty = xs.isEmpty := fun {us xs} h => by
    cases h <;> rfl
  cases x with
  | d y =>
    cases y with
    | none => cases h; exact ⟨_, rfl, q⟩
    | bool b => cases h; exact ⟨_, rfl, q⟩
    | int i => cases h; exact ⟨_, rfl, q⟩
    | str z => exact q.elim
    | list ds =>
      cases h with
      | lst hs ha => exact ⟨_, truL (.of (s _ _ hs)), by rw [← em ha]; exact q⟩
    | tuple ds =>
      cases h with
      | tup hs ha => exact ⟨_, truT (Same.tup s hs), by rw [← em ha]; exact q⟩
    | dict _ => exact q.elim
  | exc c y => exact q.elim
  | spr S => exact q.elim
  | scr ns => exact q.elim
theorem dt_tru (hpe : ∀ {ta : TE}, PE X e ta → PT X e (fun σ H Q => ta σ H fun x H' => ∃ k, TruV Γ.K x H' k ∧ Q k H')) {ta : TE} (h1 : DE Γ X W e ta a) : DT Γ X W e (fun σ H Q => ta σ H fun x H' => ∃ k, TruV Γ.K x H' k ∧ Q k H') (bTru a) := by
  obtain ⟨p1, d1⟩ := h1
  refine ⟨hpe p1, fun f F H σ ρ Q R Xx E q o ox => ?_⟩
  refine d1 f F H σ ρ _ _ Xx E q (fun x ρ1 F1 H1 v1 q1 E1 s1 r1 => ?_) ox
  obtain ⟨k, hk, r⟩ := tru_v E1.s1 r1 (R := fun b => R b ρ1) q1
  exact ⟨k, hk, o _ _ _ _ r E1 s1⟩
theorem dt_not {t1 : BB} (hpe : ∀ {ta : TT}, PT X e1 ta → PT X e (tNot ta)) {ta : TT} (h1 : DT Γ X W e1 ta t1) : DT Γ X W e (tNot ta) (bNot t1) := by
  obtain ⟨p1, d1⟩ := h1
  exact ⟨hpe p1, fun f F H σ ρ Q R Xx E q o ox => d1 f F H σ ρ _ _ Xx E q (fun b ρ1 F1 H1 q1 E1 s1 => o _ _ _ _ q1 E1 s1) ox⟩
theorem de_ifExp {t1 : BB} (hpe : ∀ {tt : TT} {ta tb : TE}, PT X e1 tt → PE X e2 ta → PE X e3 tb → PE X e (tIf tt ta tb)) {tt : TT} (h1 : DT Γ X W e1 tt t1) {ta : TE} (h2 : DE Γ X W e2 ta a) {tb : TE} (h3 : DE Γ X W e3 tb b) : DE Γ X W e (tIf tt ta tb) (eIf t1 a b) := by
  obtain ⟨p1, d1⟩ := h1
  obtain ⟨p2, d2⟩ := h2
  obtain ⟨p3, d3⟩ := h3
  refine ⟨hpe p1 p2 p3, fun f F H σ ρ Q R Xx E q o ox => ?_⟩
  refine d1 f F H σ ρ _ _ Xx E q (fun c ρ1 F1 H1 q1 E1 s1 => ?_) ox
  cases c with
  | true => exact d2 f F1 H1 σ ρ1 _ _ Xx E1 q1 (o.sub s1) ox
  | false => exact d3 f F1 H1 σ ρ1 _ _ Xx E1 q1 (o.sub s1) ox
theorem da_nil (h : PA X [] tNil) : DA Γ X W [] tNil aNil := ⟨h, fun f F H σ ρ Q R Xx E q o ox => o [] ρ F H [] q E (Same.refl _) trivial⟩
theorem da_cons {as : AA} (hpe : ∀ {ta : TE} {tr : TA}, PE X e ta → PA X es tr → PA X (e :: es) (tCons ta tr)) {ta : TE} (h1 : DE Γ X W e ta a) {tr : TA} (h2 : DA Γ X W es tr as) : DA Γ X W (e :: es) (tCons ta tr) (aCons a as) := by
  obtain ⟨p1, d1⟩ := h1
  obtain ⟨p2, d2⟩ := h2
  refine ⟨hpe p1 p2, fun f F H σ ρ Q R Xx E q o ox => ?_⟩
  refine d1 f F H σ ρ _ _ Xx E q (fun x ρ1 F1 H1 v1 q1 E1 s1 r1 => ?_) ox
  exact d2 f F1 H1 σ ρ1 _ _ Xx E1 q1 (fun xs ρ2 F2 H2 vs q2 E2 s2 r2 => o _ _ _ _ _ q2 E2 (s1.trans s2) ⟨r1.same s2, r2⟩) ox
theorem da_star {as : AA} {es' : List Expr} (hpe : ∀ {ta : TE} {tr : TA}, PE X e ta → PA X es tr → PA X es' (StX.tStar Γ.K ta tr)) {ta : TE} (h1 : DE Γ X W e ta a) {tr : TA} (h2 : DA Γ X W es tr as) : DA Γ X W es' (StX.tStar Γ.K ta tr) (aStar a as) := by
  obtain ⟨p1, d1⟩ := h1
  obtain ⟨p2, d2⟩ := h2
  refine ⟨hpe p1 p2, fun f F H σ ρ Q R Xx E q o ox => ?_⟩
  refine d1 f F H σ ρ _ _ Xx E q (fun x ρ1 F1 H1 v1 q1 E1 s1 r1 => ?_) ox
  obtain ⟨us, hx, q1'⟩ := dS_of q1
  clear q1; have q1 := q1'
  obtain ⟨p, xs, rfl, hs, hd⟩ : ∃ p xs, v1 = .ref p ∧ (SqT Γ.K H1 p xs ∨ SqL Γ.K H1 p xs) ∧ DqAll Γ.K F1 xs us := by
    rcases hx with rfl | rfl
    · cases r1 with | lst hs ha => exact ⟨_, _, rfl, .inr (.of (E1.s1 _ _ hs)), ha⟩
    · cases r1 with | tup hs ha => exact ⟨_, _, rfl, .inl (Same.tup E1.s1 hs), ha⟩
  refine ⟨p, xs, rfl, hs, ?_⟩
  exact d2 f F1 H1 σ ρ1 _ _ Xx E1 q1 (fun ys ρ2 F2 H2 vs q2 E2 s2 r2 => o _ _ _ _ _ q2 E2 (s1.trans s2) (RpAll.app (DqAll.rp (DqAll.same s2 us hd)) r2)) ox
theorem de_tup {as : AA} (hpe : ∀ {ta : TA}, PA X es ta → PE X e (tTup ta)) {ta : TA} (h1 : DA Γ X W es ta as) : DE Γ X W e (tTup ta) (eTup as) := by
  obtain ⟨p1, d1⟩ := h1
  refine ⟨hpe p1, fun f F H σ ρ Q R Xx E q o ox => ?_⟩
  refine d1 f F H σ ρ _ _ Xx E q (fun xs ρ1 F1 H1 vs q1 E1 s1 r1 => ?_) ox
  obtain ⟨ds, rfl, hz, q1'⟩ := dAll_of q1
  clear q1; have q1 := q1'
  have hd := r1.dq
  refine ⟨by rw [hd.len]; exact hz, fun p np => ?_⟩
  have nF := E1.fnone np
  exact o _ _ _ _ _ q1 (E1.alloc np) (s1.trans (same_updF nF)) (.tup (.of upd_same) (DqAll.same (same_updF nF) ds hd))
/-- a new list -/
theorem own_new {ds : List PyData} {xs : List V} {p : Addr} (E : Ent Γ f F H σ ρ) (hd : DqAll Γ.K F xs ds) (np : H p = none) : Own1 Γ f F (upd H p (.lst xs)) σ ρ p xs ds :=
  ⟨upd_same, E.fnone np, hd, E.liv p np, E.notOwn np, fun z => E.rl p z np⟩
theorem dl_disp {as : AA} (hpe : ∀ {ta : TA}, PA X es ta → PE X e (tLst ta)) {ta : TA} (h1 : DA Γ X W es ta as) : DL Γ X W e (tLst ta) (lDisp as) := by
  obtain ⟨p1, d1⟩ := h1
  refine ⟨hpe p1, fun f F H σ ρ Q R Xx E q o ox => ?_⟩
  refine d1 f F H σ ρ _ _ Xx E q (fun xs ρ1 F1 H1 vs q1 E1 s1 r1 => ?_) ox
  obtain ⟨ds, rfl, hz, q1'⟩ := dAll_of q1
  clear q1; have q1 := q1'
  have hd := r1.dq
  exact ⟨by rw [hd.len]; exact hz, fun p np => o _ _ _ _ _ _ q1 (E1.raw np) s1 (own_new E1 hd np)⟩
theorem de_fz {l : LL} {t : TE} (h : DL Γ X W e t l) : DE Γ X W e t (eFz l) := by
  obtain ⟨p1, d1⟩ := h
  refine ⟨p1, fun f F H σ ρ Q R Xx E q o ox => ?_⟩
  refine d1 f F H σ ρ _ _ Xx E q (fun ds ρ1 F1 H1 a xs q1 E1 s1 w => ?_) ox
  exact o _ _ _ _ _ q1 (E1.fz w.hF w.hH (.inl w.h0) w.hO w.hR) (s1.trans (same_updF w.hF)) (.lst upd_same (DqAll.same (same_updF w.hF) ds w.hD))
theorem dl_cat (hpe : ∀ {ta tb : TE}, PE X e1 ta → PE X e2 tb → PE X e (tOp rCat ta tb)) {ta : TE} (h1 : DE Γ X W e1 ta a) {tb : TE} (h2 : DE Γ X W e2 tb b) : DL Γ X W e (tOp rCat ta tb) (lCat a b) := by
  obtain ⟨p1, d1⟩ := h1
  obtain ⟨p2, d2⟩ := h2
  refine ⟨hpe p1 p2, fun f F H σ ρ Q R Xx E q o ox => ?_⟩
  refine d1 f F H σ ρ _ _ Xx E q (fun x ρ1 F1 H1 v1 q1 E1 s1 r1 => ?_) ox
  refine d2 f F1 H1 σ ρ1 _ _ Xx E1 q1 (fun y ρ2 F2 H2 v2 q2 E2 s2 r2 => ?_) ox
  obtain ⟨u, rfl, q2'⟩ := dL_of q2
  clear q2; have q2 := q2'
  obtain ⟨w, rfl, hz, q2'⟩ := dL_of q2
  clear q2; have q2 := q2'
  cases r1 with
  | lst hs ha =>
    cases r2 with
    | lst hs' ha' =>
      refine ⟨_, _, _, _, rfl, rfl, E2.s1 _ _ (s2 _ _ hs), E2.s1 _ _ hs', by rw [ha.len, ha'.len]; exact hz, fun p np => ?_⟩
      exact o _ _ _ _ _ _ q2 (E2.raw np) (s1.trans s2) (own_new E2 ((DqAll.same s2 u ha).app ha') np)
def rListOf (K : PySem.W.Frag) : List V → Hp → VK → Prop := fun xs H Q => ∃ p ys, xs = [V.ref p] ∧ (SqL K H p ys ∨ SqT K H p ys) ∧ ∀ l, H l = none → Q (.ref l) (upd H l (.lst ys))
theorem dl_of (hpe : ∀ {ta : TE}, PE X e1 ta → PE X e (tCB (rListOf Γ.K) (tCons ta tNil))) {ta : TE} (h1 : DE Γ X W e1 ta a) : DL Γ X W e (tCB (rListOf Γ.K) (tCons ta tNil)) (lOf a) := by
  obtain ⟨p1, d1⟩ := h1
  refine ⟨hpe p1, fun f F H σ ρ Q R Xx E q o ox => ?_⟩
  refine d1 f F H σ ρ _ _ Xx E q (fun x ρ1 F1 H1 v1 q1 E1 s1 r1 => ?_) ox
  obtain ⟨us, hx, q1'⟩ := dS_of q1
  clear q1; have q1 := q1'
  obtain ⟨p, xs, rfl, hs, hd⟩ : ∃ p xs, v1 = .ref p ∧ (SqL Γ.K H1 p xs ∨ SqT Γ.K H1 p xs) ∧ DqAll Γ.K F1 xs us := by
    rcases hx with rfl | rfl
    · cases r1 with | lst hs ha => exact ⟨_, _, rfl, .inl (.of (E1.s1 _ _ hs)), ha⟩
    · cases r1 with | tup hs ha => exact ⟨_, _, rfl, .inr (Same.tup E1.s1 hs), ha⟩
  exact ⟨p, xs, rfl, hs, fun l nl => o _ _ _ _ _ _ q1 (E1.raw nl) s1 (own_new E1 hd nl)⟩
/-- an optional part of a slice -/
def DO (Γ : Gx) (X : Cx) (W : WX) (e : Option Expr) (t : TO) (ε : Option EE) : Prop := PO X e t ∧ ∀ f F H σ ρ (Q : Option Int → Hp → Prop) (R : Option Int → List Sl → Prop) Xx, Ent Γ f F H σ ρ → dO ε ρ R Xx → (∀ o ρ' F' H', R o ρ' → Ent Γ f F' H' σ ρ' → Same F F' → Q o H') → OutX Γ f W σ Xx → t σ H Q
theorem do_none (h : PO X none tNoPart) : DO Γ X W none tNoPart none := ⟨h, fun f F H σ ρ Q R Xx E q o ox => o _ _ _ _ q E (Same.refl _)⟩
theorem do_some (hpe : ∀ {ta : TE}, PE X e ta → PO X (some e) (tPart ta)) {ta : TE} (h1 : DE Γ X W e ta a) : DO Γ X W (some e) (tPart ta) (some a) := by
  obtain ⟨p1, d1⟩ := h1
  refine ⟨hpe p1, fun f F H σ ρ Q R Xx E q o ox => ?_⟩
  refine d1 f F H σ ρ _ _ Xx E q (fun x ρ1 F1 H1 v1 q1 E1 s1 r1 => ?_) ox
  obtain ⟨k, rfl, q1'⟩ := dI_of q1
  clear q1; have q1 := q1'
  cases r1
  exact ⟨k, rfl, o _ _ _ _ q1 E1 s1⟩
theorem dl_sl {l h : Option Expr} {lo hi : Option EE} (hpe : ∀ {ta : TE} {tl th : TO}, PE X e1 ta → PO X l tl → PO X h th → PE X e (tSl (rSlL Γ.K) ta tl th)) {ta : TE} (h1 : DE Γ X W e1 ta a) {tl : TO} (h2 : DO Γ X W l tl lo) {th : TO} (h3 : DO Γ X W h th hi) : DL Γ X W e (tSl (rSlL Γ.K) ta tl th) (lSl a lo hi) := by
  obtain ⟨p1, d1⟩ := h1
  obtain ⟨p2, d2⟩ := h2
  obtain ⟨p3, d3⟩ := h3
  refine ⟨hpe p1 p2 p3, fun f F H σ ρ Q R Xx E q o ox => ?_⟩
  refine d1 f F H σ ρ _ _ Xx E q (fun x ρ1 F1 H1 v1 q1 E1 s1 r1 => ?_) ox
  obtain ⟨us, rfl, q1'⟩ := dL_of q1
  clear q1; have q1 := q1'
  refine d2 f F1 H1 σ ρ1 _ _ Xx E1 q1 (fun lo' ρ2 F2 H2 q2 E2 s2 => ?_) ox
  refine d3 f F2 H2 σ ρ2 _ _ Xx E2 q2 (fun hi' ρ3 F3 H3 q3 E3 s3 => ?_) ox
  cases r1 with
  | lst hs ha =>
    have s23 := s2.trans s3
    refine ⟨_, _, rfl, .of (E3.s1 _ _ (s23 _ _ hs)), fun p np => ?_⟩
    exact o _ _ _ _ _ _ q3 (E3.raw np) (s1.trans s23) (own_new E3 ((DqAll.same s23 us ha).cut _ _) np)
/-- a built-in by values -/
def CallD (Γ : Gx) (r : List V → Hp → VK → Prop) (p : PL) : Prop := ∀ f F H σ ρ vs xs Q R, Ent Γ f F H σ ρ → RpAll Γ F vs xs → p xs R → (∀ d v F' H', R d → Ent Γ f F' H' σ ρ → Same F F' → Dq Γ.K F' v d → Q v H') → r vs H Q
theorem de_cb {r : List V → Hp → VK → Prop} {p : PL} {as : AA} (hp : CallD Γ r p) (hpe : ∀ {ta : TA}, PA X es ta → PE X e (tCB r ta)) {ta : TA} (h1 : DA Γ X W es ta as) : DE Γ X W e (tCB r ta) (eCB p as) := by
  obtain ⟨p1, d1⟩ := h1
  refine ⟨hpe p1, fun f F H σ ρ Q R Xx E q o ox => ?_⟩
  refine d1 f F H σ ρ _ _ Xx E q (fun xs ρ1 F1 H1 vs q1 E1 s1 r1 => ?_) ox
  exact hp f F1 H1 σ ρ1 vs xs Q _ E1 r1 q1 fun d v F' H' rd E' s' hd => o _ _ _ _ _ rd E' (s1.trans s') hd
theorem de_lenN (hpe : PE X e (tCB (fun xs H Q => ∃ p ys, xs = [V.ref p] ∧ (SqL Γ.K H p ys ∨ SqT Γ.K H p ys) ∧ Q (.int ys.length) H) (tCons (tVar i) tNil))) : DE Γ X W e (tCB (fun xs H Q => ∃ p ys, xs = [V.ref p] ∧ (SqL Γ.K H p ys ∨ SqT Γ.K H p ys) ∧ Q (.int ys.length) H) (tCons (tVar i) tNil)) (eLenN i) := by
  refine ⟨hpe, fun f F H σ ρ Q R Xx E q o ox => ?_⟩
  unfold eLenN at q
  split at q
  · rename_i ds hx
    obtain ⟨a, xs, e1, e2, e3, e4, e5⟩ := E.sl i _ hx
    refine ⟨.ref a, e1, a, xs, rfl, .inl (.of e2), ?_⟩
    rw [e3.len]
    exact o _ _ _ _ _ q E (Same.refl _) (.int _)
  · rename_i x hx
    obtain ⟨u, hu, hr⟩ := E.sl i _ hx
    refine ⟨u, hu, ?_⟩
    unfold pLen at q
    split at q
    · cases hr with
      | lst hs ha => exact ⟨_, _, rfl, .inl (.of (E.s1 _ _ hs)), by rw [ha.len]; exact o _ _ _ _ _ q E (Same.refl _) (.int _)⟩
    · cases hr with
      | tup hs ha => exact ⟨_, _, rfl, .inr (Same.tup E.s1 hs), by rw [ha.len]; exact o _ _ _ _ _ q E (Same.refl _) (.int _)⟩
    · obtain ⟨p, rfl, hs⟩ := hr
      exact ⟨_, _, rfl, .inl (E.s1.seq hs), by rw [List.length_map]; exact o _ _ _ _ _ q E (Same.refl _) (.int _)⟩
    · exact q.elim
  · exact q.elim
theorem de_chain {r r' : R2} {p p' : P2} (hp : OpD Γ r p) (hp' : OpD Γ r' p') (hpe : ∀ {ta tb tc : TE}, PE X e1 ta → PE X e2 tb → PE X e3 tc → PE X e (tChain r r' ta tb tc)) {ta : TE} (h1 : DE Γ X W e1 ta a) {tb : TE} (h2 : DE Γ X W e2 tb b) {tc : TE} (h3 : DE Γ X W e3 tc c) : DE Γ X W e (tChain r r' ta tb tc) (eChain p p' a b c) := by
  obtain ⟨p1, d1⟩ := h1
  obtain ⟨p2, d2⟩ := h2
  obtain ⟨p3, d3⟩ := h3
  refine ⟨hpe p1 p2 p3, fun f F H σ ρ Q R Xx E q o ox => ?_⟩
  refine d1 f F H σ ρ _ _ Xx E q (fun x ρ1 F1 H1 v1 q1 E1 s1 r1 => ?_) ox
  refine d2 f F1 H1 σ ρ1 _ _ Xx E1 q1 (fun y ρ2 F2 H2 v2 q2 E2 s2 r2 => ?_) ox
  obtain ⟨u, rfl, q2'⟩ := dD_of q2
  clear q2; have q2 := q2'
  obtain ⟨w, rfl, q2'⟩ := dD_of q2
  clear q2; have q2 := q2'
  refine hp f F2 H2 σ ρ2 v1 v2 u w _ _ E2 (Dq.same s2 u r1) r2 q2 fun d v F' H' rd E' s' hd => ?_
  obtain ⟨k, ek, rd'⟩ := dB_of rd
  clear rd; have rd := rd'
  cases ek
  cases hd
  refine ⟨k, rfl, ?_⟩
  cases k with
  | false => exact o _ _ _ _ _ rd E' ((s1.trans s2).trans s') (.bl _)
  | true =>
    refine d3 f F' H' σ ρ2 _ _ Xx E' rd (fun z ρ3 F3 H3 v3 q3 E3 s3 r3 => ?_) ox
    obtain ⟨v', rfl, q3'⟩ := dD_of q3
    clear q3; have q3 := q3'
    exact hp' f F3 H3 σ ρ3 v2 v3 w v' _ _ E3 (Dq.same (s'.trans s3) w r2) r3 q3 fun d v F' H' rd E' s'' hd => o _ _ _ _ _ rd E' ((((s1.trans s2).trans s').trans s3).trans s'') hd
theorem ixSK {K : PySem.W.Frag} (h : X.K = K) : IxR X (rIx K) := h ▸ ix_seq
theorem slLK {K : PySem.W.Frag} (h : X.K = K) : L2.SlR X (rSlL K) := h ▸ sl_list
end
end Cc

set_option Elab.async false
set_option linter.all false
set_option maxRecDepth 100000
set_option maxHeartbeats 4000000
/-! The pure layer: statements. -/
namespace Cc
open PySem PySem.Spec PyProof.Rows L2
structure EndsP where
  nx : List Sl → Prop
  rt : A → List Sl → Prop
  bk : List Sl → Prop
  ct : List Sl → Prop
  ex : XX
abbrev SS := List Sl → EndsP → Prop
abbrev GG := A → List Sl → (List Sl → Prop) → Prop
abbrev GGs := List PyData → List Sl → (List Sl → Prop) → Prop
abbrev II := List Sl → (List A → List Sl → Prop) → XX → Prop
structure OutS (Γ : Gx) (f : Fr) (W : WX) (F : Hp) (P : EndsP) (D : Ends) : Prop where
  nx : ∀ σ ρ F' H', P.nx ρ → Ent Γ f F' H' σ ρ → Same F F' → D.nx σ H'
  rt : ∀ x σ ρ F' H' v, P.rt x ρ → Ent Γ f F' H' σ ρ → Same F F' → Rp Γ F' v x → D.rt v H'
  bk : ∀ σ ρ F' H', P.bk ρ → Ent Γ f F' H' σ ρ → Same F F' → D.bk σ H'
  ct : ∀ σ ρ F' H', P.ct ρ → Ent Γ f F' H' σ ρ → Same F F' → D.ct σ H'
  ex : ∀ σ, OutX Γ f W σ P.ex
def DenS (Γ : Gx) (W : WX) (t : TS) (κ : SS) : Prop := ∀ f F H σ ρ P D, Ent Γ f F H σ ρ → κ ρ P → OutS Γ f W F P D → t D σ H
def DS (Γ : Gx) (X : Cx) (W : WX) (st : Stmt) (t : TS) (κ : SS) : Prop := PS X st t ∧ DenS Γ W t κ
def DSs (Γ : Gx) (X : Cx) (W : WX) (st : List Stmt) (t : TS) (κ : SS) : Prop := PSs X st t ∧ DenS Γ W t κ
def DenG (Γ : Gx) (g : TG) (γ : GG) (gs : List Nat) : Prop := ∀ f F H σ ρ v x (Q : L2.St → Hp → Prop) R, Ent Γ f F H σ ρ → Rp Γ F v x → γ x ρ R → (∀ σ' ρ' F' H', R ρ' → Ent Γ f F' H' σ' ρ' → Same F F' → σ'.length = σ.length → (∀ j, j ∉ gs → σ'[j]? = σ[j]?) → Q σ' H') → g v σ H Q
def DenGs (Γ : Gx) (g : TGs) (γ : GGs) (gs : List Nat) : Prop := ∀ f F H σ ρ vs xs (Q : L2.St → Hp → Prop) R, Ent Γ f F H σ ρ → DqAll Γ.K F vs xs → γ xs ρ R → (∀ σ' ρ' F' H', R ρ' → Ent Γ f F' H' σ' ρ' → Same F F' → σ'.length = σ.length → (∀ j, j ∉ gs → σ'[j]? = σ[j]?) → Q σ' H') → g vs σ H Q
def DG (Γ : Gx) (X : Cx) (e : Expr) (t : TG) (γ : GG) (gs : List Nat) : Prop := PG X e t ∧ DenG Γ t γ gs
def DGs (Γ : Gx) (X : Cx) (e : List Expr) (t : TGs) (γ : GGs) (gs : List Nat) : Prop := PGs X e t ∧ DenGs Γ t γ gs
/-- an iterator gives xs -/
structure JOk (Γ : Gx) (F : Hp) (J : It) (xs : List A) : Prop where
  go : ∀ i H, Same F H → i < xs.length → J.go i H
  stop : ∀ i H, Same F H → xs.length ≤ i → J.stop i H
  yld : ∀ i H v H', Same F H → i < xs.length → J.yld i H v H' → ∃ x, xs[i]? = some x ∧ ((H' = H ∧ Rp Γ F v x) ∨ ∃ T o, H T = none ∧ H' = upd H T o ∧ smpl o ∧ ∀ F', Same F F' → F' T = none → Rp Γ (upd F' T o) v x)
def DenI (Γ : Gx) (W : WX) (wi : TI) (ι : II) : Prop := ∀ f F H σ ρ (G : It → Hp → Prop) R Xx, Ent Γ f F H σ ρ → ι ρ R Xx → (∀ xs ρ' F' H' J, R xs ρ' → Ent Γ f F' H' σ ρ' → Same F F' → JOk Γ F' J xs → G J H') → OutX Γ f W σ Xx → wi σ H G
def DI (Γ : Gx) (X : Cx) (W : WX) (tg e : Expr) (t : TI) (ι : II) : Prop := PI X tg e t ∧ DenI Γ W t ι

/-! ### meanings -/
def sSeq (a b : SS) : SS := fun ρ P => a ρ { P with nx := fun ρ1 => b ρ1 P }
def sNext : SS := fun ρ P => P.nx ρ
def sBrk : SS := fun ρ P => P.bk ρ
def sCnt : SS := fun ρ P => P.ct ρ
def sAsg (e : EE) (g : GG) : SS := fun ρ P => e ρ (fun x ρ1 => g x ρ1 P.nx) P.ex
def sSetO (i : Nat) (l : LL) : SS := fun ρ P => l ρ (fun ds ρ1 => P.nx (ρ1.set i (.own ds))) P.ex
def gNm (i : Nat) : GG := fun x ρ R => R (ρ.set i (.a x))
def gTp (n : Nat) (g : GGs) : GG := fun x ρ R => dD x fun d => match d with | .tuple ds => ds.length = n ∧ g ds ρ R | _ => False
def gsNil : GGs := fun ds ρ R => match ds with | [] => R ρ | _ => False
def gsCons (g : GG) (h : GGs) : GGs := fun ds ρ R => match ds with | d :: ds => g (.d d) ρ fun ρ1 => h ds ρ1 R | [] => False
def gSubO (i : Nat) (e : EE) : GG := fun x ρ R => dD x fun d => (∃ ds, ρ[i]? = some (.own ds)) ∧ e ρ (fun y ρ1 => dI y fun k => match ρ1[i]? with | some (.own ds) => ∃ j, ixN ds.length k = some j ∧ R (ρ1.set i (.own (ds.set j d))) | _ => False) (fun _ _ _ => False)
def sPar (i j : Nat) (as : AA) : SS := fun ρ P => as ρ (fun xs ρ1 => match xs with | [x, y] => P.nx ((ρ1.set i (.a x)).set j (.a y)) | _ => False) P.ex
def sAug (i : Nat) (g : Int → Int → Int) (e : EE) : SS := fun ρ P => match ρ[i]? with
  | some (.a x) => dI x fun a => e ρ (fun y ρ1 => dI y fun b => P.nx (ρ1.set i (.a (.d (.int (g a b)))))) P.ex
  | _ => False
def sExpr (e : EE) : SS := fun ρ P => e ρ (fun _ ρ1 => P.nx ρ1) P.ex
def sApp (i : Nat) (e : EE) : SS := fun ρ P => (∃ ds, ρ[i]? = some (.own ds)) ∧ e ρ (fun y ρ1 => dD y fun d => match ρ1[i]? with | some (.own ds) => szL (ds.length + 1) ∧ P.nx (ρ1.set i (.own (ds ++ [d]))) | _ => False) P.ex
def sExt (i : Nat) (e : EE) : SS := fun ρ P => (∃ ds, ρ[i]? = some (.own ds)) ∧ e ρ (fun y ρ1 => dL y fun es => match ρ1[i]? with | some (.own ds) => szL (ds.length + es.length) ∧ P.nx (ρ1.set i (.own (ds ++ es))) | _ => False) P.ex
def sIf (t : BB) (a b : SS) : SS := fun ρ P => t ρ (fun c ρ1 => if c = true then a ρ1 P else b ρ1 P) P.ex
def sRet (e : EE) : SS := fun ρ P => e ρ P.rt P.ex
def sRetN : SS := fun ρ P => P.rt (.d .none) ρ
/-- what is left of a loop over xs -/
def LoopP (xs : List A) (g : GG) (b : SS) (P : EndsP) (ρ : List Sl) : Prop := ∃ Inv : Nat → List Sl → Prop, Inv 0 ρ ∧ (∀ i x ρ1, xs[i]? = some x → Inv i ρ1 → g x ρ1 fun ρ2 => b ρ2 { P with nx := Inv (i + 1), ct := Inv (i + 1), bk := P.nx }) ∧ ∀ ρ1, Inv xs.length ρ1 → P.nx ρ1
def sFor (ι : II) (g : GG) (b : SS) : SS := fun ρ P => ι ρ (fun xs ρ1 => LoopP xs g b P ρ1) P.ex
def WhileP (t : BB) (b : SS) (P : EndsP) (ρ : List Sl) : Prop := ∃ Inv : Nat → List Sl → Prop, (∃ m, Inv m ρ) ∧ ∀ m ρ1, Inv m ρ1 → t ρ1 (fun c ρ2 => if c = true then b ρ2 { P with nx := fun ρ3 => ∃ m', m' < m ∧ Inv m' ρ3, ct := fun ρ3 => ∃ m', m' < m ∧ Inv m' ρ3, bk := P.nx } else P.nx ρ2) P.ex
def sWhile (t : BB) (b : SS) : SS := fun ρ P => WhileP t b P ρ
def iSeq (e : EE) : II := fun ρ R Xx => e ρ (fun x ρ1 => match x with
  | .d (.list ds) => R (ds.map A.d) ρ1
  | .scr ns => R (ns.map fun n => A.d (.int n)) ρ1
  | _ => False) Xx
def iTp (e : EE) : II := fun ρ R Xx => e ρ (fun x ρ1 => match x with
  | .d (.tuple ds) => R (ds.map A.d) ρ1
  | _ => False) Xx
def rngA (lo : Int) (n : Nat) : List A := (List.range n).map fun i => A.d (.int (lo + (i : Nat)))
def iR1 (e : EE) : II := fun ρ R Xx => e ρ (fun x ρ1 => dI x fun k => -(2 ^ 62) ≤ k ∧ k < 2 ^ 62 ∧ R (rngA 0 k.toNat) ρ1) Xx
def iR2 (e e' : EE) : II := fun ρ R Xx => e ρ (fun x ρ1 => e' ρ1 (fun y ρ2 => dI x fun i => dI y fun j => (-(2 ^ 62) ≤ i ∧ i < 2 ^ 62 ∧ -(2 ^ 62) ≤ j ∧ j < 2 ^ 62) ∧ R (rngA i (j - i).toNat) ρ2) Xx) Xx
def enA (ds : List PyData) : List A := ds.mapIdx fun i d => A.d (.tuple [.int (i : Nat), d])
def iEn (e : EE) : II := fun ρ R Xx => e ρ (fun x ρ1 => dL x fun ds => R (enA ds) ρ1) Xx
def zipA (ds es : List PyData) : List A := (List.zip ds es).map fun p => A.d (.tuple [p.1, p.2])
def iZp (e e' : EE) : II := fun ρ R Xx => e ρ (fun x ρ1 => e' ρ1 (fun y ρ2 => match x, y with
  | .d (.list ds), .d (.list es) => R (zipA ds es) ρ2
  | .d (.tuple ds), .d (.tuple es) => R (zipA ds es) ρ2
  | _, _ => False) Xx) Xx
def wipeP (ρ : List Sl) : List Nat → List Sl
  | [] => ρ
  | v :: vs => (wipeP ρ vs).set v .un
def plainS : Option Sl → Prop
  | some .un => True
  | some (.a _) => True
  | none => True
  | _ => False
def restP (ρ0 : List Sl) : List Nat → List Sl → List Sl
  | [], ρ => ρ
  | v :: vs, ρ => restP ρ0 vs (ρ.set v (ρ0[v]?.getD .un))
def noX : XX := fun _ _ _ => False
def LcP (xs : List A) (g : GG) (t : BB) (e : EE) (vs : List Nat) (R : List PyData → List Sl → Prop) (ρ : List Sl) : Prop := (∀ v ∈ vs, plainS ρ[v]?) ∧ ∃ Inv : Nat → List PyData → List Sl → Prop, Inv 0 [] (wipeP ρ vs) ∧
  (∀ i x acc ρ1, xs[i]? = some x → Inv i acc ρ1 → g x ρ1 fun ρ2 => t ρ2 (fun b ρ3 => if b = true then e ρ3 (fun y ρ4 => dD y fun d => szL (acc.length + 1) ∧ Inv (i + 1) (acc ++ [d]) (wipeP ρ4 vs)) noX else Inv (i + 1) acc (wipeP ρ3 vs)) noX) ∧
  ∀ acc ρ1, Inv xs.length acc ρ1 → R acc (restP ρ vs ρ1)
def lLc (ι : II) (g : GG) (t : BB) (e : EE) (vs : List Nat) : LL := fun ρ R Xx => ι ρ (fun xs ρ1 => LcP xs g t e vs R ρ1) Xx
def bYes : BB := fun ρ R _ => R true ρ

section
variable {Γ : Gx} {X : Cx} {W : WX} {f : Fr} {F H F' H' : Hp} {σ σ' : L2.St} {ρ ρ' : List Sl} {x : A} {v : V} {d : PyData} {e e1 e2 e3 tg : Expr} {a b c : EE} {i j : Nat} {es : List Expr} {pos : Pos} {st : Stmt} {sts sts' : List Stmt} {k k' : SS} {t : BB} {g : GG} {gs : List Nat} {l : LL} {P : EndsP} {D : Ends}
theorem OutS.sub (o : OutS Γ f W F P D) (s : Same F F') : OutS Γ f W F' P D :=
  ⟨fun σ ρ F1 H1 p E q => o.nx σ ρ F1 H1 p E (s.trans q), fun x σ ρ F1 H1 v p E q r => o.rt x σ ρ F1 H1 v p E (s.trans q) r, fun σ ρ F1 H1 p E q => o.bk σ ρ F1 H1 p E (s.trans q), fun σ ρ F1 H1 p E q => o.ct σ ρ F1 H1 p E (s.trans q), o.ex⟩
theorem dss_one (hpe : ∀ {t : TS}, PS X st t → PSs X [st] t) {t : TS} (h : DS Γ X W st t k) : DSs Γ X W [st] t k := by
  obtain ⟨p, d⟩ := h
  exact ⟨hpe p, d⟩
theorem dss_nil (hpe : PSs X [] tNext) : DSs Γ X W [] tNext sNext := ⟨hpe, fun f F H σ ρ P D E q o => o.nx _ _ _ _ q E (Same.refl _)⟩
theorem dss_cons (hpe : ∀ {t u : TS}, PS X st t → PSs X sts u → PSs X (st :: sts) (tSeq t u)) {t : TS} (h : DS Γ X W st t k) {u : TS} (h' : DSs Γ X W sts u k') : DSs Γ X W (st :: sts) (tSeq t u) (sSeq k k') := by
  obtain ⟨p, d⟩ := h
  obtain ⟨p', d'⟩ := h'
  refine ⟨hpe p p', fun f F H σ ρ P D E q o => ?_⟩
  exact d f F H σ ρ { P with nx := fun ρ1 => k' ρ1 P } { D with nx := u D } E q ⟨fun σ1 ρ1 F1 H1 q1 E1 s1 => d' f F1 H1 σ1 ρ1 P D E1 q1 (o.sub s1), o.rt, o.bk, o.ct, o.ex⟩
theorem ds_pass (hpe : PS X st tNext) : DS Γ X W st tNext sNext := ⟨hpe, fun f F H σ ρ P D E q o => o.nx _ _ _ _ q E (Same.refl _)⟩
theorem ds_brk (hpe : PS X st tBreak) : DS Γ X W st tBreak sBrk := ⟨hpe, fun f F H σ ρ P D E q o => o.bk _ _ _ _ q E (Same.refl _)⟩
theorem ds_cnt (hpe : PS X st tCont) : DS Γ X W st tCont sCnt := ⟨hpe, fun f F H σ ρ P D E q o => o.ct _ _ _ _ q E (Same.refl _)⟩
theorem den_gName : DenG Γ (gName i) (gNm i) [i] := fun f F H σ ρ v x Q R E r q o => by
  refine o _ _ F H q (E.setA r) (Same.refl _) (List.length_set ..) fun j hj => ?_
  rw [List.getElem?_set_ne]
  simpa [eq_comm] using hj
theorem dg_name (hpe : PG X e (gName i)) : DG Γ X e (gName i) (gNm i) [i] := ⟨hpe, den_gName⟩
theorem dgs_nil (hpe : PGs X [] gNil) : DGs Γ X [] gNil gsNil [] := ⟨hpe, fun f F H σ ρ vs xs Q R E r q o => by
  cases xs with
  | nil => cases r; exact ⟨rfl, o _ _ F H q E (Same.refl _) rfl fun _ _ => rfl⟩
  | cons d ds => exact q.elim⟩
theorem dgs_cons {γ : GG} {γs : GGs} {gs' : List Nat} (hpe : ∀ {g : TG} {g' : TGs}, PG X e g → PGs X es g' → PGs X (e :: es) (gCons g g')) {g : TG} {g' : TGs} (h : DG Γ X e g γ gs) (h' : DGs Γ X es g' γs gs') : DGs Γ X (e :: es) (gCons g g') (gsCons γ γs) (gs ++ gs') := by
  obtain ⟨p, d⟩ := h
  obtain ⟨p', d'⟩ := h'
  refine ⟨hpe p p', fun f F H σ ρ vs xs Q R E r q o => ?_⟩
  cases xs with
  | nil => exact q.elim
  | cons y ys =>
    cases r with
    | cons r1 r2 =>
      refine ⟨_, _, rfl, ?_⟩
      refine d f F H σ ρ _ (.d y) _ _ E r1 q fun σ1 ρ1 F1 H1 q1 E1 s1 l1 k1 => ?_
      refine d' f F1 H1 σ1 ρ1 _ ys _ _ E1 (DqAll.same s1 ys r2) q1 fun σ2 ρ2 F2 H2 q2 E2 s2 l2 k2 => ?_
      refine o _ _ _ _ q2 E2 (s1.trans s2) (l2.trans l1) fun j hj => ?_
      rw [List.mem_append, not_or] at hj
      exact (k2 j hj.2).trans (k1 j hj.1)
theorem dg_tup {γs : GGs} {n : Nat} (hpe : ∀ {g : TGs}, PGs X es g → PG X e (gTup Γ.K n g)) {g : TGs} (h : DGs Γ X es g γs gs) : DG Γ X e (gTup Γ.K n g) (gTp n γs) gs := by
  obtain ⟨p, d⟩ := h
  refine ⟨hpe p, fun f F H σ ρ v x Q R E r q o => ?_⟩
  obtain ⟨u, rfl, q'⟩ := dD_of q
  clear q
  cases u <;> try exact False.elim q'
  cases r with
  | tup hs ha => exact ⟨_, _, rfl, Same.tup E.s1 hs, by rw [ha.len]; exact q'.1, d f F H σ ρ _ _ Q R E ha q'.2 o⟩
theorem ds_asg {γ : GG} {te : Expr} (hpe : ∀ {t : TE} {g : TG}, PE X e t → PG X te g → PS X st (tAsg t g)) {t : TE} {g : TG} (h : DE Γ X W e t a) (h' : DG Γ X te g γ gs) : DS Γ X W st (tAsg t g) (sAsg a γ) := by
  obtain ⟨p, d⟩ := h
  obtain ⟨p', d'⟩ := h'
  refine ⟨hpe p p', fun f F H σ ρ P D E q o => ?_⟩
  refine d f F H σ ρ _ _ P.ex E q (fun x ρ1 F1 H1 v1 q1 E1 s1 r1 => ?_) (o.ex σ)
  exact d' f F1 H1 σ ρ1 v1 x _ _ E1 r1 q1 fun σ2 ρ2 F2 H2 q2 E2 s2 _ _ => o.nx _ _ _ _ q2 E2 (s1.trans s2)
theorem ds_set (hpe : ∀ {t : TE}, PE X e t → PS X st (tAsg t (gName i))) {t : TE} (h : DE Γ X W e t a) : DS Γ X W st (tAsg t (gName i)) (sAsg a (gNm i)) := by
  obtain ⟨p, d⟩ := h
  refine ⟨hpe p, fun f F H σ ρ P D E q o => ?_⟩
  refine d f F H σ ρ _ _ P.ex E q (fun x ρ1 F1 H1 v1 q1 E1 s1 r1 => ?_) (o.ex σ)
  exact den_gName f F1 H1 σ ρ1 v1 x _ _ E1 r1 q1 fun σ2 ρ2 F2 H2 q2 E2 s2 _ _ => o.nx _ _ _ _ q2 E2 (s1.trans s2)
theorem ds_setO (hpe : ∀ {t : TE}, PE X e t → PS X st (tAsg t (gName i))) {t : TE} (h : DL Γ X W e t l) : DS Γ X W st (tAsg t (gName i)) (sSetO i l) := by
  obtain ⟨p, d⟩ := h
  refine ⟨hpe p, fun f F H σ ρ P D E q o => ?_⟩
  refine d f F H σ ρ _ _ P.ex E q (fun ds ρ1 F1 H1 a xs q1 E1 s1 w => ?_) (o.ex σ)
  exact o.nx _ _ _ _ q1 (E1.setO w.hH w.hD w.hF (.inl w.h0) w.hO w.hR) s1
theorem ds_par {as : AA} (hpe : ∀ {ta : TA}, PA X es ta → PS X st (tPar i j ta)) {t : TA} (h : DA Γ X W es t as) : DS Γ X W st (tPar i j t) (sPar i j as) := by
  obtain ⟨p, d⟩ := h
  refine ⟨hpe p, fun f F H σ ρ P D E q o => ?_⟩
  refine d f F H σ ρ _ _ P.ex E q (fun xs ρ1 F1 H1 vs q1 E1 s1 r1 => ?_) (o.ex σ)
  match xs, vs, q1, r1 with
  | [x, y], [u, w], q1, r1 => exact ⟨u, w, rfl, o.nx _ _ _ _ q1 ((E1.setA r1.1).setA r1.2.1) s1⟩
  | [_, _], [], _, r1 => exact r1.elim
  | [_, _], [_], _, r1 => exact r1.2.elim
  | [_, _], _ :: _ :: _ :: _, _, r1 => exact r1.2.2.elim
  | [], _, q1, _ => exact q1.elim
  | [_], _, q1, _ => exact q1.elim
  | _ :: _ :: _ :: _, _, q1, _ => exact q1.elim
theorem dg_subO {te : Expr} (hpe : ∀ {t : TE}, PE X e t → PG X te (gSub (tVar i) t rSetL)) {t : TE} (h : DE Γ X (fun _ _ _ _ => False) e t a) : DG Γ X te (gSub (tVar i) t rSetL) (gSubO i a) [] := by
  obtain ⟨p, d⟩ := h
  refine ⟨hpe p, fun f F H σ ρ v x Q R E r q o => ?_⟩
  obtain ⟨u, rfl, q'⟩ := dD_of q
  clear q
  obtain ⟨⟨ds, hi⟩, q⟩ := q'
  obtain ⟨p0, xs, e1, e2, e3, e4, e5⟩ := E.sl i _ hi
  refine ⟨.ref p0, e1, ?_⟩
  refine d f F H σ ρ _ _ noX E q (fun y ρ1 F1 H1 v1 q1 E1 s1 r1 => ?_) (fun _ _ _ _ _ _ _ z => z.elim)
  obtain ⟨k, rfl, q1'⟩ := dI_of q1
  clear q1
  split at q1'
  · rename_i ds' hx'
    obtain ⟨j, hj, q2⟩ := q1'
    obtain ⟨a', xs', f1, f2, f3, f4, f5⟩ := E1.sl i _ hx'
    rw [e1] at f1
    cases f1
    cases r1
    refine ⟨_, _, _, j, rfl, rfl, f2, by rw [f3.len]; exact hj, ?_⟩
    exact o _ _ _ _ q2 (E1.mutO hx' e1 (f3.set (Dq.same s1 u r) j)) s1 rfl fun _ _ => rfl
  · exact q1'.elim
theorem ds_aug {gi : Int → Int → Int} (hpe : ∀ {t : TE}, PE X e t → PS X st (tAug i t (ipI gi))) {t : TE} (h : DE Γ X W e t a) : DS Γ X W st (tAug i t (ipI gi)) (sAug i gi a) := by
  obtain ⟨p, d⟩ := h
  refine ⟨hpe p, fun f F H σ ρ P D E q o => ?_⟩
  unfold sAug at q
  split at q
  · rename_i x hx
    obtain ⟨u, hu, hr⟩ := E.sl i _ hx
    obtain ⟨k, rfl, q'⟩ := dI_of q
    clear q
    cases hr
    refine ⟨_, hu, ?_⟩
    refine d f F H σ ρ _ _ P.ex E q' (fun y ρ1 F1 H1 v1 q1 E1 s1 r1 => ?_) (o.ex σ)
    obtain ⟨k', rfl, q1'⟩ := dI_of q1
    cases r1
    exact ⟨_, _, rfl, rfl, o.nx _ _ _ _ q1' (E1.setA (.int _)) s1⟩
  · exact q.elim
theorem ds_expr (hpe : ∀ {t : TE}, PE X e t → PS X st (tDrop t)) {t : TE} (h : DE Γ X W e t a) : DS Γ X W st (tDrop t) (sExpr a) := by
  obtain ⟨p, d⟩ := h
  refine ⟨hpe p, fun f F H σ ρ P D E q o => ?_⟩
  exact d f F H σ ρ _ _ P.ex E q (fun x ρ1 F1 H1 v1 q1 E1 s1 r1 => o.nx _ _ _ _ q1 E1 s1) (o.ex σ)
theorem ds_app (hpe : ∀ {t : TE}, PE X e t → PS X st (tDrop (tBM Γ.K "list" rAppend (tVar i) (tCons t tNil)))) {t : TE} (h : DE Γ X W e t a) : DS Γ X W st (tDrop (tBM Γ.K "list" rAppend (tVar i) (tCons t tNil))) (sApp i a) := by
  obtain ⟨p, d⟩ := h
  refine ⟨hpe p, fun f F H σ ρ P D E q o => ?_⟩
  obtain ⟨⟨ds, hi⟩, q⟩ := q
  obtain ⟨p0, xs, e1, e2, e3, e4, e5⟩ := E.sl i _ hi
  refine ⟨.ref p0, e1, x_tyL (.of e2), ?_⟩
  refine d f F H σ ρ _ _ P.ex E q (fun y ρ1 F1 H1 v1 q1 E1 s1 r1 => ?_) (o.ex σ)
  obtain ⟨u, rfl, q1'⟩ := dD_of q1
  clear q1
  split at q1'
  · rename_i ds' hx'
    obtain ⟨hz, q2⟩ := q1'
    obtain ⟨a', xs', f1, f2, f3, f4, f5⟩ := E1.sl i _ hx'
    rw [e1] at f1
    cases f1
    refine ⟨_, _, _, rfl, rfl, f2, by rw [f3.len]; exact hz, ?_⟩
    exact o.nx _ _ _ _ q2 (E1.mutO hx' e1 (f3.app (.one r1))) s1
  · exact q1'.elim
theorem ds_ext (hpe : ∀ {t : TE}, PE X e t → PS X st (tDrop (tBM Γ.K "list" rExtend (tVar i) (tCons t tNil)))) {t : TE} (h : DE Γ X W e t a) : DS Γ X W st (tDrop (tBM Γ.K "list" rExtend (tVar i) (tCons t tNil))) (sExt i a) := by
  obtain ⟨p, d⟩ := h
  refine ⟨hpe p, fun f F H σ ρ P D E q o => ?_⟩
  obtain ⟨⟨ds, hi⟩, q⟩ := q
  obtain ⟨p0, xs, e1, e2, e3, e4, e5⟩ := E.sl i _ hi
  refine ⟨.ref p0, e1, x_tyL (.of e2), ?_⟩
  refine d f F H σ ρ _ _ P.ex E q (fun y ρ1 F1 H1 v1 q1 E1 s1 r1 => ?_) (o.ex σ)
  obtain ⟨u, rfl, q1'⟩ := dL_of q1
  clear q1
  split at q1'
  · rename_i ds' hx'
    obtain ⟨hz, q2⟩ := q1'
    obtain ⟨a', xs', f1, f2, f3, f4, f5⟩ := E1.sl i _ hx'
    rw [e1] at f1
    cases f1
    cases r1 with
    | lst hs ha =>
      refine ⟨_, _, _, _, rfl, rfl, f2, E1.s1 _ _ hs, by rw [f3.len, ha.len]; exact hz, ?_⟩
      exact o.nx _ _ _ _ q2 (E1.mutO hx' e1 (f3.app ha)) s1
  · exact q1'.elim
theorem ds_if (hpe : ∀ {t : TT} {ta tb : TS}, PT X e t → PSs X sts ta → PSs X sts' tb → PS X st (tIfS t ta tb)) {tt : TT} (h : DT Γ X W e tt t) {ta : TS} (h1 : DSs Γ X W sts ta k) {tb : TS} (h2 : DSs Γ X W sts' tb k') : DS Γ X W st (tIfS tt ta tb) (sIf t k k') := by
  obtain ⟨p, d⟩ := h
  obtain ⟨p1, d1⟩ := h1
  obtain ⟨p2, d2⟩ := h2
  refine ⟨hpe p p1 p2, fun f F H σ ρ P D E q o => ?_⟩
  refine d f F H σ ρ _ _ P.ex E q (fun c ρ1 F1 H1 q1 E1 s1 => ?_) (o.ex σ)
  cases c with
  | true => exact d1 f F1 H1 σ ρ1 P D E1 q1 (o.sub s1)
  | false => exact d2 f F1 H1 σ ρ1 P D E1 q1 (o.sub s1)
theorem ds_ret (hpe : ∀ {t : TE}, PE X e t → PS X st (tRet t)) {t : TE} (h : DE Γ X W e t a) : DS Γ X W st (tRet t) (sRet a) := by
  obtain ⟨p, d⟩ := h
  refine ⟨hpe p, fun f F H σ ρ P D E q o => ?_⟩
  exact d f F H σ ρ _ _ P.ex E q (fun x ρ1 F1 H1 v1 q1 E1 s1 r1 => o.rt _ _ _ _ _ _ q1 E1 s1 r1) (o.ex σ)
theorem ds_retN (hpe : PS X st tRetN) : DS Γ X W st tRetN sRetN := ⟨hpe, fun f F H σ ρ P D E q o => o.rt _ _ _ _ _ _ q E (Same.refl _) .non⟩
/-! ### what is walked -/
theorem seqL_eq {K : PySem.W.Frag} {F H : Hp} {a : Addr} {xs ys : List V} (h : F a = some (.lst xs)) (s : Same F H) (i : Nat) (x : V) (hx : ∀ ys, SqL K H a ys → ys[i]? = some x) : xs[i]? = some x := hx xs (.of (s _ _ h))
theorem jok_list {a : Addr} {xs : List V} {ds : List PyData} (h : F a = some (.lst xs)) (hd : DqAll Γ.K F xs ds) : JOk Γ F (Itl Γ.K a) (ds.map A.d) where
  go i H s hi := by
    rw [List.length_map, ← hd.len] at hi
    exact ⟨xs, xs[i], .of (s _ _ h), List.getElem?_eq_getElem hi⟩
  stop i H s hi := by
    rw [List.length_map, ← hd.len] at hi
    exact ⟨xs, .of (s _ _ h), hi⟩
  yld i H v H' s hil y := by
    obtain ⟨rfl, y⟩ := y
    obtain ⟨d, hx, hv⟩ := hd.getV (y xs (.of (s _ _ h)))
    exact ⟨.d d, by rw [List.getElem?_map, hx]; rfl, .inl ⟨rfl, hv⟩⟩
theorem jok_tup {a : Addr} {xs : List V} {ds : List PyData} (h : SqT Γ.K F a xs) (hd : DqAll Γ.K F xs ds) : JOk Γ F (Itt Γ.K a) (ds.map A.d) where
  go i H s hi := by
    rw [List.length_map, ← hd.len] at hi
    exact ⟨xs, xs[i], Same.tup s h, List.getElem?_eq_getElem hi⟩
  stop i H s hi := by
    rw [List.length_map, ← hd.len] at hi
    exact ⟨xs, Same.tup s h, hi⟩
  yld i H v H' s hil y := by
    obtain ⟨rfl, y⟩ := y
    obtain ⟨d, hx, hv⟩ := hd.getV (y xs (Same.tup s h))
    exact ⟨.d d, by rw [List.getElem?_map, hx]; rfl, .inl ⟨rfl, hv⟩⟩
theorem jok_scr {a : Addr} {ns : List Int} (h : SqL Γ.K F a (ns.map V.int)) : JOk Γ F (Itl Γ.K a) (ns.map fun n => A.d (.int n)) where
  go i H s hi := by
    rw [List.length_map] at hi
    exact ⟨_, .int ns[i], s.seq h, by rw [List.getElem?_map, List.getElem?_eq_getElem hi]; rfl⟩
  stop i H s hi := by
    rw [List.length_map] at hi
    exact ⟨_, s.seq h, by rw [List.length_map]; exact hi⟩
  yld i H v H' s hil y := by
    obtain ⟨rfl, y⟩ := y
    have e := y _ (s.seq h)
    rw [List.getElem?_map] at e
    obtain ⟨n, hn, rfl⟩ := Option.map_eq_some_iff.mp e
    exact ⟨.d (.int n), by rw [List.getElem?_map, hn]; rfl, .inl ⟨rfl, .int n⟩⟩
theorem rngA_len {lo : Int} {n : Nat} : (rngA lo n).length = n := by unfold rngA; rw [List.length_map, List.length_range]
theorem rngA_get {lo : Int} {n i : Nat} (h : i < n) : (rngA lo n)[i]? = some (.d (.int (lo + (i : Nat)))) := by
  unfold rngA
  rw [List.getElem?_map, List.getElem?_range h]
  rfl
theorem jok_rng {lo : Int} {n : Nat} : JOk Γ F (Itr lo n) (rngA lo n) where
  go i H s hi := by
    rw [rngA_len] at hi
    exact hi
  stop i H s hi := by
    rw [rngA_len] at hi
    exact hi
  yld i H v H' s hil y := by
    obtain ⟨rfl, rfl⟩ := y
    rw [rngA_len] at hil
    exact ⟨_, rngA_get hil, .inl ⟨rfl, .int _⟩⟩
theorem enA_len {ds : List PyData} : (enA ds).length = ds.length := by unfold enA; rw [List.length_mapIdx]
theorem enA_get {ds : List PyData} {i : Nat} {d : PyData} (h : ds[i]? = some d) : (enA ds)[i]? = some (.d (.tuple [.int (i : Nat), d])) := by
  unfold enA
  rw [List.getElem?_mapIdx, h]
  rfl
theorem jok_en {a : Addr} {xs : List V} {ds : List PyData} (h : F a = some (.lst xs)) (hd : DqAll Γ.K F xs ds) : JOk Γ F (Ite Γ.K a) (enA ds) where
  go i H s hi := by
    rw [enA_len, ← hd.len] at hi
    exact ⟨xs, xs[i], .of (s _ _ h), List.getElem?_eq_getElem hi⟩
  stop i H s hi := by
    rw [enA_len, ← hd.len] at hi
    exact ⟨xs, .of (s _ _ h), hi⟩
  yld i H v H' s hil y := by
    obtain ⟨T, x, rfl, nT, rfl, y⟩ := y
    obtain ⟨d, hx, hv⟩ := hd.getV (y xs (.of (s _ _ h)))
    refine ⟨_, enA_get hx, .inr ⟨T, _, nT, rfl, trivial, fun F' sF nF => ?_⟩⟩
    exact .tup (.of upd_same) (.cons (.int _) (.cons (Dq.same (sF.trans (same_updF nF)) d hv) .nil))
theorem zipA_len {ds es : List PyData} : (zipA ds es).length = min ds.length es.length := by unfold zipA; rw [List.length_map, List.length_zip]
theorem zipA_get {ds es : List PyData} {i : Nat} {d u : PyData} (h : ds[i]? = some d) (h' : es[i]? = some u) : (zipA ds es)[i]? = some (.d (.tuple [d, u])) := by
  unfold zipA
  rw [List.getElem?_map, List.getElem?_zip_eq_some (z := (d, u)).mpr ⟨h, h'⟩]
  rfl
theorem jok_zp {a b : Addr} {xs ys : List V} {ds es : List PyData} (h : F a = some (.lst xs)) (hd : DqAll Γ.K F xs ds) (h' : F b = some (.lst ys)) (hd' : DqAll Γ.K F ys es) : JOk Γ F (Itz Γ.K a b) (zipA ds es) where
  go i H s hi := by
    rw [zipA_len, ← hd.len, ← hd'.len] at hi
    exact ⟨xs, ys, xs[i], ys[i], .of (s _ _ h), .of (s _ _ h'), List.getElem?_eq_getElem _, List.getElem?_eq_getElem _⟩
  stop i H s hi := by
    rw [zipA_len, ← hd.len, ← hd'.len] at hi
    exact ⟨xs, ys, .of (s _ _ h), .of (s _ _ h'), by omega⟩
  yld i H v H' s hil y := by
    obtain ⟨T, x, x', rfl, nT, rfl, y, y'⟩ := y
    obtain ⟨d, hx, hv⟩ := hd.getV (y xs (.of (s _ _ h)))
    obtain ⟨u, hx', hv'⟩ := hd'.getV (y' ys (.of (s _ _ h')))
    refine ⟨_, zipA_get hx hx', .inr ⟨T, _, nT, rfl, trivial, fun F' sF nF => ?_⟩⟩
    exact .tup (.of upd_same) (.cons (Dq.same (sF.trans (same_updF nF)) d hv) (.cons (Dq.same (sF.trans (same_updF nF)) u hv') .nil))
theorem jok_zpT {a b : Addr} {xs ys : List V} {ds es : List PyData} (h : SqT Γ.K F a xs) (hd : DqAll Γ.K F xs ds) (h' : SqT Γ.K F b ys) (hd' : DqAll Γ.K F ys es) : JOk Γ F (RZ.ItzT Γ.K a b) (zipA ds es) where
  go i H s hi := by
    rw [zipA_len, ← hd.len, ← hd'.len] at hi
    exact ⟨xs, ys, xs[i], ys[i], Same.tup s h, Same.tup s h', List.getElem?_eq_getElem _, List.getElem?_eq_getElem _⟩
  stop i H s hi := by
    rw [zipA_len, ← hd.len, ← hd'.len] at hi
    exact ⟨xs, ys, Same.tup s h, Same.tup s h', by omega⟩
  yld i H v H' s hil y := by
    obtain ⟨T, x, x', rfl, nT, rfl, y, y'⟩ := y
    obtain ⟨d, hx, hv⟩ := hd.getV (y xs (Same.tup s h))
    obtain ⟨u, hx', hv'⟩ := hd'.getV (y' ys (Same.tup s h'))
    refine ⟨_, zipA_get hx hx', .inr ⟨T, _, nT, rfl, trivial, fun F' sF nF => ?_⟩⟩
    exact .tup (.of upd_same) (.cons (Dq.same (sF.trans (same_updF nF)) d hv) (.cons (Dq.same (sF.trans (same_updF nF)) u hv') .nil))
/-! ### iterators -/
theorem di_list (hpe : ∀ {t : TE}, PE X e t → PI X tg e (iList Γ.K t)) {t : TE} (h : DE Γ X W e t a) : DI Γ X W tg e (iList Γ.K t) (iSeq a) := by
  obtain ⟨p, d⟩ := h
  refine ⟨hpe p, fun f F H σ ρ G R Xx E q o ox => ?_⟩
  refine d f F H σ ρ _ _ Xx E q (fun x ρ1 F1 H1 v1 q1 E1 s1 r1 => ?_) ox
  split at q1
  · cases r1 with
    | lst hs ha => exact ⟨_, rfl, ⟨_, .of (E1.s1 _ _ hs)⟩, o _ _ _ _ _ q1 E1 s1 (jok_list hs ha)⟩
  · obtain ⟨b, rfl, hs⟩ := r1
    exact ⟨_, rfl, ⟨_, E1.s1.seq hs⟩, o _ _ _ _ _ q1 E1 s1 (jok_scr hs)⟩
  · exact q1.elim
theorem di_tup (hpe : ∀ {t : TE}, PE X e t → PI X tg e (iTup Γ.K t)) {t : TE} (h : DE Γ X W e t a) : DI Γ X W tg e (iTup Γ.K t) (iTp a) := by
  obtain ⟨p, d⟩ := h
  refine ⟨hpe p, fun f F H σ ρ G R Xx E q o ox => ?_⟩
  refine d f F H σ ρ _ _ Xx E q (fun x ρ1 F1 H1 v1 q1 E1 s1 r1 => ?_) ox
  split at q1
  · cases r1 with
    | tup hs ha => exact ⟨_, rfl, ⟨_, Same.tup E1.s1 hs⟩, o _ _ _ _ _ q1 E1 s1 (jok_tup hs ha)⟩
  · exact q1.elim
theorem di_r1 (hpe : ∀ {t : TE}, PE X e1 t → PI X tg e (iRng1 (tCons t tNil))) {t : TE} (h : DE Γ X W e1 t a) : DI Γ X W tg e (iRng1 (tCons t tNil)) (iR1 a) := by
  obtain ⟨p, d⟩ := h
  refine ⟨hpe p, fun f F H σ ρ G R Xx E q o ox => ?_⟩
  refine d f F H σ ρ _ _ Xx E q (fun x ρ1 F1 H1 v1 q1 E1 s1 r1 => ?_) ox
  obtain ⟨k, rfl, q2⟩ := dI_of q1
  cases r1
  exact ⟨_, rfl, q2.1, q2.2.1, o _ _ _ _ _ q2.2.2 E1 s1 jok_rng⟩
theorem di_r2 (hpe : ∀ {t u : TE}, PE X e1 t → PE X e2 u → PI X tg e (iRng2 (tCons t (tCons u tNil)))) {t u : TE} (h : DE Γ X W e1 t a) (h' : DE Γ X W e2 u b) : DI Γ X W tg e (iRng2 (tCons t (tCons u tNil))) (iR2 a b) := by
  obtain ⟨p, d⟩ := h
  obtain ⟨p', d'⟩ := h'
  refine ⟨hpe p p', fun f F H σ ρ G R Xx E q o ox => ?_⟩
  refine d f F H σ ρ _ _ Xx E q (fun x ρ1 F1 H1 v1 q1 E1 s1 r1 => ?_) ox
  refine d' f F1 H1 σ ρ1 _ _ Xx E1 q1 (fun y ρ2 F2 H2 v2 q2 E2 s2 r2 => ?_) ox
  obtain ⟨k, rfl, q3⟩ := dI_of q2
  obtain ⟨k', rfl, q4⟩ := dI_of q3
  cases r1
  cases r2
  exact ⟨_, _, rfl, q4.1, o _ _ _ _ _ q4.2 E2 (s1.trans s2) jok_rng⟩
theorem di_en (hpe : ∀ {t : TE}, PE X e1 t → PI X tg e (iEnum Γ.K (tCons t tNil))) {t : TE} (h : DE Γ X W e1 t a) : DI Γ X W tg e (iEnum Γ.K (tCons t tNil)) (iEn a) := by
  obtain ⟨p, d⟩ := h
  refine ⟨hpe p, fun f F H σ ρ G R Xx E q o ox => ?_⟩
  refine d f F H σ ρ _ _ Xx E q (fun x ρ1 F1 H1 v1 q1 E1 s1 r1 => ?_) ox
  obtain ⟨ds, rfl, q2⟩ := dL_of q1
  cases r1 with
  | lst hs ha => exact ⟨_, _, rfl, .of (E1.s1 _ _ hs), o _ _ _ _ _ q2 E1 s1 (jok_en hs ha)⟩
theorem di_zp (hpe : ∀ {t u : TE}, PE X e1 t → PE X e2 u → PI X tg e (RZ.iZipA Γ.K (tCons t (tCons u tNil)))) {t u : TE} (h : DE Γ X W e1 t a) (h' : DE Γ X W e2 u b) : DI Γ X W tg e (RZ.iZipA Γ.K (tCons t (tCons u tNil))) (iZp a b) := by
  obtain ⟨p, d⟩ := h
  obtain ⟨p', d'⟩ := h'
  refine ⟨hpe p p', fun f F H σ ρ G R Xx E q o ox => ?_⟩
  refine d f F H σ ρ _ _ Xx E q (fun x ρ1 F1 H1 v1 q1 E1 s1 r1 => ?_) ox
  refine d' f F1 H1 σ ρ1 _ _ Xx E1 q1 (fun y ρ2 F2 H2 v2 q2 E2 s2 r2 => ?_) ox
  split at q2
  · cases r1 with
    | lst hs ha =>
      cases r2 with
      | lst hs' ha' => exact ⟨_, _, _, _, rfl, .inl ⟨.of (E2.s1 _ _ (s2 _ _ hs)), .of (E2.s1 _ _ hs'), o _ _ _ _ _ q2 E2 (s1.trans s2) (jok_zp (s2 _ _ hs) (DqAll.same s2 _ ha) hs' ha')⟩⟩
  · cases r1 with
    | tup hs ha =>
      cases r2 with
      | tup hs' ha' => exact ⟨_, _, _, _, rfl, .inr ⟨Same.tup (s2.trans E2.s1) hs, Same.tup E2.s1 hs', o _ _ _ _ _ q2 E2 (s1.trans s2) (jok_zpT (Same.tup s2 hs) (DqAll.same s2 _ ha) hs' ha')⟩⟩
  · exact q2.elim
theorem ds_for {ι : II} {γ : GG} (hpe : ∀ {wi : TI} {g : TG} {tb : TS}, PI X tg e wi → PG X tg g → PSs X sts tb → PS X st (tFor wi g tb)) {wi : TI} {g : TG} (h : DI Γ X W tg e wi ι) (hg : DG Γ X tg g γ gs) {tb : TS} (hb : DSs Γ X W sts tb k) : DS Γ X W st (tFor wi g tb) (sFor ι γ k) := by
  obtain ⟨p, d⟩ := h
  obtain ⟨p', d'⟩ := hg
  obtain ⟨p2, d2⟩ := hb
  refine ⟨hpe p p' p2, fun f F H σ ρ P D E q o => ?_⟩
  refine d f F H σ ρ _ _ P.ex E q (fun xs ρ1 F1 H1 J q1 E1 s1 jk => ?_) (o.ex σ)
  obtain ⟨Inv, h0, hs, hd⟩ := q1
  refine ⟨fun i m σ H => m = xs.length - i ∧ i ≤ xs.length ∧ ∃ F ρ, Ent Γ f F H σ ρ ∧ Same F1 F ∧ Inv i ρ, ⟨_, rfl, Nat.zero_le _, F1, ρ1, E1, Same.refl _, h0⟩, ?_⟩
  rintro i m σ1 H2 ⟨rfl, hi, F2, ρ2, E2, s2, inv⟩
  by_cases lt : i < xs.length
  · refine .inr ⟨jk.go i H2 (s2.trans E2.s1) lt, fun σ H => ∃ F ρ, Ent Γ f F H σ ρ ∧ Same F1 F ∧ Inv (i + 1) ρ, fun σ' H' p' => ⟨xs.length - (i + 1), by omega, rfl, lt, p'⟩, fun v H3 y => ?_⟩
    obtain ⟨x, hx, y⟩ := jk.yld i H2 v H3 (s2.trans E2.s1) lt y
    have q3 := hs i x ρ2 hx inv
    obtain ⟨F3, E3, s3, r3⟩ : ∃ F3, Ent Γ f F3 H3 σ1 ρ2 ∧ Same F2 F3 ∧ Rp Γ F3 v x := by
      rcases y with ⟨rfl, r⟩ | ⟨T, oo, nT, rfl, so, r⟩
      · exact ⟨F2, E2, Same.refl _, r.same s2⟩
      · have nF := E2.fnone nT
        exact ⟨_, E2.alloc nT so, same_updF nF, r F2 s2 nF⟩
    refine d' f F3 H3 σ1 ρ2 v x _ _ E3 r3 q3 fun σ4 ρ4 F4 H4 q4 E4 s4 _ _ => ?_
    have s14 := (s2.trans s3).trans s4
    refine d2 f F4 H4 σ4 ρ4 _ _ E4 q4 ⟨fun σ5 ρ5 F5 H5 q5 E5 s5 => ⟨F5, ρ5, E5, s14.trans s5, q5⟩, fun x σ5 ρ5 F5 H5 v q5 E5 s5 r5 => o.rt x _ _ _ _ _ q5 E5 ((s1.trans s14).trans s5) r5, fun σ5 ρ5 F5 H5 q5 E5 s5 => o.nx _ _ _ _ q5 E5 ((s1.trans s14).trans s5), fun σ5 ρ5 F5 H5 q5 E5 s5 => ⟨F5, ρ5, E5, s14.trans s5, q5⟩, o.ex⟩
  · have e : i = xs.length := by omega
    subst e
    exact .inl ⟨jk.stop _ H2 (s2.trans E2.s1) (Nat.le_refl _), o.nx _ _ _ _ (hd ρ2 inv) E2 (s1.trans s2)⟩
theorem ds_while (hpe : ∀ {t : TT} {tb : TS}, PT X e t → PSs X sts tb → PS X st (tWhile t tb)) {tt : TT} (h : DT Γ X W e tt t) {tb : TS} (hb : DSs Γ X W sts tb k) : DS Γ X W st (tWhile tt tb) (sWhile t k) := by
  obtain ⟨p, d⟩ := h
  obtain ⟨p2, d2⟩ := hb
  refine ⟨hpe p p2, fun f F H σ ρ P D E q o => ?_⟩
  obtain ⟨Inv, ⟨m0, h0⟩, hs⟩ := q
  refine ⟨fun m σ H => ∃ F' ρ, Ent Γ f F' H σ ρ ∧ Same F F' ∧ Inv m ρ, ⟨m0, F, ρ, E, Same.refl _, h0⟩, ?_⟩
  rintro m σ1 H1 ⟨F1, ρ1, E1, s1, inv⟩
  refine d f F1 H1 σ1 ρ1 _ _ P.ex E1 (hs m ρ1 inv) (fun c ρ2 F2 H2 q2 E2 s2 => ?_) (o.ex σ1)
  cases c with
  | false => exact o.nx _ _ _ _ q2 E2 (s1.trans s2)
  | true =>
    refine ⟨fun σ H => ∃ F' ρ m', Ent Γ f F' H σ ρ ∧ Same F F' ∧ m' < m ∧ Inv m' ρ, fun σ' H' ⟨F', ρ', m', E', s', lt, i'⟩ => ⟨m', lt, F', ρ', E', s', i'⟩, ?_⟩
    have s12 := s1.trans s2
    exact d2 f F2 H2 σ1 ρ2 _ _ E2 q2 ⟨fun σ5 ρ5 F5 H5 ⟨m', lt, q5⟩ E5 s5 => ⟨F5, ρ5, m', E5, s12.trans s5, lt, q5⟩, fun x σ5 ρ5 F5 H5 v q5 E5 s5 r5 => o.rt x _ _ _ _ _ q5 E5 (s12.trans s5) r5, fun σ5 ρ5 F5 H5 q5 E5 s5 => o.nx _ _ _ _ q5 E5 (s12.trans s5), fun σ5 ρ5 F5 H5 ⟨m', lt, q5⟩ E5 s5 => ⟨F5, ρ5, m', E5, s12.trans s5, lt, q5⟩, o.ex⟩
/-! ### comprehensions -/
theorem wipe_eq {σ' : L2.St} (hl : σ'.length = σ.length) : ∀ (vs : List Nat), (∀ j, j ∉ vs → σ'[j]? = σ[j]?) → wipe σ' vs = wipe σ vs := by
  intro vs h
  apply List.ext_getElem?
  intro j
  have get : ∀ (τ : L2.St) (ws : List Nat) (j : Nat), (wipe τ ws)[j]? = if j ∈ ws then (if j < τ.length then some none else none) else τ[j]? := by
    intro τ ws
    induction ws with
    | nil => intro j; simp [wipe]
    | cons w ws ih =>
      intro j
      show ((wipe τ ws).set w none)[j]? = _
      rw [List.getElem?_set, wipe_length]
      by_cases hj : w = j
      · subst hj
        simp
      · rw [if_neg hj, ih j]
        have : j ∈ w :: ws ↔ j ∈ ws := by simp [eq_comm, hj]
        simp only [this]
  rw [get, get, hl]
  by_cases hj : j ∈ vs
  · rw [if_pos hj, if_pos hj]
  · rw [if_neg hj, if_neg hj, h j hj]
theorem Ent.wiped (E : Ent Γ f F H σ ρ) : ∀ vs : List Nat, Ent Γ f F H (wipe σ vs) (wipeP ρ vs)
  | [] => E
  | v :: vs => (Ent.wiped E vs).setU
theorem Ent.rest {ρ0 : List Sl} {F0 : Hp} (E0 : Ent Γ f F0 H' σ ρ0) (s : Same F0 F) : ∀ (vs : List Nat) {ρ : List Sl}, vs.Nodup → (∀ v ∈ vs, plainS ρ0[v]?) → Ent Γ f F H (wipe σ vs) ρ → Ent Γ f F H σ (restP ρ0 vs ρ)
  | [], ρ, _, _, E => E
  | v :: vs, ρ, hn, hp, E => by
    have hv := List.nodup_cons.mp hn
    refine Ent.rest E0 s vs hv.2 (fun w hw => hp w (List.mem_cons_of_mem _ hw)) ?_
    show Ent Γ f F H (wipe σ vs) (ρ.set v (ρ0[v]?.getD .un))
    have hw : ∀ (τ : L2.St) (ws : List Nat), v ∉ ws → (wipe τ ws)[v]? = τ[v]? := fun τ ws => by
      induction ws with
      | nil => intro _; rfl
      | cons w ws ih =>
        intro h
        rw [List.mem_cons, not_or] at h
        show ((wipe τ ws).set w none)[v]? = _
        rw [List.getElem?_set, if_neg (fun z => h.1 z.symm)]
        exact ih h.2
    have hσ := hw σ vs hv.1
    have pl := hp v List.mem_cons_self
    have E' : Ent Γ f F H ((wipe σ vs).set v none) ρ := E
    by_cases lt : v < (wipe σ vs).length
    · have E1 := E'.put (i := v) (w := (wipe σ vs)[v]) (s := ρ0[v]?.getD .un) (fun ds z => by
        cases h0 : ρ0[v]? with
        | none => rw [h0] at z; cases z
        | some s0 => rw [h0] at z pl; cases z; exact pl) (fun _ => by
        cases h0 : ρ0[v]? with
        | none => trivial
        | some s0 =>
          rw [h0] at pl
          have := E0.sl v s0 h0
          cases s0 with
          | un => trivial
          | own ds => exact pl.elim
          | rng n => exact pl.elim
          | a x =>
            obtain ⟨u, h1, h2⟩ := this
            rw [← hσ, List.getElem?_eq_getElem lt] at h1
            exact ⟨u, h1, h2.same s⟩)
      rwa [List.set_set, set_self (List.getElem?_eq_getElem lt)] at E1
    · rw [List.set_eq_of_length_le (by omega)] at E'
      rw [List.set_eq_of_length_le (by rw [← E'.len]; omega)]
      exact E'
theorem own_wipe : ∀ (vs : List Nat) {b : Addr}, OwnA (wipe σ vs) (wipeP ρ vs) b → OwnA σ ρ b
  | [], b, h => h
  | v :: vs, b, h => by
    rcases own_set (σ := wipe σ vs) (ρ := wipeP ρ vs) (w := none) (s := .un) h with h | ⟨⟨_, h⟩, _⟩
    · exact own_wipe vs h
    · cases h
theorem own_rest {ρ0 : List Sl} : ∀ (vs : List Nat) {ρ : List Sl} {b : Addr}, (∀ v ∈ vs, plainS ρ0[v]?) → OwnA σ (restP ρ0 vs ρ) b → OwnA (wipe σ vs) ρ b
  | [], _, _, _, h => h
  | v :: vs, ρ, b, hp, h => by
    obtain ⟨j, ds, h1, h2⟩ := own_rest vs (ρ := ρ.set v (ρ0[v]?.getD .un)) (fun w hw => hp w (List.mem_cons_of_mem _ hw)) h
    rw [List.getElem?_set] at h1
    by_cases hj : v = j
    · rw [if_pos hj] at h1
      split at h1
      · have pl := hp v List.mem_cons_self
        cases h0 : ρ0[v]? with
        | none => rw [h0] at h1; cases h1
        | some s0 => rw [h0] at h1 pl; cases h1; exact pl.elim
      · cases h1
    · rw [if_neg hj] at h1
      refine ⟨j, ds, h1, ?_⟩
      show ((wipe σ vs).set v none)[j]? = _
      rw [List.getElem?_set, if_neg hj]
      exact h2
theorem dl_lc {ι : II} {γ : GG} {τ : BB} {ε : EE} {vs : List Nat} {X' : Cx} {t0 : TE} (hn : vs.Nodup) (hg' : ∀ v ∈ gs, v ∈ vs)
    {wi : TI} {g : TG} {tt : TT} {te : TE} (hpe : PE X e (tLc wi g tt te vs)) (h : DenI Γ W wi ι) (hg : DenG Γ g γ gs) (ht : DenB Γ (fun _ _ _ _ => False) tt τ) (he : DenE Γ (fun _ _ _ _ => False) te ε) : DL Γ X W e (tLc wi g tt te vs) (lLc ι γ τ ε vs) := by
  refine ⟨hpe, fun f F H σ ρ Q R Xx E q o ox => ?_⟩
  refine h f F H σ ρ _ _ Xx E q (fun xs ρ1 F1 H1 J q1 E1 s1 jk => ?_) ox
  obtain ⟨hpl, Inv, h0, hs, hd⟩ := q1
  intro Dd nD
  have Ew := E1.wiped vs
  refine ⟨fun i m H => m = xs.length - i ∧ i ≤ xs.length ∧ ∃ F ρ acc as, Ent Γ f F H (wipe σ vs) ρ ∧ Same F1 F ∧ Inv i acc ρ ∧ Own1 Γ f F H (wipe σ vs) ρ Dd as acc,
    ⟨_, rfl, Nat.zero_le _, F1, _, [], [], Ew.raw nD, Same.refl _, h0, own_new Ew .nil nD⟩, ?_⟩
  rintro i m H2 ⟨rfl, hi, F2, ρ2, acc, as, E2, s2, inv, w⟩
  by_cases lt : i < xs.length
  · refine .inr ⟨jk.go i H2 (s2.trans E2.s1) lt, fun H => ∃ F ρ acc as, Ent Γ f F H (wipe σ vs) ρ ∧ Same F1 F ∧ Inv (i + 1) acc ρ ∧ Own1 Γ f F H (wipe σ vs) ρ Dd as acc, fun H' p' => ⟨xs.length - (i + 1), by omega, rfl, lt, p'⟩, fun v H3 y => ?_⟩
    obtain ⟨x, hx, y⟩ := jk.yld i H2 v H3 (s2.trans E2.s1) lt y
    have q3 := hs i x acc ρ2 hx inv
    obtain ⟨F3, E3, s3, r3, w3⟩ : ∃ F3, Ent Γ f F3 H3 (wipe σ vs) ρ2 ∧ Same F2 F3 ∧ Rp Γ F3 v x ∧ Own1 Γ f F3 H3 (wipe σ vs) ρ2 Dd as acc := by
      rcases y with ⟨rfl, r⟩ | ⟨T, oo, nT, rfl, so, r⟩
      · exact ⟨F2, E2, Same.refl _, r.same s2, w⟩
      · have nF := E2.fnone nT
        have hne : Dd ≠ T := ne_of_none w.hH nT
        exact ⟨_, E2.alloc nT so, same_updF nF, r F2 s2 nF, ⟨by rw [upd_ne hne]; exact w.hH, by rw [upd_ne hne]; exact w.hF, DqAll.same (same_updF nF) acc w.hD, w.h0, w.hO, w.hR⟩⟩
    have hM : ¬ f.M Dd := fun z => E3.ml Dd z w3.h0
    -- what the turn keeps of the list
    have keep : ∀ {σ' : L2.St} {ρ' : List Sl} {F' H' : Hp}, Ent Γ (f.from (wipe σ vs) ρ2 F3 H3) F' H' σ' ρ' → σ'.length = (wipe σ vs).length → (∀ j, j ∉ vs → σ'[j]? = (wipe σ vs)[j]?) → Ent Γ f F' H' (wipe σ vs) (wipeP ρ' vs) ∧ Own1 Γ f F' H' (wipe σ vs) (wipeP ρ' vs) Dd as acc := by
      intro σ' ρ' F' H' E' hl hk
      have E'' := E3.trans E'
      have e1 : wipe σ' vs = wipe σ vs := by
        rw [wipe_eq hl vs hk]
        exact wipe_eq (wipe_length σ vs) vs fun j hj => by
          have get : ∀ (ws : List Nat), j ∉ ws → (wipe σ ws)[j]? = σ[j]? := by
            intro ws
            induction ws with
            | nil => intro _; rfl
            | cons w ws ih =>
              intro h
              rw [List.mem_cons, not_or] at h
              show ((wipe σ ws).set w none)[j]? = _
              rw [List.getElem?_set, if_neg (fun z => h.1 z.symm)]
              exact ih h.2
          exact get vs hj
      have Ew' := E''.wiped vs
      rw [e1] at Ew'
      have hH' : H' Dd = some (.lst as) := E'.kept w3.hH hM w3.hO
      have nO : ¬ OwnA σ' ρ' Dd := fun z => by
        rcases E'.ownM z with z | z | z
        · have z : H3 Dd = none := z
          rw [w3.hH] at z; cases z
        · exact hM z
        · exact w3.hO z
      refine ⟨Ew', hH', ?_, DqAll.same E'.s0 acc w3.hD, w3.h0, fun z => nO (own_wipe vs (by rw [e1]; exact z)), w3.hR⟩
      cases hF' : F' Dd with
      | none => rfl
      | some oo =>
        rcases E'.new _ _ hF' with z | z | z | z
        · have z : F3 Dd = some oo := z
          rw [w3.hF] at z; cases z
        · have z : H3 Dd = none := z
          rw [w3.hH] at z; cases z
        · exact absurd z hM
        · exact absurd z w3.hO
    refine hg _ F3 H3 _ ρ2 v x _ _ E3.self r3 q3 fun σ4 ρ4 F4 H4 q4 E4 s4 l4 k4 => ?_
    have k4' : ∀ j, j ∉ vs → σ4[j]? = (wipe σ vs)[j]? := fun j hj => k4 j fun z => hj (hg' j z)
    have e4 : wipe σ4 vs = wipe σ vs := by
      rw [wipe_eq l4 vs k4']
      refine wipe_eq (wipe_length σ vs) vs fun j hj => ?_
      have get : ∀ (ws : List Nat), j ∉ ws → (wipe σ ws)[j]? = σ[j]? := by
        intro ws
        induction ws with
        | nil => intro _; rfl
        | cons w ws ih =>
          intro h
          rw [List.mem_cons, not_or] at h
          show ((wipe σ ws).set w none)[j]? = _
          rw [List.getElem?_set, if_neg (fun z => h.1 z.symm)]
          exact ih h.2
      exact get vs hj
    refine ⟨e4, ?_⟩
    refine ht _ F4 H4 σ4 ρ4 _ _ noX E4 q4 (fun c ρ5 F5 H5 q5 E5 s5 => ?_) (fun _ _ _ _ _ _ _ z => z.elim)
    cases c with
    | false =>
      obtain ⟨E6, w6⟩ := keep E5 l4 k4'
      exact ⟨F5, _, acc, as, E6, ((s2.trans s3).trans s4).trans s5, q5, w6⟩
    | true =>
      refine he _ F5 H5 σ4 ρ5 _ _ noX E5 q5 (fun yv ρ6 F6 H6 u q6 E6 s6 r6 => ?_) (fun _ _ _ _ _ _ _ z => z.elim)
      obtain ⟨d, rfl, q7⟩ := dD_of q6
      clear q6
      obtain ⟨hz, inv'⟩ := q7
      obtain ⟨E7, w7⟩ := keep E6 l4 k4'
      refine ⟨as, w7.hH, by rw [w7.hD.len]; exact hz, F6, _, acc ++ [d], as ++ [u], E7.poke w7.hF (.inl w7.h0) w7.hO w7.hR, (((s2.trans s3).trans s4).trans s5).trans s6, inv', ?_⟩
      exact ⟨upd_same, w7.hF, w7.hD.app (.one r6), w7.h0, w7.hO, w7.hR⟩
  · have e : i = xs.length := by omega
    subst e
    refine .inl ⟨jk.stop _ H2 (s2.trans E2.s1) (Nat.le_refl _), ?_⟩
    have E3 := Ent.rest E1 s2 vs hn hpl E2
    refine o _ _ _ _ _ _ (hd acc ρ2 inv) E3 (s1.trans s2) ⟨w.hH, w.hF, w.hD, w.h0, fun z => w.hO (own_rest vs hpl z), w.hR⟩
end
end Cc

set_option Elab.async false
set_option linter.all false
set_option maxRecDepth 100000
set_option maxHeartbeats 4000000
/-! The pure layer: defs, calls, what is raised, built-ins. -/
namespace Cc
open PySem PySem.Spec PyProof.Rows L2
abbrev Phi := Nat → List A → (A → Nat → Prop) → (Nat → PyData → Nat → Prop) → Prop
/-- what a call leaves -/
structure Stp (Γ : Gx) (rg : Bool) (R : Addr → Prop) (r : Addr) (F H F' H' : Hp) (n' : Nat) : Prop where
  s0 : Same F F'
  s1 : Same F' H'
  new : ∀ b o, F' b = some o → F b = some o ∨ H b = none
  chg : ∀ b o, H b = some o → ¬ R b → H' b = some o
  liv : ∀ b, H' b = none → H b = none
  at_ : rg = true → Γ.I.at_ R r H' n'
  cl : ∀ a o, F' a = some o → okO F' a o
def spP (Γ : Gx) (rg : Bool) (φ : Phi) : Sp := fun vs H Q E => ∃ (R : Addr → Prop) (r : Addr) (F : Hp) (n : Nat) (xs : List A) (us : List V) (RR : A → Nat → Prop) (Xx : Nat → PyData → Nat → Prop),
  vs = (if rg = true then V.ref r :: us else us) ∧ RpAll Γ F us xs ∧ Same F H ∧ (∀ b, R b → F b = none ∧ H b ≠ none) ∧ (∀ a o, F a = some o → okO F a o) ∧ (rg = true → Γ.I.at_ R r H n) ∧ (rg = false → ∀ b, ¬ R b) ∧ φ n xs RR Xx ∧
  (∀ x n' v F' H', RR x n' → Stp Γ rg R r F H F' H' n' → Rp Γ F' v x → Q v H') ∧
  ∀ c d n' v dx F' H', Xx c d n' → Stp Γ rg R r F H F' H' n' → F' dx = some (.xd [("value", v)]) → Dq Γ.K F' v d → E (.ref (Γ.C c)) (some dx) H'
section
variable {Γ : Gx} {X : Cx} {W : WX} {f : Fr} {F H F' H' : Hp} {σ σ' : L2.St} {ρ ρ' : List Sl} {x : A} {v : V} {d : PyData} {e e1 e2 e3 tg : Expr} {a b c : EE} {i j : Nat} {es : List Expr} {pos : Pos} {st : Stmt} {sts sts' : List Stmt} {k k' : SS}
theorem Ent.stp0 (E : Ent Γ f F H σ ρ) {R : Addr → Prop} {r : Addr} {n' : Nat} (hR : ∀ b, ¬ R b) (s : Stp Γ false R r F H F' H' n') : Ent Γ f F' H' σ ρ := by
  have hk : ∀ b o, H b = some o → H' b = some o := fun b o e => s.chg b o e (hR b)
  refine ⟨E.s0.trans s.s0, s.s1, fun b o e => ?_, fun b o e m => hk _ _ (E.chg b o e m), fun b e => E.liv b (s.liv b e), E.len, fun i s' hi => (E.sl i s' hi).more s.s0 (fun a ha ⟨ds, hs⟩ => ?_) (fun b o _ e => hk _ _ e), E.dis, E.rm, fun b hb => ?_, fun b hb => ?_, E.ro, E.ml, s.cl⟩
  · rcases s.new b o e with h | h
    · exact E.new b o h
    · exact .inr (.inl (E.liv b h))
  · subst hs
    obtain ⟨a', xs, e1, e2, _, e4, _⟩ := E.sl i _ hi
    rw [ha] at e1
    cases e1
    refine ⟨?_, fun o q => hk _ _ q⟩
    cases h : F' a with
    | none => rfl
    | some o =>
      rcases s.new a o h with z | z
      · rw [e4] at z; cases z
      · rw [e2] at z; cases z
  · cases h : F' b with
    | none => rfl
    | some o =>
      rcases s.new b o h with z | z
      · rw [E.rF b hb] at z; cases z
      · exact absurd z (E.rl b hb)
  · exact fun z => E.rl b hb (s.liv b z)
theorem Ent.stpR (E : Ent Γ f F H σ ρ) {n n' : Nat} (hi : ρ[f.ri]? = some (.rng n)) (s : Stp Γ true f.R f.r F H F' H' n') : Ent Γ f F' H' σ (ρ.set f.ri (.rng n')) := by
  have E1 := E.forget (i := f.ri)
  -- all slots but the draws' one
  have E2 : Ent Γ f F' H' σ (ρ.set f.ri .un) := by
    refine ⟨E.s0.trans s.s0, s.s1, fun b o e => ?_, fun b o e m => s.chg _ _ (E.chg b o e m) (fun z => m (E.rm b z)), fun b e => E.liv b (s.liv b e), E1.len, fun i s' hi' => ?_, E1.dis, E.rm, fun b hb => ?_, fun b hb => ?_, E1.ro, E.ml, s.cl⟩
    · rcases s.new b o e with h | h
      · exact E.new b o h
      · exact .inr (.inl (E.liv b h))
    · have old := E1.sl i s' hi'
      cases s' with
      | un => trivial
      | a x =>
        obtain ⟨u, h1, h2⟩ := old
        exact ⟨u, h1, h2.same s.s0⟩
      | rng m =>
        have e := old.1.1
        rw [e, List.getElem?_set, if_pos rfl] at hi'
        split at hi' <;> cases hi'
      | own ds =>
        obtain ⟨a, xs, e1, e2, e3, e4, e5⟩ := old
        have nR : ¬ f.R a := fun z => E1.ro a z ⟨i, ds, hi', e1⟩
        refine ⟨a, xs, e1, s.chg _ _ e2 nR, DqAll.same s.s0 ds e3, ?_, e5⟩
        cases h : F' a with
        | none => rfl
        | some o =>
          rcases s.new a o h with z | z
          · rw [e4] at z; cases z
          · rw [e2] at z; cases z
    · cases h : F' b with
      | none => rfl
      | some o =>
        rcases s.new b o h with z | z
        · rw [E.rF b hb] at z; cases z
        · exact absurd z (E.rl b hb)
    · exact fun z => E.rl b hb (s.liv b z)
  obtain ⟨⟨_, hv⟩, _⟩ := E.sl _ _ hi
  have E3 := E2.put (i := f.ri) (w := some (V.ref f.r)) (s := .rng n') (fun _ => nofun) fun _ => ⟨⟨rfl, rfl⟩, s.at_ rfl⟩
  rw [List.set_set, set_self hv] at E3
  exact E3
/-! ### calls -/
def eCall (φ : Phi) (as : AA) : EE := fun ρ R Xx => as ρ (fun xs ρ1 => φ 0 xs (fun x _ => R x ρ1) (fun c d _ => Xx c d ρ1)) Xx
def eCallR (i : Nat) (φ : Phi) (as : AA) : EE := fun ρ R Xx => (∃ m, ρ[i]? = some (.rng m)) ∧ as ρ (fun xs ρ1 => match ρ1[i]? with
  | some (.rng n) => φ n xs (fun x n' => R x (ρ1.set i (.rng n'))) (fun c d n' => Xx c d (ρ1.set i (.rng n')))
  | _ => False) Xx
/-- a call that raises nothing -/
def eCall0 (φ : Phi) (as : AA) : EE := fun ρ R Xx => as ρ (fun xs ρ1 => φ 0 xs (fun x _ => R x ρ1) (fun _ _ _ => False)) Xx
def eCallR0 (i : Nat) (φ : Phi) (as : AA) : EE := fun ρ R Xx => (∃ m, ρ[i]? = some (.rng m)) ∧ as ρ (fun xs ρ1 => match ρ1[i]? with
  | some (.rng n) => φ n xs (fun x n' => R x (ρ1.set i (.rng n'))) (fun _ _ _ => False)
  | _ => False) Xx
theorem sp_at {φ : Phi} {E : XK} {xs : List A} {us : List V} {Q : VK} {RR : A → Nat → Prop} {Xx : Nat → PyData → Nat → Prop} (hE : Ent Γ f F H σ ρ) (r : RpAll Γ F us xs) (q : φ 0 xs RR Xx)
    (o : ∀ x v F' H', RR x 0 ∨ (∃ n', RR x n') → Ent Γ f F' H' σ ρ → Same F F' → Rp Γ F' v x → Q v H') (ox : ∀ c d n' v dx F' H', Xx c d n' → Ent Γ f F' H' σ ρ → F' dx = some (.xd [("value", v)]) → Dq Γ.K F' v d → E (.ref (Γ.C c)) (some dx) H') : spP Γ false φ us H Q E :=
  ⟨fun _ => False, 0, F, 0, xs, us, RR, Xx, rfl, r, hE.s1, (fun _ z => z.elim), hE.cl, (fun z => Bool.noConfusion z), (fun _ _ z => z), q,
    fun x n' v F' H' rr s h => o x v F' H' (.inr ⟨n', rr⟩) (hE.stp0 (fun _ z => z) s) s.s0 h, fun c d n' v dx F' H' xx s h1 h2 => ox c d n' v dx F' H' xx (hE.stp0 (fun _ z => z) s) h1 h2⟩
theorem sp_atR {φ : Phi} {E : XK} {xs : List A} {us : List V} {Q : VK} {RR : A → Nat → Prop} {Xx : Nat → PyData → Nat → Prop} {n : Nat} (hE : Ent Γ f F H σ ρ) (hi : ρ[f.ri]? = some (.rng n)) (r : RpAll Γ F us xs) (q : φ n xs RR Xx)
    (o : ∀ x n' v F' H', RR x n' → Ent Γ f F' H' σ (ρ.set f.ri (.rng n')) → Same F F' → Rp Γ F' v x → Q v H') (ox : ∀ c d n' v dx F' H', Xx c d n' → Ent Γ f F' H' σ (ρ.set f.ri (.rng n')) → F' dx = some (.xd [("value", v)]) → Dq Γ.K F' v d → E (.ref (Γ.C c)) (some dx) H') : spP Γ true φ (.ref f.r :: us) H Q E := by
  obtain ⟨_, hat⟩ := hE.sl _ _ hi
  exact ⟨f.R, f.r, F, n, xs, us, RR, Xx, rfl, r, hE.s1, fun b hb => ⟨hE.rF b hb, hE.rl b hb⟩, hE.cl, (fun _ => hat), (fun z => Bool.noConfusion z), q,
    fun x n' v F' H' rr s h => o x n' v F' H' rr (hE.stpR hi s) s.s0 h, fun c d n' v dx F' H' xx s h1 h2 => ox c d n' v dx F' H' xx (hE.stpR hi s) h1 h2⟩
theorem de_call0 {φ : Phi} {as : AA} (hpe : ∀ {ta : TA}, PA X es ta → PE X e (tCall (spP Γ false φ) [] E0 ta)) {ta : TA} (h : DA Γ X W es ta as) : DE Γ X W e (tCall (spP Γ false φ) [] E0 ta) (eCall0 φ as) := by
  obtain ⟨p, dn⟩ := h
  refine ⟨hpe p, fun f F H σ ρ Q R Xx E q o ox => ?_⟩
  refine dn f F H σ ρ _ _ Xx E q (fun xs ρ1 F1 H1 us q1 E1 s1 r1 => ?_) ox
  show spP Γ false φ (us ++ []) H1 Q E0
  rw [List.append_nil]
  exact sp_at E1 r1 q1 (fun x v F' H' rr E' s' h => o x ρ1 F' H' v (rr.elim id fun ⟨_, z⟩ => z) E' (s1.trans s') h) fun c d n' v dx F' H' z => z.elim
theorem de_callR0 {φ : Phi} {as : AA} (hpe : ∀ {ta : TA}, PA X es ta → PE X e (tCall (spP Γ true φ) [] E0 (tCons (tVar i) ta))) {ta : TA} (h : DA Γ X W es ta as) : DE Γ X W e (tCall (spP Γ true φ) [] E0 (tCons (tVar i) ta)) (eCallR0 i φ as) := by
  obtain ⟨p, dn⟩ := h
  refine ⟨hpe p, fun f F H σ ρ Q R Xx E q o ox => ?_⟩
  obtain ⟨⟨m, hi⟩, q⟩ := q
  obtain ⟨⟨ei, hv⟩, _⟩ := E.sl _ _ hi
  subst ei
  refine ⟨_, hv, ?_⟩
  refine dn f F H σ ρ _ _ Xx E q (fun xs ρ1 F1 H1 us q1 E1 s1 r1 => ?_) ox
  split at q1
  · rename_i n hn
    show spP Γ true φ (V.ref f.r :: us ++ []) H1 Q E0
    rw [List.append_nil]
    exact sp_atR E1 hn r1 q1 (fun x n' v F' H' rr E' s' h => o x _ F' H' v rr E' (s1.trans s') h) fun c d n' v dx F' H' z => z.elim
  · exact q1.elim
theorem de_callX {φ : Phi} {as : AA} (hpe : ∀ {ta : TA}, PA X es ta → PE X e (tCallS (spP Γ false φ) (WE W) ta)) {ta : TA} (h : DA Γ X W es ta as) : DE Γ X W e (tCallS (spP Γ false φ) (WE W) ta) (eCall φ as) := by
  obtain ⟨p, dn⟩ := h
  refine ⟨hpe p, fun f F H σ ρ Q R Xx E q o ox => ?_⟩
  refine dn f F H σ ρ _ _ Xx E q (fun xs ρ1 F1 H1 us q1 E1 s1 r1 => ?_) ox
  exact sp_at E1 r1 q1 (fun x v F' H' rr E' s' h => o x ρ1 F' H' v (rr.elim id fun ⟨_, z⟩ => z) E' (s1.trans s') h) fun c d n' v dx F' H' xx E' h1 h2 => ox c d ρ1 F' H' dx v xx E' h1 h2
/-- by keyword -/
theorem de_callKX {φ : Phi} {as : AA} {kws : List Keyword} {gV : List V → List V} {gA : List A → List A} (hg : ∀ {vs : List V} {xs : List A} {F : Hp}, RpAll Γ F vs xs → RpAll Γ F (gV vs) (gA xs)) (hpe : ∀ {ta : TA}, PK X kws ta → PE X e (tCallKS (spP Γ false φ) gV (WE W) ta)) {ta : TA} (h : PK X kws ta ∧ DenA Γ W ta as) :
    DE Γ X W e (tCallKS (spP Γ false φ) gV (WE W) ta) (eCall (fun n xs => φ n (gA xs)) as) := by
  obtain ⟨p, dn⟩ := h
  refine ⟨hpe p, fun f F H σ ρ Q R Xx E q o ox => ?_⟩
  refine dn f F H σ ρ _ _ Xx E q (fun xs ρ1 F1 H1 us q1 E1 s1 r1 => ?_) ox
  exact sp_at E1 (hg r1) q1 (fun x v F' H' rr E' s' h => o x ρ1 F' H' v (rr.elim id fun ⟨_, z⟩ => z) E' (s1.trans s') h) fun c d n' v dx F' H' xx E' h1 h2 => ox c d ρ1 F' H' dx v xx E' h1 h2

/-! ### what is raised -/
def sRaise (c : Nat) (a : EE) : SS := fun ρ P => a ρ (fun x ρ1 => dD x fun d => P.ex c d ρ1) P.ex
theorem ds_raise {c : Nat} (hpe : ∀ {ta : TE}, PE X e ta → PS X st (tRaise Γ.K (Γ.C c) W (tCons ta tNil))) {ta : TE} (h : DE Γ X W e ta a) : DS Γ X W st (tRaise Γ.K (Γ.C c) W (tCons ta tNil)) (sRaise c a) := by
  obtain ⟨p, dn⟩ := h
  refine ⟨hpe p, fun f F H σ ρ P D E q o => ?_⟩
  refine dn f F H σ ρ _ _ P.ex E q (fun x ρ1 F1 H1 v1 q1 E1 s1 r1 => ?_) (o.ex σ)
  obtain ⟨u, rfl, q2⟩ := dD_of q1
  show MkR Γ.K (Γ.C c) [v1] H1 fun cls d H' => W cls d σ H'
  refine mkR1 fun dx nd => ?_
  have nF := E1.fnone nd
  exact o.ex σ c u ρ1 _ _ dx v1 q2 (E1.alloc nd) upd_same (Dq.same (same_updF nF) u r1)
/-- try: body except C as n: suite -/
def sTry (yes : Nat → Bool) (i : Nat) (b s : SS) : SS := fun ρ P => b ρ { P with ex := fun c d ρ1 => if yes c = true then s (ρ1.set i (.a (.exc c d))) { P with nx := fun ρ2 => P.nx (ρ2.set i .un), bk := fun ρ2 => P.bk (ρ2.set i .un), ct := fun ρ2 => P.ct (ρ2.set i .un), ex := fun _ _ _ => False } else P.ex c d ρ1 }
theorem ds_try {yes : Nat → Bool} {cl : Value} {tb : WX → TS} {ts : TS} (hy : ∀ c, PySem.W.exmOne Γ.K (.ref (Γ.C c)) cl = some (yes c)) (hpe : PS X st (fun D σ H => tb (wTrk Γ.K cl i ts W D) D σ H)) (hb : ∀ W', DenS Γ W' (tb W') k) (hs : DenS Γ (fun _ _ _ _ => False) ts k') :
    DS Γ X W st (fun D σ H => tb (wTrk Γ.K cl i ts W D) D σ H) (sTry yes i k k') := by
  refine ⟨hpe, fun f F H σ ρ P D E q o => ?_⟩
  refine hb _ (f.from σ ρ F H) F H σ ρ { P with ex := fun c d ρ1 => if yes c = true then k' (ρ1.set i (.a (.exc c d))) { P with nx := fun ρ2 => P.nx (ρ2.set i .un), bk := fun ρ2 => P.bk (ρ2.set i .un), ct := fun ρ2 => P.ct (ρ2.set i .un), ex := fun _ _ _ => False } else P.ex c d ρ1 } D E.self q
    ⟨fun σ1 ρ1 F1 H1 q1 E1 s1 => o.nx σ1 ρ1 F1 H1 q1 (E.trans E1) s1, fun x σ1 ρ1 F1 H1 v q1 E1 s1 r => o.rt x σ1 ρ1 F1 H1 v q1 (E.trans E1) s1 r, fun σ1 ρ1 F1 H1 q1 E1 s1 => o.bk σ1 ρ1 F1 H1 q1 (E.trans E1) s1, fun σ1 ρ1 F1 H1 q1 E1 s1 => o.ct σ1 ρ1 F1 H1 q1 (E.trans E1) s1, fun σ1 c d ρ1 F1 H1 dx v q1 E1' h1 h2 => ?_⟩
  have E1 := E.trans E1'
  have s01 : Same F F1 := E1'.s0
  have q1 : if yes c = true then k' (ρ1.set i (.a (.exc c d))) { P with nx := fun ρ2 => P.nx (ρ2.set i .un), bk := fun ρ2 => P.bk (ρ2.set i .un), ct := fun ρ2 => P.ct (ρ2.set i .un), ex := fun _ _ _ => False } else P.ex c d ρ1 := q1
  refine ⟨yes c, hy c, fun hyes a na => ?_, fun hno => ?_⟩
  · rw [if_pos hyes] at q1
    have nF := E1.fnone na
    have E2 := (E1.alloc (o := exT a (.ref (Γ.C c)) (some dx)) na).setA (i := i) (x := .exc c d) (v := .ref a) ⟨a, dx, v, rfl, upd_same, by rw [upd_ne (ne_of_none h1 nF)]; exact h1, Dq.same (same_updF nF) d h2⟩
    have s02 := s01.trans (same_updF (o := exT a (.ref (Γ.C c)) (some dx)) nF)
    exact hs f _ _ _ _ _ _ E2 q1 ⟨fun σ3 ρ3 F3 H3 q3 E3 s3 => o.nx _ _ _ _ q3 E3.setU (s02.trans s3), fun x σ3 ρ3 F3 H3 u q3 E3 s3 r3 => o.rt _ _ _ _ _ _ q3 E3 (s02.trans s3) r3, fun σ3 ρ3 F3 H3 q3 E3 s3 => o.bk _ _ _ _ q3 E3.setU (s02.trans s3), fun σ3 ρ3 F3 H3 q3 E3 s3 => o.ct _ _ _ _ q3 E3.setU (s02.trans s3), fun _ _ _ _ _ _ _ _ z => z.elim⟩
  · rw [hno, if_neg (by decide)] at q1
    exact o.ex σ1 c d ρ1 F1 H1 dx v q1 E1 h1 h2
end
/-! ### a def by its body -/
def initS (rg : Bool) (n : Nat) (N : List Str) (xs : List A) : List Sl := match rg with
  | true => .rng n :: (xs.map Sl.a ++ List.replicate (N.length - (xs.length + 1)) .un)
  | false => xs.map Sl.a ++ List.replicate (N.length - xs.length) .un
def outR (rg : Bool) (R : A → Nat → Prop) (x : A) (ρ : List Sl) : Prop := match rg with
  | true => match (ρ[0]? : Option Sl) with | some (Sl.rng n) => R x n | _ => False
  | false => R x 0
def outX (rg : Bool) (R : Nat → PyData → Nat → Prop) (c : Nat) (x : PyData) (ρ : List Sl) : Prop := match rg with
  | true => match (ρ[0]? : Option Sl) with | some (Sl.rng n) => R c x n | _ => False
  | false => R c x 0
def ends0 (rg : Bool) (R : A → Nat → Prop) : EndsP := ⟨outR rg R (.d .none), outR rg R, fun _ => False, fun _ => False, fun _ _ _ => False⟩
def endsX (rg : Bool) (R : A → Nat → Prop) (Xx : Nat → PyData → Nat → Prop) : EndsP := ⟨outR rg R (.d .none), outR rg R, fun _ => False, fun _ => False, outX rg Xx⟩
section
variable {Γ : Gx} {f : Fr} {F H F' H' : Hp} {σ : L2.St} {ρ : List Sl}
theorem sl_init : ∀ {us : List V} {xs : List A} (m j : Nat), RpAll Γ F us xs → ∀ (i : Nat) (s : Sl), (xs.map Sl.a ++ List.replicate m .un)[i]? = some s → (s = .un ∨ ∃ x, s = .a x) ∧ SlR Γ f F H j ((us.map some ++ List.replicate m none)[i]?) s
  | [], [], m, j, _, i, s, h => by
    simp only [List.map_nil, List.nil_append] at h ⊢
    rw [List.getElem?_replicate] at h
    split at h
    · cases h
      exact ⟨.inl rfl, trivial⟩
    · cases h
  | u :: us, x :: xs, m, j, ⟨h1, h2⟩, 0, s, h => by
    simp at h
    subst h
    exact ⟨.inr ⟨x, rfl⟩, u, rfl, h1⟩
  | u :: us, x :: xs, m, j, ⟨h1, h2⟩, i + 1, s, h => sl_init m j h2 i s (by simpa using h)
  | [], _ :: _, _, _, h, _, _, _ => h.elim
  | _ :: _, [], _, _, h, _, _, _ => h.elim
theorem ent_init {N : List Str} {vs us : List V} {xs : List A} {rg : Bool} {R : Addr → Prop} {r : Addr} {n : Nat} (hvs : vs = if rg = true then V.ref r :: us else us) (hr : RpAll Γ F us xs) (s : Same F H) (hR : ∀ b, R b → F b = none ∧ H b ≠ none) (hcl : ∀ a o, F a = some o → okO F a o) (hat : rg = true → Γ.I.at_ R r H n) :
    Ent Γ ⟨R, R, r, 0, F, H⟩ F H (start N vs) (initS rg n N xs) := by
  have key : ∀ (i : Nat) (s : Sl), (initS rg n N xs)[i]? = some s → ((∃ m, s = .rng m) ∨ s = .un ∨ ∃ x, s = .a x) ∧ SlR Γ ⟨R, R, r, 0, F, H⟩ F H i (start N vs)[i]? s := by
    intro i s hi
    subst hvs
    cases rg with
    | false =>
      have := sl_init (Γ := Γ) (f := ⟨R, R, r, 0, F, H⟩) (H := H) (N.length - us.length) i hr i s (by rw [hr.len]; exact hi)
      exact ⟨.inr this.1, this.2⟩
    | true =>
      cases i with
      | zero =>
        have hi : some (Sl.rng n) = some s := hi
        cases hi
        exact ⟨.inl ⟨n, rfl⟩, ⟨rfl, rfl⟩, hat rfl⟩
      | succ i =>
        have := sl_init (Γ := Γ) (f := ⟨R, R, r, 0, F, H⟩) (H := H) (N.length - (us.length + 1)) (i + 1) hr i s (by rw [hr.len]; exact hi)
        refine ⟨.inr this.1, ?_⟩
        have e : (start N (if true = true then V.ref r :: us else us))[i + 1]? = (us.map some ++ List.replicate (N.length - (us.length + 1)) none)[i]? := rfl
        rw [e]
        exact this.2
  have noOwn : ∀ (i : Nat) (ds : List PyData), (initS rg n N xs)[i]? = some (Sl.own ds) → False := fun i ds h => by
    rcases (key i _ h).1 with ⟨m, e⟩ | e | ⟨x, e⟩ <;> cases e
  refine ⟨Same.refl _, s, fun b o e => .inl e, fun b o e _ => e, fun b e => e, ?_, fun i s hi => (key i s hi).2, fun i j a ds es h1 => (noOwn i ds h1).elim, fun b h => h, fun b h => (hR b h).1, fun b h => (hR b h).2, fun b _ ⟨i, ds, h1, _⟩ => noOwn i ds h1, fun b h => (hR b h).2, hcl⟩
  subst hvs
  unfold L2.start initS
  cases rg with
  | false =>
    show (us.map some ++ List.replicate (N.length - us.length) none).length = (xs.map Sl.a ++ List.replicate (N.length - xs.length) Sl.un).length
    simp [hr.len]
  | true =>
    show ((V.ref r :: us).map some ++ List.replicate (N.length - (us.length + 1)) none).length = (Sl.rng n :: (xs.map Sl.a ++ List.replicate (N.length - (xs.length + 1)) .un)).length
    simp [hr.len]
theorem stp_of {R : Addr → Prop} {r : Addr} {rg : Bool} {n' : Nat} (E : Ent Γ ⟨R, R, r, 0, F, H⟩ F' H' σ ρ) (hR : rg = false → ∀ b, ¬ R b) (hat : rg = true → ρ[0]? = some (.rng n')) : Stp Γ rg R r F H F' H' n' := by
  refine ⟨E.s0, E.s1, fun b o e => ?_, E.chg, E.liv, fun h => (E.sl 0 _ (hat h)).2, E.cl⟩
  rcases E.new b o e with z | z | z
  · exact .inl z
  · exact .inr z
  · rw [E.rF b z] at e; cases e
variable {P : Program} {w : World} {mg : Str → Option Value} {base : Heap} {k : Nat} {x : Str} {st : Stmt} {N ps : List Str} {φ : Phi} {rg : Bool}
theorem sp_len (len : ∀ n xs R Xx, φ n xs R Xx → (if rg = true then 1 else 0) + xs.length = ps.length) : ∀ vs H Q E, spP Γ rg φ vs H Q E → vs.length = ps.length := fun vs H Q E ⟨R, r, F, n, xs, us, RR, Xx, e, hr, _, _, _, _, _, q, _⟩ => by
  have := len n xs RR Xx q
  rw [e, ← this]
  cases rg
  · simp [hr.len]
  · simp [hr.len]
    omega
theorem body0 {κ : SS} {t : TS} {X : Cx} {vs : List V} {Q : VK} {E : XK} (h : spP Γ rg φ vs H Q E) (d : DenS Γ (fun _ _ _ _ => False) t κ) (hb : ∀ n xs R, φ n xs R (fun _ _ _ => False) → κ (initS rg n N xs) (ends0 rg R)) (hX : ∀ n xs R Xx, φ n xs R Xx → φ n xs R fun _ _ _ => False) :
    t { nx := fun _ H' => Q .non H', rt := Q } (start N vs) H := by
  obtain ⟨R, r, F, n, xs, us, RR, Xx, e, hr, s, hR, hcl, hat, hno, q, o, ox⟩ := h
  have E0 := ent_init (N := N) (n := n) e hr s hR hcl hat
  refine d _ F H _ _ _ _ E0 (hb n xs RR (hX n xs RR Xx q)) ⟨fun σ ρ F' H' p E' s' => ?_, fun x σ ρ F' H' v p E' s' r' => ?_, fun _ _ _ _ p => p.elim, fun _ _ _ _ p => p.elim, fun _ _ _ _ _ _ _ _ p => p.elim⟩
  · cases rg with
    | false => exact o _ 0 .non F' H' p (stp_of E' hno fun z => Bool.noConfusion z) .non
    | true =>
      have p : (match (ρ[0]? : Option Sl) with | some (Sl.rng n) => RR (.d .none) n | _ => False) := p
      split at p
      · rename_i n' hn
        exact o _ n' .non F' H' p (stp_of E' hno fun _ => hn) .non
      · exact p.elim
  · cases rg with
    | false => exact o _ 0 v F' H' p (stp_of E' hno fun z => Bool.noConfusion z) r'
    | true =>
      have p : (match (ρ[0]? : Option Sl) with | some (Sl.rng n) => RR x n | _ => False) := p
      split at p
      · rename_i n' hn
        exact o _ n' v F' H' p (stp_of E' hno fun _ => hn) r'
      · exact p.elim
theorem bodyX {κ : SS} {t : TS} {vs : List V} {Q : VK} {E : XK} (h : spP Γ rg φ vs H Q E) (d : DenS Γ (fun cls dx _ H => E cls dx H) t κ) (hb : ∀ n xs R Xx, φ n xs R Xx → κ (initS rg n N xs) (endsX rg R Xx)) :
    t { nx := fun _ H' => Q .non H', rt := Q } (start N vs) H := by
  obtain ⟨R, r, F, n, xs, us, RR, Xx, e, hr, s, hR, hcl, hat, hno, q, o, ox⟩ := h
  have E0 := ent_init (N := N) (n := n) e hr s hR hcl hat
  refine d _ F H _ _ _ _ E0 (hb n xs RR Xx q) ⟨fun σ ρ F' H' p E' s' => ?_, fun x σ ρ F' H' v p E' s' r' => ?_, fun _ _ _ _ p => p.elim, fun _ _ _ _ p => p.elim, fun σ c d ρ F' H' dx v p E' h1 h2 => ?_⟩
  · cases rg with
    | false => exact o _ 0 .non F' H' p (stp_of E' hno fun z => Bool.noConfusion z) .non
    | true =>
      have p : (match (ρ[0]? : Option Sl) with | some (Sl.rng n) => RR (.d .none) n | _ => False) := p
      split at p
      · rename_i n' hn
        exact o _ n' .non F' H' p (stp_of E' hno fun _ => hn) .non
      · exact p.elim
  · cases rg with
    | false => exact o _ 0 v F' H' p (stp_of E' hno fun z => Bool.noConfusion z) r'
    | true =>
      have p : (match (ρ[0]? : Option Sl) with | some (Sl.rng n) => RR x n | _ => False) := p
      split at p
      · rename_i n' hn
        exact o _ n' v F' H' p (stp_of E' hno fun _ => hn) r'
      · exact p.elim
  · cases rg with
    | false => exact ox c d 0 v dx F' H' p (stp_of E' hno fun z => Bool.noConfusion z) h1 h2
    | true =>
      have p : (match (ρ[0]? : Option Sl) with | some (Sl.rng n) => Xx c d n | _ => False) := p
      split at p
      · rename_i n' hn
        exact ox c d n' v dx F' H' p (stp_of E' hno fun _ => hn) h1 h2
      · exact p.elim
/-- a def that raises nothing -/
theorem mkPP (T : Tx Γ.K mg x st) (S : FnScope N ps (defScope st))
    (bi : ∀ (kV doc pm : Value) (an : Option Addr) (cdv ct : Value) (us : List Value), us.length = ps.length → bindArgs (PySem.W.fnOf x x (defArgs st) (defBody st) (defScope st) .none kV doc pm an cdv ct) ⟨us, []⟩ = pure (ps.zip us))
    (len : ∀ n xs R Xx, φ n xs R Xx → (if rg = true then 1 else 0) + xs.length = ps.length) (hX : ∀ n xs R Xx, φ n xs R Xx → φ n xs R fun _ _ _ => False)
    (hbody : ∀ (f : Addr) (cdv : Value) (A : Around) (outer : List Env) (s : Shared) (H : Hp) (E : XK), A.guards = some [] → Room k (A.deeper (envOfC x (defScope st) s.heap.objs.size f cdv)) →
      ∃ t κ, DSs Γ (cxOf CX0 P w Γ.K mg base N x (defScope st) f cdv A outer s H E).nox (fun _ _ _ _ => False) (defBody st) t κ ∧ ∀ n xs R, φ n xs R (fun _ _ _ => False) → κ (initS rg n N xs) (ends0 rg R)) :
    Pr P w Γ.K mg base CX0 (k + 1) x ps (spP Γ rg φ) :=
  mkP T S bi (sp_len len) fun f cdv A outer s H vs Q E hG hr h => by
    obtain ⟨t, κ, d, q⟩ := hbody f cdv A outer s H E hG hr
    exact ⟨t, d.1, body0 (X := cxOf CX0 P w Γ.K mg base N x (defScope st) f cdv A outer s H E) h d.2 q hX⟩
/-- a def that may raise -/
theorem mkPPX (T : Tx Γ.K mg x st) (S : FnScope N ps (defScope st))
    (bi : ∀ (kV doc pm : Value) (an : Option Addr) (cdv ct : Value) (us : List Value), us.length = ps.length → bindArgs (PySem.W.fnOf x x (defArgs st) (defBody st) (defScope st) .none kV doc pm an cdv ct) ⟨us, []⟩ = pure (ps.zip us))
    (len : ∀ n xs R Xx, φ n xs R Xx → (if rg = true then 1 else 0) + xs.length = ps.length)
    (hbody : ∀ (f : Addr) (cdv : Value) (A : Around) (outer : List Env) (s : Shared) (H : Hp) (E : XK), A.guards = some [] → Room k (A.deeper (envOfC x (defScope st) s.heap.objs.size f cdv)) →
      ∃ t κ, DSs Γ (cxOf (L2N.CX P w) P w Γ.K mg base N x (defScope st) f cdv A outer s H E) (fun cls dx _ H => E cls dx H) (defBody st) t κ ∧ ∀ n xs R Xx, φ n xs R Xx → κ (initS rg n N xs) (endsX rg R Xx)) :
    Pr P w Γ.K mg base (L2N.CX P w) (k + 1) x ps (spP Γ rg φ) :=
  mkPX T S bi (sp_len len) fun f cdv A outer s H vs Q E hG hr h => by
    obtain ⟨t, κ, d, q⟩ := hbody f cdv A outer s H E hG hr
    exact ⟨t, d.1, bodyX h d.2 q⟩
/-- a promise by another one -/
theorem Pr.weak {CX : CXT} {K : PySem.W.Frag} {sp sp' : Sp} (h : Pr P w K mg base CX k x ps sp) (hs : ∀ vs H Q E, sp' vs H Q E → sp vs H Q E) : Pr P w K mg base CX k x ps sp' := by
  obtain ⟨f, fd, F, h1, h2, h3⟩ := h
  exact ⟨f, fd, ⟨fun vs H Q E q => F.long vs H Q E (hs _ _ _ _ q), fun A hg hr outer s H e0 args us vs Q E hb rv q => F.goes A hg hr outer s H e0 args us vs Q E hb rv (hs _ _ _ _ q)⟩, h1, h2, h3⟩
end
end Cc

set_option Elab.async false
set_option linter.all false
set_option maxRecDepth 100000
set_option maxHeartbeats 4000000
/-! The pure layer: a promise at a part of the heap; what a def of the heap layer gives. -/
namespace Cc
open PySem PySem.Spec PyProof.Rows L2
/-- F stands in H; a call made it F'; then the whole is H' -/
structure Frm (F H F' H' : Hp) : Prop where
  s1 : Same F' H'
  old : ∀ b o, H b = some o → F b = none → H' b = some o
  new : ∀ b o, F' b = some o → F b ≠ none ∨ H b = none
  liv : ∀ b, H' b = none → F' b = none ∧ (F b ≠ none ∨ H b = none)
  ins : ∀ a C dx fs, F' a = some (.ins C dx fs) → F' dx = some (.own a)
def spFr (sp : Sp) : Sp := fun vs H Q E => ∃ F, Same F H ∧ (∀ a o, F a = some o → okO F a o) ∧ sp vs F (fun v F' => ∀ H', Frm F H F' H' → Q v H') (fun c d F' => ∀ H', Frm F H F' H' → E c d H')
def uni (F H F' : Hp) : Hp := fun b => match F' b with
  | some o => some o
  | none => if F b = none then H b else none
section
variable {P : Program} {w : World} {F H F' : Hp} {h h' : Heap} {fs : List Addr}
theorem uni_of {b : Addr} {o : HO} (e : F' b = some o) : uni F H F' b = some o := by unfold uni; rw [e]
theorem uni_old {b : Addr} (e : F' b = none) (e' : F b = none) : uni F H F' b = H b := by unfold uni; rw [e]; exact if_pos e'
theorem hok_part (ok : HOk P w H h) (s : Same F H) (cl : ∀ a o, F a = some o → okO F a o) : HOk P w F h := by
  have go : ∀ a o, okO F a o → ObjOk P w H h a o → ObjOk P w F h a o := by
    intro a o c q
    cases o with
    | ins C dx fs => exact ⟨c, q.2⟩
    | dT kvs => exact c.elim
    | frz ob u =>
      rcases c with ⟨xs, rfl⟩ | ⟨xs, rfl⟩ <;> exact q
    | own x => exact q
    | lst xs => exact q
    | tup xs => exact q
    | dK kvs => exact q
    | set S n => exact q
    | xd fs => exact q
    | met f x => exact q
    | rng lo hi => exact q
    | tbl ps => exact q
    | ext φ => exact q
  exact fun a o e => go a o (cl a o e) (ok a o (s _ _ e))
theorem obj_there {a : Addr} {o : HO} (x : ObjOk P w H h a o) : ∃ ob, h.get? a = some ob := by
  cases o with
  | lst xs => obtain ⟨_, _, _, _, e⟩ := x; exact ⟨_, e⟩
  | tup xs => obtain ⟨_, _, _, ob, e, _⟩ := x; exact ⟨_, e⟩
  | dK kvs => obtain ⟨_, _, _, _, o, _, _, e, _⟩ := x; exact ⟨_, e⟩
  | dT kvs => obtain ⟨_, _, _, _, o, _, _, e, _⟩ := x; exact ⟨_, e⟩
  | set S n => obtain ⟨o, _, _, _, e, _⟩ := x; exact ⟨_, e⟩
  | ins C dx fs => obtain ⟨_, _, _, e, _⟩ := x; exact ⟨_, e⟩
  | own y => obtain ⟨_, e⟩ := x; exact ⟨_, e⟩
  | xd fs => obtain ⟨_, ⟨_, _, _, e, _⟩, _⟩ := x; exact ⟨_, e⟩
  | rng lo hi => obtain ⟨_, _, _, e⟩ := x; exact ⟨_, e⟩
  | frz ob u => obtain ⟨e, _⟩ := x; exact ⟨_, e⟩
  | tbl ps => exact ⟨_, (show h.get? a = some _ from x)⟩
  | met f y => exact ⟨_, (show h.get? a = some _ from x)⟩
  | ext φ => obtain ⟨_, ⟨_, e⟩, _⟩ := x; exact ⟨_, e⟩
theorem uni_frm (ok : HOk P w H h) (ok' : HOk P w F' h') (s : Same F H) (free : ∀ b o, h.get? b = some o → F b = none → F' b = none) : Frm F H F' (uni F H F') where
  s1 b o e := uni_of e
  old b o e n := by
    obtain ⟨ob, hob⟩ := obj_there (ok b o e)
    rw [uni_old (free b ob hob n) n]
    exact e
  new b o e := by
    cases hF : F b with
    | some u => exact .inl nofun
    | none =>
      refine .inr ?_
      cases hH : H b with
      | none => rfl
      | some u =>
        obtain ⟨ob, hob⟩ := obj_there (ok b u hH)
        rw [free b ob hob hF] at e
        cases e
  liv b e := by
    unfold uni at e
    cases hF' : F' b with
    | some o => rw [hF'] at e; cases e
    | none =>
      rw [hF'] at e
      refine ⟨rfl, ?_⟩
      by_cases hF : F b = none
      · right
        simpa [hF] using e
      · exact .inl hF
  ins a C dx fs e := (ok' a _ e).1
theorem uni_hok (ok : HOk P w H h) (ok' : HOk P w F' h') (s : Same F H) (cl : ∀ a o, F a = some o → okO F a o) (free : ∀ b o, h.get? b = some o → F b = none → F' b = none)
    (keep : ∀ b o u, h.get? b = some o → F b = none → H b = some u → h'.get? b = some o) (tups : ∀ b xs, F b = some (.tup xs) → F' b = some (.tup xs)) : HOk P w (uni F H F') h' := by
  have fr := uni_frm ok ok' s free
  have there : ∀ {b u}, H b = some u → ∃ ob, h.get? b = some ob := fun {b u} e => obj_there (ok b u e)
  intro a o e
  cases hF' : F' a with
  | some u =>
    rw [uni_of hF'] at e
    cases e
    exact (ok' a o hF').stay (fun b u _ q => q) (fun b q => uni_of q) fun b xs q => uni_of q
  | none =>
    unfold uni at e
    rw [hF'] at e
    by_cases hF : F a = none
    · have e : H a = some o := by simpa [hF] using e
      have ownF : ∀ b, H b = some (.own a) → F b = none := fun b q => by
        cases hb : F b with
        | none => rfl
        | some u =>
          have := cl b u hb
          have z := s _ _ hb
          rw [q] at z
          cases z
          exact absurd hF this
      refine (ok a o e).stay (fun b u hb q => ?_) (fun b q => fr.old b _ q (ownF b q)) fun b xs q => ?_
      · rcases hb with rfl | hb
        · exact keep b u o q hF e
        · exact keep b u _ q (ownF b hb) hb
      · cases hb : F b with
        | none => exact fr.old b _ q hb
        | some u =>
          have z := s _ _ hb
          rw [q] at z
          cases z
          exact uni_of (tups b xs hb)
    · simp [hF] at e
end
section
variable {P : Program} {w : World} {K : PySem.W.Frag} {mg : Str → Option Value} {base : Heap} {k : Nat} {f : Addr} {fd : FuncData} {ps : List Str} {sp : Sp}
theorem ce_frame {outer : List Env} {s s' : Shared} {H F : Hp} {Q : VK} {u : Value} (ok : HOk P w H s.heap) (frf : ∀ b ∈ frs outer, H b = none) (sF : Same F H) (cl : ∀ a o, F a = some o → okO F a o)
    (h : CE outer P w F s (fun v F' => ∀ H', Frm F H F' H' → Q v H') u s') : CE outer P w H s Q u s' := by
  obtain ⟨v, F', os, bare, un, hok', rv, q⟩ := h
  have nof : ∀ {b u}, H b = some u → b ∉ frs outer := fun {b u} e hb => by rw [frf b hb] at e; cases e
  have free : ∀ b o, s.heap.get? b = some o → F b = none → F' b = none := fun b o e n => un.free b o e n (by simp)
  have fr := uni_frm ok hok' sF free
  have there : ∀ {b u}, H b = some u → ∃ ob, s.heap.get? b = some ob := fun {b u} e => obj_there (ok b u e)
  have Fn : ∀ {b}, H b = none → F b = none := fun {b} e => by
    cases hb : F b with
    | none => rfl
    | some u => rw [sF _ _ hb] at e; cases e
  have imm : ∀ {b u}, H b = some u → (∀ x, F b = some x → x = u → F' b = some u) → uni F H F' b = some u := fun {b u} e hh => by
    cases hb : F b with
    | none => exact fr.old b u e hb
    | some x =>
      have z := sF _ _ hb
      rw [e] at z
      cases z
      exact uni_of (hh u hb rfl)
  refine ⟨v, uni F H F', os, bare, ⟨fun b o e n h1 h2 => un.keep b o e (Fn n) h1 h2, fun b o e n h1 h2 => un.slot b o e (Fn n) h1 h2, fun b o e n h1 => ?_, un.there, fun b xs e => ?_, fun b o u e => ?_, fun b ps e => ?_⟩, uni_hok ok hok' sF cl free (fun b o u e n hu => un.keep b o e n (nof hu) (by simp)) un.tups, rv, q _ fr⟩
  · rw [uni_old (free b o e (Fn n)) (Fn n)]; exact n
  · exact imm e fun x hx hxu => un.tups b xs (by rw [hx, hxu])
  · exact imm e fun x hx hxu => un.frzs b o u (by rw [hx, hxu])
  · cases hb : F b with
    | none => exact ⟨#[], by rw [fr.old b _ e hb]; simp⟩
    | some x =>
      have z := sF _ _ hb
      rw [e] at z
      cases z
      obtain ⟨more, hm⟩ := un.tbls b ps hb
      exact ⟨more, uni_of hm⟩
theorem cx_frame {outer : List Env} {s s' : Shared} {H F : Hp} {E : XK} {u : Value} (ok : HOk P w H s.heap) (frf : ∀ b ∈ frs outer, H b = none) (sF : Same F H) (cl : ∀ a o, F a = some o → okO F a o)
    (h : L2N.CX P w outer F s (fun c d F' => ∀ H', Frm F H F' H' → E c d H') u s') : L2N.CX P w outer H s E u s' := by
  obtain ⟨a, B, F', cls, d, e0, fly, hok', ub, na, os, bare, q⟩ := h
  have nof : ∀ {b u}, H b = some u → b ∉ frs outer := fun {b u} e hb => by rw [frf b hb] at e; cases e
  have free : ∀ b o, s.heap.get? b = some o → F b = none → F' b = none := fun b o e n => ub.free b o e n
  have fr := uni_frm ok hok' sF free
  have there : ∀ {b u}, H b = some u → ∃ ob, s.heap.get? b = some ob := fun {b u} e => obj_there (ok b u e)
  have Fn : ∀ {b}, H b = none → F b = none := fun {b} e => by
    cases hb : F b with
    | none => rfl
    | some u => rw [sF _ _ hb] at e; cases e
  have imm : ∀ {b u}, H b = some u → (∀ x, F b = some x → x = u → F' b = some u) → uni F H F' b = some u := fun {b u} e hh => by
    cases hb : F b with
    | none => exact fr.old b u e hb
    | some x =>
      have z := sF _ _ hb
      rw [e] at z
      cases z
      exact uni_of (hh u hb rfl)
  refine ⟨a, B, uni F H F', cls, d, e0, fly, uni_hok ok hok' sF cl free (fun b o u e n hu => ub.keep b o e n (nof hu)) ub.tups, ⟨fun b o e n h1 => ub.keep b o e (Fn n) h1, ub.slot, fun b o e n => ?_, ub.there, fun b xs e => ?_, fun b o u e => ?_, fun b ps e => ?_⟩, ?_, os, bare, q _ fr⟩
  · rw [uni_old (free b o e (Fn n)) (Fn n)]; exact n
  · exact imm e fun x hx hxu => ub.tups b xs (by rw [hx, hxu])
  · exact imm e fun x hx hxu => ub.frzs b o u (by rw [hx, hxu])
  · cases hb : F b with
    | none => exact ⟨#[], by rw [fr.old b _ e hb]; simp⟩
    | some x =>
      have z := sF _ _ hb
      rw [e] at z
      cases z
      obtain ⟨more, hm⟩ := ub.tbls b ps hb
      exact ⟨more, uni_of hm⟩
  · cases hFa : F a with
    | some x =>
      obtain ⟨o', ho'⟩ := ub.there a _ (there (sF _ _ hFa)).choose_spec (nof (sF _ _ hFa))
      have nB := fly.2.1
      rw [ho'] at nB
      cases nB
    | none =>
      rw [uni_old na hFa]
      cases hHa : H a with
      | none => rfl
      | some x =>
        obtain ⟨o', ho'⟩ := ub.there a _ (there hHa).choose_spec (nof hHa)
        have nB := fly.2.1
        rw [ho'] at nB
        cases nB
theorem FnG.frame0 (Fn : FnG P w K mg base CX0 k f fd ps sp) : FnG P w K mg base CX0 k f fd ps (spFr sp) :=
  ⟨fun vs H Q E ⟨F, _, _, q⟩ => Fn.long vs F _ _ q, fun A hg hr outer s H e0 args us vs Q E hb rv ⟨F, sF, cl, q⟩ => by
    have Fnn : ∀ {b}, H b = none → F b = none := fun {b} e => by
      cases hb : F b with
      | none => rfl
      | some u => rw [sF _ _ hb] at e; cases e
    refine codeAny_mono (Fn.goes A hg hr outer s F ⟨e0.frames, e0.mod, fun b o e => ⟨(e0.bs b o e).1, Fnn (e0.bs b o e).2⟩, e0.bsz, e0.funs, fun b hb => Fnn (e0.frf b hb), hok_part e0.hok sF cl, e0.bare⟩ args us vs _ _ hb rv q) fun r s' z => ?_
    match r, z with
    | .error e, z => exact z.elim
    | .ok (.ret u), z => exact ce_frame e0.hok e0.frf sF cl z
    | .ok .next, z => exact z.elim
    | .ok .brk, z => exact z.elim
    | .ok .cont, z => exact z.elim⟩
theorem FnG.frameX (Fn : FnG P w K mg base (L2N.CX P w) k f fd ps sp) : FnG P w K mg base (L2N.CX P w) k f fd ps (spFr sp) :=
  ⟨fun vs H Q E ⟨F, _, _, q⟩ => Fn.long vs F _ _ q, fun A hg hr outer s H e0 args us vs Q E hb rv ⟨F, sF, cl, q⟩ => by
    have Fnn : ∀ {b}, H b = none → F b = none := fun {b} e => by
      cases hb : F b with
      | none => rfl
      | some u => rw [sF _ _ hb] at e; cases e
    refine codeAny_mono (Fn.goes A hg hr outer s F ⟨e0.frames, e0.mod, fun b o e => ⟨(e0.bs b o e).1, Fnn (e0.bs b o e).2⟩, e0.bsz, e0.funs, fun b hb => Fnn (e0.frf b hb), hok_part e0.hok sF cl, e0.bare⟩ args us vs _ _ hb rv q) fun r s' z => ?_
    match r, z with
    | .error e, z => exact cx_frame e0.hok e0.frf sF cl z
    | .ok (.ret u), z => exact ce_frame e0.hok e0.frf sF cl z
    | .ok .next, z => exact z.elim
    | .ok .brk, z => exact z.elim
    | .ok .cont, z => exact z.elim⟩
theorem Pr.frame0 {x : Str} (h : Pr P w K mg base CX0 k x ps sp) : Pr P w K mg base CX0 k x ps (spFr sp) := by
  obtain ⟨f, fd, F, h1, h2, h3⟩ := h
  exact ⟨f, fd, F.frame0, h1, h2, h3⟩
theorem Pr.frameX {x : Str} (h : Pr P w K mg base (L2N.CX P w) k x ps sp) : Pr P w K mg base (L2N.CX P w) k x ps (spFr sp) := by
  obtain ⟨f, fd, F, h1, h2, h3⟩ := h
  exact ⟨f, fd, F.frameX, h1, h2, h3⟩
end
end Cc

set_option Elab.async false
set_option linter.all false
set_option maxRecDepth 100000
set_option maxHeartbeats 4000000
/-! The pure layer: built-ins, comprehensions, exceptions' questions. -/
namespace Cc
open PySem PySem.Spec PyProof.Rows L2
def pMin : PL
  | [.d (.int i), .d (.int j)], R => R (.int (if j < i then j else i))
  | _, _ => False
def pMax : PL
  | [.d (.int i), .d (.int j)], R => R (.int (if j > i then j else i))
  | _, _ => False
def pAbs : PL
  | [.d (.int i)], R => R (.int (if i < 0 then -i else i))
  | _, _ => False
def pTuple : PL
  | [.d (.list ds)], R => R (.tuple ds)
  | [.d (.tuple ds)], R => R (.tuple ds)
  | _, _ => False
def pRepr : PL
  | [.d d], R => d.showable = true ∧ d.depth ≤ 60 ∧ d.shown.length ≤ sizeLine ∧ R (.str d.shown)
  | _, _ => False
def pLenB : PL
  | [x], R => pLen x fun n => R (.int n)
  | _, _ => False
def pSum : PL
  | [.d (.list ds)], R => ∃ ns : List Int, ds = ns.map PyData.int ∧ R (.int ns.sum)
  | _, _ => False
def pAll : PL
  | [.d (.list ds)], R => ∃ bs : List Bool, ds = bs.map PyData.bool ∧ R (.bool (bs.all id))
  | _, _ => False
def pAny : PL
  | [.d (.list ds)], R => ∃ bs : List Bool, ds = bs.map PyData.bool ∧ R (.bool (bs.any id))
  | _, _ => False
section
variable {Γ : Gx} {X : Cx} {W : WX} {f : Fr} {F H F' H' : Hp} {σ σ' : L2.St} {ρ ρ' : List Sl} {x : A} {v : V} {d : PyData} {e e1 e2 e3 tg : Expr} {a b c : EE} {i j : Nat} {es : List Expr} {pos : Pos} {st : Stmt} {sts sts' : List Stmt} {k k' : SS} {gs : List Nat}
theorem rp1 {vs : List V} {y : A} (r : RpAll Γ F vs [y]) : ∃ u, vs = [u] ∧ Rp Γ F u y := by
  match vs, r with
  | [u], r => exact ⟨u, rfl, r.1⟩
  | [], r => exact r.elim
  | _ :: _ :: _, r => exact r.2.elim
theorem rp2 {vs : List V} {y z : A} (r : RpAll Γ F vs [y, z]) : ∃ u w, vs = [u, w] ∧ Rp Γ F u y ∧ Rp Γ F w z := by
  match vs, r with
  | [u, w], r => exact ⟨u, w, rfl, r.1, r.2.1⟩
  | [], r => exact r.elim
  | [_], r => exact r.2.elim
  | _ :: _ :: _ :: _, r => exact r.2.2.elim
theorem cd_min : CallD Γ (fun xs H Q => ∃ i j, xs = [V.int i, .int j] ∧ Q (.int (if j < i then j else i)) H) pMin := fun f F H σ ρ vs xs Q R E r p o => by
  unfold pMin at p
  split at p
  · obtain ⟨u, w, rfl, r1, r2⟩ := rp2 r
    cases r1; cases r2
    exact ⟨_, _, rfl, o _ _ _ _ p E (Same.refl _) (.int _)⟩
  · exact p.elim
theorem cd_max : CallD Γ (fun xs H Q => ∃ i j, xs = [V.int i, .int j] ∧ Q (.int (if j > i then j else i)) H) pMax := fun f F H σ ρ vs xs Q R E r p o => by
  unfold pMax at p
  split at p
  · obtain ⟨u, w, rfl, r1, r2⟩ := rp2 r
    cases r1; cases r2
    exact ⟨_, _, rfl, o _ _ _ _ p E (Same.refl _) (.int _)⟩
  · exact p.elim
theorem cd_abs : CallD Γ (fun xs H Q => ∃ i, xs = [V.int i] ∧ Q (.int (if i < 0 then -i else i)) H) pAbs := fun f F H σ ρ vs xs Q R E r p o => by
  unfold pAbs at p
  split at p
  · obtain ⟨u, rfl, r1⟩ := rp1 r
    cases r1
    exact ⟨_, rfl, o _ _ _ _ p E (Same.refl _) (.int _)⟩
  · exact p.elim
def rTupleOf (K : PySem.W.Frag) : List V → Hp → VK → Prop := fun xs H Q => ∃ p ys, xs = [V.ref p] ∧ ((SqL K H p ys ∧ ∀ l, H l = none → Q (.ref l) (upd H l (.tup ys))) ∨ (SqT K H p ys ∧ Q (.ref p) H))
theorem cd_tuple : CallD Γ (rTupleOf Γ.K) pTuple := fun f F H σ ρ vs xs Q R E r p o => by
  unfold pTuple at p
  split at p
  · obtain ⟨u, rfl, r1⟩ := rp1 r
    cases r1 with
    | lst hs ha =>
      refine ⟨_, _, rfl, .inl ⟨.of (E.s1 _ _ hs), fun l nl => ?_⟩⟩
      have nF := E.fnone nl
      exact o _ _ _ _ p (E.alloc nl) (same_updF nF) (.tup (.of upd_same) (DqAll.same (same_updF nF) _ ha))
  · obtain ⟨u, rfl, r1⟩ := rp1 r
    cases r1 with
    | tup hs ha => exact ⟨_, _, rfl, .inr ⟨Same.tup E.s1 hs, o _ _ _ _ p E (Same.refl _) (.tup hs ha)⟩⟩
  · exact p.elim
theorem cd_repr : CallD Γ (rRepD Γ.K) pRepr := fun f F H σ ρ vs xs Q R E r p o => by
  unfold pRepr at p
  split at p
  · obtain ⟨u, rfl, r1⟩ := rp1 r
    exact ⟨_, _, rfl, Dp.same E.s1 _ (Dq.dp _ r1), p.1, p.2.1, p.2.2.1, o _ _ _ _ p.2.2.2 E (Same.refl _) (.str _)⟩
  · exact p.elim
theorem cd_len : CallD Γ (fun xs H Q => ∃ p ys, xs = [V.ref p] ∧ (SqL Γ.K H p ys ∨ SqT Γ.K H p ys) ∧ Q (.int ys.length) H) pLenB := fun f F H σ ρ vs xs Q R E r p o => by
  unfold pLenB at p
  split at p
  · obtain ⟨u, rfl, r1⟩ := rp1 r
    unfold pLen at p
    split at p
    · cases r1 with
      | lst hs ha => exact ⟨_, _, rfl, .inl (.of (E.s1 _ _ hs)), by rw [ha.len]; exact o _ _ _ _ p E (Same.refl _) (.int _)⟩
    · cases r1 with
      | tup hs ha => exact ⟨_, _, rfl, .inr (Same.tup E.s1 hs), by rw [ha.len]; exact o _ _ _ _ p E (Same.refl _) (.int _)⟩
    · obtain ⟨q, rfl, hs⟩ := r1
      exact ⟨_, _, rfl, .inl (E.s1.seq hs), by rw [List.length_map]; exact o _ _ _ _ p E (Same.refl _) (.int _)⟩
    · exact p.elim
  · exact p.elim
theorem cd_sum : CallD Γ (rSum Γ.K) pSum := fun f F H σ ρ vs xs Q R E r p o => by
  unfold pSum at p
  split at p
  · obtain ⟨u, rfl, r1⟩ := rp1 r
    obtain ⟨ns, rfl, p⟩ := p
    cases r1 with
    | lst hs ha =>
      have e := ha.ints
      subst e
      exact ⟨_, ns, rfl, .of (E.s1 _ _ hs), o _ _ _ _ p E (Same.refl _) (.int _)⟩
  · exact p.elim
theorem cd_all : CallD Γ (rAll Γ.K) pAll := fun f F H σ ρ vs xs Q R E r p o => by
  unfold pAll at p
  split at p
  · obtain ⟨u, rfl, r1⟩ := rp1 r
    obtain ⟨ns, rfl, p⟩ := p
    cases r1 with
    | lst hs ha =>
      have e := ha.bools
      subst e
      exact ⟨_, ns, rfl, .of (E.s1 _ _ hs), o _ _ _ _ p E (Same.refl _) (.bl _)⟩
  · exact p.elim
theorem cd_any : CallD Γ (rAny Γ.K) pAny := fun f F H σ ρ vs xs Q R E r p o => by
  unfold pAny at p
  split at p
  · obtain ⟨u, rfl, r1⟩ := rp1 r
    obtain ⟨ns, rfl, p⟩ := p
    cases r1 with
    | lst hs ha =>
      have e := ha.bools
      subst e
      exact ⟨_, ns, rfl, .of (E.s1 _ _ hs), o _ _ _ _ p E (Same.refl _) (.bl _)⟩
  · exact p.elim
/-- sorted(xs) of ints -/
def lSortI (a : EE) : LL := fun ρ R Xx => a ρ (fun x ρ1 => dL x fun ds => ∃ ns : List Int, ds = ns.map PyData.int ∧ ns.length < 64 ∧ ∀ ns' : List Int, ns'.Perm ns → ns'.Pairwise (· ≤ ·) → R (ns'.map PyData.int) ρ1) Xx
theorem dl_sortI (hpe : ∀ {ta : TE}, PE X e1 ta → PE X e (tCB (rSorted Γ.K) (tCons ta tNil))) {ta : TE} (h1 : DE Γ X W e1 ta a) : DL Γ X W e (tCB (rSorted Γ.K) (tCons ta tNil)) (lSortI a) := by
  obtain ⟨p1, d1⟩ := h1
  refine ⟨hpe p1, fun f F H σ ρ Q R Xx E q o ox => ?_⟩
  refine d1 f F H σ ρ _ _ Xx E q (fun x ρ1 F1 H1 v1 q1 E1 s1 r1 => ?_) ox
  obtain ⟨us, rfl, q2⟩ := dL_of q1
  obtain ⟨ns, rfl, h64, q2⟩ := q2
  cases r1 with
  | lst hs ha =>
    have e := ha.ints
    subst e
    exact ⟨_, ns, rfl, .of (E1.s1 _ _ hs), h64, fun ns' p h1 h2 np => o _ _ _ _ _ _ (q2 ns' h1 h2) (E1.raw np) s1 (own_new E1 (dqInts ns') np)⟩
/-! ### comprehensions -/
def DTs (Γ : Gx) (X : Cx) (W : WX) (es : List Expr) (t : TT) (ε : BB) : Prop := PTs X es t ∧ DenB Γ W t ε
theorem dts_nil : DTs Γ X W [] tYes bYes := ⟨pts_nil, fun f F H σ ρ Q R Xx E q o ox => o _ _ _ _ q E (Same.refl _)⟩
theorem dts_one {t : TT} {τ : BB} (h : DT Γ X W e t τ) : DTs Γ X W [e] t τ := ⟨pts_one h.1, h.2⟩
abbrev WF : WX := fun _ _ _ _ => False
def aShared : Shared := {}
theorem dl_comp {elt iter : Expr} {ifs : List Expr} {scope : Scope} {own : List (Str × Nat)} {ι : II} {γ : GG} {τ : BB} {ε : EE} {wi : TI} {g : TG} {tt : TT} {te : TE} (hc : X.calm = true) (hN : X.N.Nodup) (hi : DI Γ X W tg iter wi ι) (ok : BlkOk X.N X.env.scope scope own)
    (hg : ∀ (s : Shared) (H : Hp) (C : Addr) (cl : List (Str × Addr)) (fp : List Addr), DG Γ (X.blk s H scope (compEnvC scope cl C X.env) fp) tg g γ gs)
    (ht : ∀ (s : Shared) (H : Hp) (C : Addr) (cl : List (Str × Addr)) (fp : List Addr), DTs Γ (X.blk s H scope (compEnvC scope cl C X.env) fp) WF ifs tt τ)
    (he : ∀ (s : Shared) (H : Hp) (C : Addr) (cl : List (Str × Addr)) (fp : List Addr), DE Γ (X.blk s H scope (compEnvC scope cl C X.env) fp) WF elt te ε)
    (hn : (own.map (·.2)).Nodup := by decide) (hgs : ∀ v ∈ gs, v ∈ own.map (·.2) := by decide) (hs : ∀ x, foldedSetIterable iter X.env x = pure x := by intro _; rfl) :
    DL Γ X W (.ListComp elt [⟨tg, iter, ifs, 0⟩] scope pos) (tLc wi g tt te (own.map (·.2))) (lLc ι γ τ ε (own.map (·.2))) :=
  dl_lc (X' := X) (t0 := te) hn hgs (pe_lc hc hN hi.1 ok (fun s H C cl fp => (hg s H C cl fp).1) (fun s H C cl fp => (ht s H C cl fp).1) (fun s H C cl fp => (he s H C cl fp).1) hs) hi.2 (hg aShared (fun _ => none) 0 [] []).2 (ht aShared (fun _ => none) 0 [] []).2 (he aShared (fun _ => none) 0 [] []).2
theorem den_setO {l : LL} {t : TE} (d : DenL Γ W t l) : DenS Γ W (tAsg t (gName i)) (sSetO i l) := fun f F H σ ρ P D E q o => by
  refine d f F H σ ρ _ _ P.ex E q (fun ds ρ1 F1 H1 a xs q1 E1 s1 w => ?_) (o.ex σ)
  exact o.nx _ _ _ _ q1 (E1.setO w.hH w.hD w.hF (.inl w.h0) w.hO w.hR) s1
theorem den_set {t : TE} (d : DenE Γ W t a) : DenS Γ W (tAsg t (gName i)) (sAsg a (gNm i)) := fun f F H σ ρ P D E q o => by
  refine d f F H σ ρ _ _ P.ex E q (fun x ρ1 F1 H1 v1 q1 E1 s1 r1 => ?_) (o.ex σ)
  exact den_gName f F1 H1 σ ρ1 v1 x _ _ E1 r1 q1 fun σ2 ρ2 F2 H2 q2 E2 s2 _ _ => o.nx _ _ _ _ q2 E2 (s1.trans s2)
/-- x = [.. for ..] -/
theorem ds_setLcO {y : Str} {py spos : Pos} {elt iter : Expr} {ifs : List Expr} {scope : Scope} {own : List (Str × Nat)} {ι : II} {γ : GG} {τ : BB} {ε : EE} {wi : TI} {g : TG} {tt : TT} {te : TE} (hc : X.calm = true) (hN : X.N.Nodup) (hy : X.N[i]? = some y) (hyl : X.env.scope.names.lookup y = some .local)
    (hsw : swapsWith (.ListComp elt [⟨tg, iter, ifs, 0⟩] scope pos) (some (.Name y py)) spos.line X.env = pure true) (hi : DI Γ X W tg iter wi ι) (ok : BlkOk X.N X.env.scope scope own)
    (hg : ∀ (s : Shared) (H : Hp) (C : Addr) (cl : List (Str × Addr)) (fp : List Addr), DG Γ (X.blk s H scope (compEnvC scope cl C X.env) fp) tg g γ gs)
    (ht : ∀ (s : Shared) (H : Hp) (C : Addr) (cl : List (Str × Addr)) (fp : List Addr), DTs Γ (X.blk s H scope (compEnvC scope cl C X.env) fp) WF ifs tt τ)
    (he : ∀ (s : Shared) (H : Hp) (C : Addr) (cl : List (Str × Addr)) (fp : List Addr), DE Γ (X.blk s H scope (compEnvC scope cl C X.env) fp) WF elt te ε)
    (hn : (own.map (·.2)).Nodup := by decide) (hgs : ∀ v ∈ gs, v ∈ own.map (·.2) := by decide) (hs : ∀ x, foldedSetIterable iter X.env x = pure x := by intro _; rfl) :
    DS Γ X W (.Assign [.Name y py] (.ListComp elt [⟨tg, iter, ifs, 0⟩] scope pos) spos) (tAsg (tLc wi g tt te (own.map (·.2))) (gName i)) (sSetO i (lLc ι γ τ ε (own.map (·.2)))) := by
  have h := dl_comp (pos := pos) hc hN hi ok hg ht he hn hgs hs
  exact ⟨ps_setLc hc hN hy hyl hsw hi.1 ok (fun s H C cl fp => (hg s H C cl fp).1) (fun s H C cl fp => (ht s H C cl fp).1) (fun s H C cl fp => (he s H C cl fp).1) hs, den_setO h.2⟩
theorem ds_setLc {y : Str} {py spos : Pos} {elt iter : Expr} {ifs : List Expr} {scope : Scope} {own : List (Str × Nat)} {ι : II} {γ : GG} {τ : BB} {ε : EE} {wi : TI} {g : TG} {tt : TT} {te : TE} (hc : X.calm = true) (hN : X.N.Nodup) (hy : X.N[i]? = some y) (hyl : X.env.scope.names.lookup y = some .local)
    (hsw : swapsWith (.ListComp elt [⟨tg, iter, ifs, 0⟩] scope pos) (some (.Name y py)) spos.line X.env = pure true) (hi : DI Γ X W tg iter wi ι) (ok : BlkOk X.N X.env.scope scope own)
    (hg : ∀ (s : Shared) (H : Hp) (C : Addr) (cl : List (Str × Addr)) (fp : List Addr), DG Γ (X.blk s H scope (compEnvC scope cl C X.env) fp) tg g γ gs)
    (ht : ∀ (s : Shared) (H : Hp) (C : Addr) (cl : List (Str × Addr)) (fp : List Addr), DTs Γ (X.blk s H scope (compEnvC scope cl C X.env) fp) WF ifs tt τ)
    (he : ∀ (s : Shared) (H : Hp) (C : Addr) (cl : List (Str × Addr)) (fp : List Addr), DE Γ (X.blk s H scope (compEnvC scope cl C X.env) fp) WF elt te ε)
    (hn : (own.map (·.2)).Nodup := by decide) (hgs : ∀ v ∈ gs, v ∈ own.map (·.2) := by decide) (hs : ∀ x, foldedSetIterable iter X.env x = pure x := by intro _; rfl) :
    DS Γ X W (.Assign [.Name y py] (.ListComp elt [⟨tg, iter, ifs, 0⟩] scope pos) spos) (tAsg (tLc wi g tt te (own.map (·.2))) (gName i)) (sAsg (eFz (lLc ι γ τ ε (own.map (·.2)))) (gNm i)) := by
  have h := de_fz (dl_comp (pos := pos) hc hN hi ok hg ht he hn hgs hs)
  exact ⟨ps_setLc hc hN hy hyl hsw hi.1 ok (fun s H C cl fp => (hg s H C cl fp).1) (fun s H C cl fp => (ht s H C cl fp).1) (fun s H C cl fp => (he s H C cl fp).1) hs, den_set h.2⟩
/-! ### exceptions -/
def eIsX (i : Nat) (b : Nat → Bool) : EE := fun ρ R _ => match ρ[i]? with
  | some (.a (.exc c _)) => R (.d (.bool (b c))) ρ
  | _ => False
theorem de_isX {cv : V} {cu : Value} {bb : Nat → Bool} (hE : ∀ c, ExcC Γ.K (Γ.C c)) (hcv : ClsV cv cu) (hk : ∀ c, PySem.W.kitOne Γ.K (.ref (Γ.C c)) cu = some (bb c)) (hpe : PE X e (tCB (rIsX Γ.K) (tCons (tVar i) (tCons (tC cv) tNil)))) : DE Γ X W e (tCB (rIsX Γ.K) (tCons (tVar i) (tCons (tC cv) tNil))) (eIsX i bb) := by
  refine ⟨hpe, fun f F H σ ρ Q R Xx E q o ox => ?_⟩
  unfold eIsX at q
  split at q
  · rename_i c x hx
    obtain ⟨u, hu, a, dd, uv, rfl, h1, h2, h3⟩ := E.sl i _ hx
    exact ⟨_, hu, a, Γ.C c, dd, _, cv, cu, bb c, rfl, E.s1 _ _ h1, E.s1 _ _ h2, hE c, hcv, hk c, o _ _ _ _ _ q E (Same.refl _) (.bl _)⟩
  · exact q.elim
def eVal (i : Nat) : EE := fun ρ R _ => match ρ[i]? with
  | some (.a (.exc _ d)) => R (.d d) ρ
  | _ => False
theorem de_val (hE : ∀ c, ExcC Γ.K (Γ.C c)) (hno : ∀ c, PySem.W.findIn Γ.K (.ref (Γ.C c)) "value" = some none) (hpe : PE X e (tValue Γ.K (tVar i))) : DE Γ X W e (tValue Γ.K (tVar i)) (eVal i) := by
  refine ⟨hpe, fun f F H σ ρ Q R Xx E q o ox => ?_⟩
  unfold eVal at q
  split at q
  · rename_i c x hx
    obtain ⟨u, hu, a, dd, uv, rfl, h1, h2, h3⟩ := E.sl i _ hx
    exact ⟨_, hu, a, Γ.C c, dd, uv, rfl, E.s1 _ _ h1, E.s1 _ _ h2, hE c, hno c, o _ _ _ _ _ q E (Same.refl _) h3⟩
  · exact q.elim
def eCnt (i : Nat) (b : EE) : EE := fun ρ R Xx => b ρ (fun y ρ1 => dD y fun d => match ρ1[i]? with
  | some (.a (.d (.list ds))) => flatD d = true ∧ ds.all flatD = true ∧ R (.d (.int (ds.countP fun z => eqV (vOf z) (vOf d) : Nat))) ρ1
  | _ => False) Xx
end
end Cc

set_option Elab.async false
set_option linter.all false
set_option maxRecDepth 100000
set_option maxHeartbeats 4000000
/-! The pure layer: readings, one step each. -/
namespace Cc
open PySem PySem.Spec PyProof.Rows L2
section
variable {ρ : List Sl} {R : A → List Sl → Prop} {RL : List PyData → List Sl → Prop} {RA : List A → List Sl → Prop} {RB : Bool → List Sl → Prop} {Xx : XX} {P : EndsP} {a b c : EE} {as : AA} {t : BB} {k k' : SS} {g : GG} {gs : GGs} {l : LL} {i j : Nat} {p p' : P2} {d u w : PyData} {ds es : List PyData} {x : A} {ι : II} {vs : List Nat} {φ : Phi} {pl : PL}
theorem y_var : eVar i ρ R Xx ↔ match ρ[i]? with
  | some (.a x) => R x ρ
  | some (.own ds) => R (.d (.list ds)) (ρ.set i (.a (.d (.list ds))))
  | _ => False := Iff.rfl
theorem y_c : eC d ρ R Xx ↔ R (.d d) ρ := Iff.rfl
theorem y_op : eOp p a b ρ R Xx ↔ a ρ (fun x ρ1 => b ρ1 (fun y ρ2 => dD x fun u => dD y fun w => p u w fun d => R (.d d) ρ2) Xx) Xx := Iff.rfl
theorem y_un {q : PyData → (PyData → Prop) → Prop} : eUn q a ρ R Xx ↔ a ρ (fun x ρ1 => dD x fun u => q u fun d => R (.d d) ρ1) Xx := Iff.rfl
theorem y_and : eAnd a b ρ R Xx ↔ a ρ (fun x ρ1 => dB x fun c => if c = true then b ρ1 R Xx else R (.d (.bool false)) ρ1) Xx := Iff.rfl
theorem y_or : eOr a b ρ R Xx ↔ a ρ (fun x ρ1 => dB x fun c => if c = true then R (.d (.bool true)) ρ1 else b ρ1 R Xx) Xx := Iff.rfl
theorem y_not : eNot a ρ R Xx ↔ a ρ (fun x ρ1 => dB x fun c => R (.d (.bool !c)) ρ1) Xx := Iff.rfl
theorem y_if : eIf t a b ρ R Xx ↔ t ρ (fun c ρ1 => if c = true then a ρ1 R Xx else b ρ1 R Xx) Xx := Iff.rfl
theorem y_isN : eIsN a ρ R Xx ↔ a ρ (fun x ρ1 => R (.d (.bool (isNon x))) ρ1) Xx := Iff.rfl
theorem y_notN : eNotN a ρ R Xx ↔ a ρ (fun x ρ1 => R (.d (.bool !(isNon x))) ρ1) Xx := Iff.rfl
theorem y_bOf : bOf a ρ RB Xx ↔ a ρ (fun x ρ1 => dB x fun c => RB c ρ1) Xx := Iff.rfl
theorem y_bTru : bTru a ρ RB Xx ↔ a ρ (fun x ρ1 => truP x fun b => RB b ρ1) Xx := Iff.rfl
theorem y_bNot : bNot t ρ RB Xx ↔ t ρ (fun b ρ1 => RB (!b) ρ1) Xx := Iff.rfl
theorem y_bYes : bYes ρ RB Xx ↔ RB true ρ := Iff.rfl
theorem y_aNil : aNil ρ RA Xx ↔ RA [] ρ := Iff.rfl
theorem y_aCons : aCons a as ρ RA Xx ↔ a ρ (fun x ρ1 => as ρ1 (fun xs ρ2 => RA (x :: xs) ρ2) Xx) Xx := Iff.rfl
theorem y_aStar : aStar a as ρ RA Xx ↔ a ρ (fun x ρ1 => dS x fun us => as ρ1 (fun xs ρ2 => RA (us.map A.d ++ xs) ρ2) Xx) Xx := Iff.rfl
theorem y_tup : eTup as ρ R Xx ↔ as ρ (fun xs ρ1 => dAll xs fun ds => szL ds.length ∧ R (.d (.tuple ds)) ρ1) Xx := Iff.rfl
theorem y_disp : lDisp as ρ RL Xx ↔ as ρ (fun xs ρ1 => dAll xs fun ds => szL ds.length ∧ RL ds ρ1) Xx := Iff.rfl
theorem y_fz : eFz l ρ R Xx ↔ l ρ (fun ds ρ1 => R (.d (.list ds)) ρ1) Xx := Iff.rfl
theorem y_cb : eCB pl as ρ R Xx ↔ as ρ (fun xs ρ1 => pl xs fun d => R (.d d) ρ1) Xx := Iff.rfl
theorem y_cat : lCat a b ρ RL Xx ↔ a ρ (fun x ρ1 => b ρ1 (fun y ρ2 => dL x fun u => dL y fun w => szL (u.length + w.length) ∧ RL (u ++ w) ρ2) Xx) Xx := Iff.rfl
theorem y_of : lOf a ρ RL Xx ↔ a ρ (fun x ρ1 => dS x fun u => RL u ρ1) Xx := Iff.rfl
theorem y_sl {lo hi : Option EE} : lSl a lo hi ρ RL Xx ↔ a ρ (fun x ρ1 => dL x fun u => dO lo ρ1 (fun l ρ2 => dO hi ρ2 (fun h ρ3 => RL (cutA u l h) ρ3) Xx) Xx) Xx := Iff.rfl
theorem y_dO0 {Q : Option Int → List Sl → Prop} : dO none ρ Q Xx ↔ Q none ρ := Iff.rfl
theorem y_dO1 {Q : Option Int → List Sl → Prop} : dO (some a) ρ Q Xx ↔ a ρ (fun x ρ1 => dI x fun i => Q (some i) ρ1) Xx := Iff.rfl
theorem y_ixN : eIxN i a ρ R Xx ↔ match ρ[i]? with
  | some (.own _) => a ρ (fun y ρ1 => dI y fun k => match ρ1[i]? with | some (.own ds) => ∃ d, atI ds k = some d ∧ R (.d d) ρ1 | _ => False) Xx
  | some (.a x) => a ρ (fun y ρ1 => dD x fun u => dD y fun w => pIx u w fun d => R (.d d) ρ1) Xx
  | _ => False := Iff.rfl
theorem y_lenN : eLenN i ρ R Xx ↔ match ρ[i]? with
  | some (.own ds) => R (.d (.int ds.length)) ρ
  | some (.a x) => pLen x fun n => R (.d (.int n)) ρ
  | _ => False := Iff.rfl
theorem y_chain : eChain p p' a b c ρ R Xx ↔ a ρ (fun x ρ1 => b ρ1 (fun y ρ2 => dD x fun u => dD y fun w => p u w fun d => dB (.d d) fun k => if k = true then c ρ2 (fun z ρ3 => dD z fun v => p' w v fun d => R (.d d) ρ3) Xx else R (.d (.bool false)) ρ2) Xx) Xx := Iff.rfl
theorem y_call0 : eCall0 φ as ρ R Xx ↔ as ρ (fun xs ρ1 => φ 0 xs (fun x _ => R x ρ1) (fun _ _ _ => False)) Xx := Iff.rfl
theorem y_call : eCall φ as ρ R Xx ↔ as ρ (fun xs ρ1 => φ 0 xs (fun x _ => R x ρ1) (fun c d _ => Xx c d ρ1)) Xx := Iff.rfl
theorem y_callR0 : eCallR0 i φ as ρ R Xx ↔ (∃ m, ρ[i]? = some (.rng m)) ∧ as ρ (fun xs ρ1 => match ρ1[i]? with
  | some (.rng n) => φ n xs (fun x n' => R x (ρ1.set i (.rng n'))) (fun _ _ _ => False)
  | _ => False) Xx := Iff.rfl
theorem y_seq : sSeq k k' ρ P ↔ k ρ { P with nx := fun ρ1 => k' ρ1 P } := Iff.rfl
theorem y_next : sNext ρ P ↔ P.nx ρ := Iff.rfl
theorem y_brk : sBrk ρ P ↔ P.bk ρ := Iff.rfl
theorem y_cnt : sCnt ρ P ↔ P.ct ρ := Iff.rfl
theorem y_asg : sAsg a g ρ P ↔ a ρ (fun x ρ1 => g x ρ1 P.nx) P.ex := Iff.rfl
theorem y_setO : sSetO i l ρ P ↔ l ρ (fun ds ρ1 => P.nx (ρ1.set i (.own ds))) P.ex := Iff.rfl
theorem y_gNm {Q : List Sl → Prop} : gNm i x ρ Q ↔ Q (ρ.set i (.a x)) := Iff.rfl
theorem y_gTp {n : Nat} {Q : List Sl → Prop} : gTp n gs (.d (.tuple ds)) ρ Q ↔ ds.length = n ∧ gs ds ρ Q := Iff.rfl
theorem y_gsNil {Q : List Sl → Prop} : gsNil [] ρ Q ↔ Q ρ := Iff.rfl
theorem y_gsCons {Q : List Sl → Prop} : gsCons g gs (d :: ds) ρ Q ↔ g (.d d) ρ fun ρ1 => gs ds ρ1 Q := Iff.rfl
theorem y_subO {Q : List Sl → Prop} : gSubO i a (.d d) ρ Q ↔ (∃ ds, ρ[i]? = some (.own ds)) ∧ a ρ (fun y ρ1 => dI y fun k => match ρ1[i]? with | some (.own ds) => ∃ j, ixN ds.length k = some j ∧ Q (ρ1.set i (.own (ds.set j d))) | _ => False) (fun _ _ _ => False) := Iff.rfl
theorem y_par : sPar i j as ρ P ↔ as ρ (fun xs ρ1 => match xs with | [x, y] => P.nx ((ρ1.set i (.a x)).set j (.a y)) | _ => False) P.ex := Iff.rfl
theorem y_aug {q : Int → Int → Int} : sAug i q a ρ P ↔ match ρ[i]? with
  | some (.a x) => dI x fun n => a ρ (fun y ρ1 => dI y fun m => P.nx (ρ1.set i (.a (.d (.int (q n m)))))) P.ex
  | _ => False := Iff.rfl
theorem y_expr : sExpr a ρ P ↔ a ρ (fun _ ρ1 => P.nx ρ1) P.ex := Iff.rfl
theorem y_app : sApp i a ρ P ↔ (∃ ds, ρ[i]? = some (.own ds)) ∧ a ρ (fun y ρ1 => dD y fun d => match ρ1[i]? with | some (.own ds) => szL (ds.length + 1) ∧ P.nx (ρ1.set i (.own (ds ++ [d]))) | _ => False) P.ex := Iff.rfl
theorem y_ext : sExt i a ρ P ↔ (∃ ds, ρ[i]? = some (.own ds)) ∧ a ρ (fun y ρ1 => dL y fun es => match ρ1[i]? with | some (.own ds) => szL (ds.length + es.length) ∧ P.nx (ρ1.set i (.own (ds ++ es))) | _ => False) P.ex := Iff.rfl
theorem y_ifS : sIf t k k' ρ P ↔ t ρ (fun c ρ1 => if c = true then k ρ1 P else k' ρ1 P) P.ex := Iff.rfl
theorem y_ret : sRet a ρ P ↔ a ρ P.rt P.ex := Iff.rfl
theorem y_retN : sRetN ρ P ↔ P.rt (.d .none) ρ := Iff.rfl
theorem y_for : sFor ι g k ρ P ↔ ι ρ (fun xs ρ1 => LoopP xs g k P ρ1) P.ex := Iff.rfl
theorem y_while : sWhile t k ρ P ↔ WhileP t k P ρ := Iff.rfl
theorem y_iSeq : iSeq a ρ RA Xx ↔ a ρ (fun x ρ1 => match x with
  | .d (.list ds) => RA (ds.map A.d) ρ1
  | .scr ns => RA (ns.map fun n => A.d (.int n)) ρ1
  | _ => False) Xx := Iff.rfl
theorem y_iTp : iTp a ρ RA Xx ↔ a ρ (fun x ρ1 => match x with
  | .d (.tuple ds) => RA (ds.map A.d) ρ1
  | _ => False) Xx := Iff.rfl
theorem y_iR1 : iR1 a ρ RA Xx ↔ a ρ (fun x ρ1 => dI x fun k => -(2 ^ 62) ≤ k ∧ k < 2 ^ 62 ∧ RA (rngA 0 k.toNat) ρ1) Xx := Iff.rfl
theorem y_iR2 : iR2 a b ρ RA Xx ↔ a ρ (fun x ρ1 => b ρ1 (fun y ρ2 => dI x fun i => dI y fun j => (-(2 ^ 62) ≤ i ∧ i < 2 ^ 62 ∧ -(2 ^ 62) ≤ j ∧ j < 2 ^ 62) ∧ RA (rngA i (j - i).toNat) ρ2) Xx) Xx := Iff.rfl
theorem y_iEn : iEn a ρ RA Xx ↔ a ρ (fun x ρ1 => dL x fun ds => RA (enA ds) ρ1) Xx := Iff.rfl
theorem y_iZp : iZp a b ρ RA Xx ↔ a ρ (fun x ρ1 => b ρ1 (fun y ρ2 => match x, y with
  | .d (.list ds), .d (.list es) => RA (zipA ds es) ρ2
  | .d (.tuple ds), .d (.tuple es) => RA (zipA ds es) ρ2
  | _, _ => False) Xx) Xx := Iff.rfl
theorem y_lc : lLc ι g t a vs ρ RL Xx ↔ ι ρ (fun xs ρ1 => LcP xs g t a vs RL ρ1) Xx := Iff.rfl
theorem y_raise {n : Nat} : sRaise n a ρ P ↔ a ρ (fun x ρ1 => dD x fun d => P.ex n d ρ1) P.ex := Iff.rfl
theorem y_dD {Q : PyData → Prop} : dD (.d d) Q ↔ Q d := Iff.rfl
theorem y_dB {b : Bool} {Q : Bool → Prop} : dB (.d (.bool b)) Q ↔ Q b := Iff.rfl
theorem y_dI {b : Int} {Q : Int → Prop} : dI (.d (.int b)) Q ↔ Q b := Iff.rfl
theorem y_dL {Q : List PyData → Prop} : dL (.d (.list ds)) Q ↔ Q ds := Iff.rfl
theorem y_dSl {Q : List PyData → Prop} : dS (.d (.list ds)) Q ↔ Q ds := Iff.rfl
theorem y_dSt {Q : List PyData → Prop} : dS (.d (.tuple ds)) Q ↔ Q ds := Iff.rfl
theorem y_dAll0 {Q : List PyData → Prop} : dAll [] Q ↔ Q [] := Iff.rfl
theorem y_dAllS {xs : List A} {Q : List PyData → Prop} : dAll (x :: xs) Q ↔ dD x fun d => dAll xs fun ds => Q (d :: ds) := Iff.rfl
theorem dAll_map : ∀ {ds : List PyData} {Q : List PyData → Prop}, dAll (ds.map A.d) Q ↔ Q ds
  | [], _ => Iff.rfl
  | d :: ds, Q => dAll_map (ds := ds) (Q := fun es => Q (d :: es))
theorem y_I0 {q : Int → Int → PyData} {a b : Int} {Q : PyData → Prop} : pI0 q (.int a) (.int b) Q ↔ Q (q a b) := Iff.rfl
theorem y_I {C : Int → Int → Prop} {q : Int → Int → PyData} {a b : Int} {Q : PyData → Prop} : pI C q (.int a) (.int b) Q ↔ C a b ∧ Q (q a b) := Iff.rfl
theorem y_eqI {a b : Int} {Q : PyData → Prop} : pEq (.int a) (.int b) Q ↔ Q (.bool (decide (a = b))) := Iff.rfl
theorem y_eqS {a b : Str} {Q : PyData → Prop} : pEq (.str a) (.str b) Q ↔ Q (.bool (decide (a = b))) := Iff.rfl
theorem y_eqB {a b : Bool} {Q : PyData → Prop} : pEq (.bool a) (.bool b) Q ↔ Q (.bool (decide (a = b))) := Iff.rfl
theorem y_neI {a b : Int} {Q : PyData → Prop} : pNe (.int a) (.int b) Q ↔ Q (.bool (!decide (a = b))) := Iff.rfl
theorem y_neS {a b : Str} {Q : PyData → Prop} : pNe (.str a) (.str b) Q ↔ Q (.bool (!decide (a = b))) := Iff.rfl
theorem y_neB {a b : Bool} {Q : PyData → Prop} : pNe (.bool a) (.bool b) Q ↔ Q (.bool (!decide (a = b))) := Iff.rfl
theorem y_neg {a : Int} {Q : PyData → Prop} : pNeg (.int a) Q ↔ Q (.int (-a)) := Iff.rfl
theorem y_ixL {z : Int} {Q : PyData → Prop} : pIx (.list ds) (.int z) Q ↔ ∃ d, atI ds z = some d ∧ Q d := Iff.rfl
theorem y_ixT {z : Int} {Q : PyData → Prop} : pIx (.tuple ds) (.int z) Q ↔ ∃ d, atI ds z = some d ∧ Q d := Iff.rfl
theorem y_min {a b : Int} {Q : PyData → Prop} : pMin [.d (.int a), .d (.int b)] Q ↔ Q (.int (if b < a then b else a)) := Iff.rfl
theorem y_max {a b : Int} {Q : PyData → Prop} : pMax [.d (.int a), .d (.int b)] Q ↔ Q (.int (if b > a then b else a)) := Iff.rfl
theorem y_abs {a : Int} {Q : PyData → Prop} : pAbs [.d (.int a)] Q ↔ Q (.int (if a < 0 then -a else a)) := Iff.rfl
theorem y_lenL {Q : Int → Prop} : pLen (.d (.list ds)) Q ↔ Q ds.length := Iff.rfl
theorem y_lenT {Q : Int → Prop} : pLen (.d (.tuple ds)) Q ↔ Q ds.length := Iff.rfl
theorem y_lenS {ns : List Int} {Q : Int → Prop} : pLen (.scr ns) Q ↔ Q ns.length := Iff.rfl
theorem y_lenB {Q : PyData → Prop} : pLenB [x] Q ↔ pLen x fun n => Q (.int n) := Iff.rfl
theorem y_truL {Q : Bool → Prop} : truP (.d (.list ds)) Q ↔ Q (!ds.isEmpty) := Iff.rfl
theorem y_truT {Q : Bool → Prop} : truP (.d (.tuple ds)) Q ↔ Q (!ds.isEmpty) := Iff.rfl
theorem y_inL {neg : Bool} {Q : PyData → Prop} : pIn neg d (.list ds) Q ↔ flatD d = true ∧ ds.all flatD = true ∧ Q (.bool (if neg then !inV (vOf d) (ds.map vOf) else inV (vOf d) (ds.map vOf))) := by
  cases d <;> rfl
theorem y_inT {neg : Bool} {Q : PyData → Prop} : pIn neg d (.tuple ds) Q ↔ flatD d = true ∧ ds.all flatD = true ∧ Q (.bool (if neg then !inV (vOf d) (ds.map vOf) else inV (vOf d) (ds.map vOf))) := by
  cases d <;> rfl
theorem y_ex1 {α : Type} {a : α} {Q : α → Prop} : (∃ d, some a = some d ∧ Q d) ↔ Q a := ⟨fun ⟨_, e, q⟩ => by cases e; exact q, fun q => ⟨_, rfl, q⟩⟩
theorem y_exO : (∃ es, some (Sl.own ds) = some (.own es)) ↔ True := ⟨fun _ => trivial, fun _ => ⟨_, rfl⟩⟩
theorem y_exR {n : Nat} : (∃ m, some (Sl.rng n) = some (.rng m)) ↔ True := ⟨fun _ => trivial, fun _ => ⟨_, rfl⟩⟩
theorem sz0 : szL 0 ↔ True := by unfold szL; simp
theorem sz_small {n : Nat} (h : n ≤ 1000) : szL n := by unfold szL; rw [sizeLine_eq]; omega
theorem at0 {α : Type} {a : α} {l : List α} : atI (a :: l) 0 = some a := atI_nat (j := 0) rfl
theorem at1 {α : Type} {a b : α} {l : List α} : atI (a :: b :: l) 1 = some b := atI_nat (j := 1) rfl
theorem at2 {α : Type} {a b c : α} {l : List α} : atI (a :: b :: c :: l) 2 = some c := atI_nat (j := 2) rfl
theorem at3 {α : Type} {a b c d : α} {l : List α} : atI (a :: b :: c :: d :: l) 3 = some d := atI_nat (j := 3) rfl
end
/-- a loop by an invariant -/
theorem loop {xs : List A} {g : GG} {b : SS} {P : EndsP} {ρ : List Sl} (Inv : Nat → List Sl → Prop) (h0 : Inv 0 ρ) (hs : ∀ i x ρ1, xs[i]? = some x → Inv i ρ1 → g x ρ1 fun ρ2 => b ρ2 { P with nx := Inv (i + 1), ct := Inv (i + 1), bk := P.nx }) (hd : ∀ ρ1, Inv xs.length ρ1 → P.nx ρ1) : LoopP xs g b P ρ := ⟨Inv, h0, hs, hd⟩
theorem loopR {lo : Int} {n : Nat} {g : GG} {b : SS} {P : EndsP} {ρ : List Sl} (Inv : Nat → List Sl → Prop) (h0 : Inv 0 ρ) (hs : ∀ (i : Nat) ρ1, i < n → Inv i ρ1 → g (.d (.int (lo + i))) ρ1 fun ρ2 => b ρ2 { P with nx := Inv (i + 1), ct := Inv (i + 1), bk := P.nx }) (hd : ∀ ρ1, Inv n ρ1 → P.nx ρ1) : LoopP (rngA lo n) g b P ρ :=
  ⟨Inv, h0, fun i x ρ1 hx h => by
    have hi := (List.getElem?_eq_some_iff.mp hx).1
    rw [rngA_len] at hi
    rw [rngA_get hi] at hx
    cases hx
    exact hs i ρ1 hi h, fun ρ1 h => hd ρ1 (by rwa [rngA_len] at h)⟩
theorem comp {xs : List A} {g : GG} {t : BB} {e : EE} {vs : List Nat} {R : List PyData → List Sl → Prop} {ρ : List Sl} (hp : ∀ v ∈ vs, plainS ρ[v]?) (Inv : Nat → List PyData → List Sl → Prop) (h0 : Inv 0 [] (wipeP ρ vs))
    (hs : ∀ i x acc ρ1, xs[i]? = some x → Inv i acc ρ1 → g x ρ1 fun ρ2 => t ρ2 (fun b ρ3 => if b = true then e ρ3 (fun y ρ4 => dD y fun d => szL (acc.length + 1) ∧ Inv (i + 1) (acc ++ [d]) (wipeP ρ4 vs)) noX else Inv (i + 1) acc (wipeP ρ3 vs)) noX)
    (hd : ∀ acc ρ1, Inv xs.length acc ρ1 → R acc (restP ρ vs ρ1)) : LcP xs g t e vs R ρ := ⟨hp, Inv, h0, hs, hd⟩
end Cc

set_option Elab.async false
set_option linter.all false
set_option maxRecDepth 100000
set_option maxHeartbeats 4000000
/-! The pure layer: promises of the heap layer taken over. -/
namespace Cc
open PySem PySem.Spec PyProof.Rows L2
open Classical in
/-- of what a call left, the part that can be known -/
noncomputable def filt (F F' : Hp) : Hp := fun b => match F' b with
  | none => none
  | some o => if F b ≠ none ∨ smpl o ∨ (∃ C dx fs, o = .ins C dx fs ∧ F' dx = some (.own b)) ∨ (∃ x C fs, o = .own x ∧ F' x = some (.ins C b fs)) then some o else none
section
variable {Γ : Gx} {F F' H H' : Hp} {v : V}
theorem filt_sub : Same (filt F F') F' := fun b o e => by
  unfold filt at e
  cases h : F' b with
  | none => rw [h] at e; cases e
  | some u =>
    rw [h] at e
    dsimp only at e
    split at e
    · exact e
    · cases e
theorem filt_in {b : Addr} {o : HO} (h : F' b = some o) (c : F b ≠ none ∨ smpl o ∨ (∃ C dx fs, o = .ins C dx fs ∧ F' dx = some (.own b)) ∨ (∃ x C fs, o = .own x ∧ F' x = some (.ins C b fs))) : filt F F' b = some o := by
  unfold filt
  rw [h]
  exact if_pos c
theorem filt_same (s : Same F F') : Same F (filt F F') := fun b o e => filt_in (s b o e) (.inl (by rw [e]; exact nofun))
theorem filt_cl (cl : ∀ a o, F a = some o → okO F a o) (s : Same F F') : ∀ a o, filt F F' a = some o → okO (filt F F') a o := fun a o e => by
  have h := filt_sub a o e
  have c : F a ≠ none ∨ smpl o ∨ (∃ C dx fs, o = .ins C dx fs ∧ F' dx = some (.own a)) ∨ (∃ x C fs, o = .own x ∧ F' x = some (.ins C a fs)) := by
    unfold filt at e
    rw [h] at e
    dsimp only at e
    split at e
    · assumption
    · cases e
  rcases c with c | c | ⟨C, dx, fs, rfl, c⟩ | ⟨x, C, fs, rfl, c⟩
  · cases hF : F a with
    | none => exact absurd hF c
    | some u =>
      have z := s _ _ hF
      rw [h] at z
      cases z
      exact (cl a o hF).same (filt_same s)
  · exact .of c
  · exact filt_in c (.inr (.inr (.inr ⟨a, C, fs, rfl, h⟩)))
  · show filt F F' x ≠ none
    rw [filt_in c (.inr (.inr (.inl ⟨C, a, fs, rfl, h⟩)))]
    exact nofun
mutual
theorem Dq.filt : ∀ (d : PyData) {v : V}, Dq Γ.K F' v d → Dq Γ.K (filt F F') v d
  | .none, _, h => by cases h; exact .non
  | .bool b, _, h => by cases h; exact .bl b
  | .int i, _, h => by cases h; exact .int i
  | .str x, _, h => by cases h; exact .str x
  | .list ds, _, h => by
    cases h with
    | lst hs ha => exact .lst (filt_in hs (.inr (.inl trivial))) (DqAll.filt ds ha)
  | .tuple ds, _, h => by
    cases h with
    | @tup a xs _ hs ha =>
      refine .tup ?_ (DqAll.filt ds ha)
      rcases hs with (hs | ⟨o, hs⟩) | hs
      · exact .inl (.inl (filt_in hs (.inr (.inl trivial))))
      · exact .inl (.inr ⟨o, filt_in hs (.inr (.inl (.inr ⟨xs, rfl⟩)))⟩)
      · exact .inr hs
  | .dict _, _, h => by cases h
theorem DqAll.filt : ∀ (ds : List PyData) {vs : List V}, DqAll Γ.K F' vs ds → DqAll Γ.K (filt F F') vs ds
  | [], _, h => by cases h; exact .nil
  | d :: ds, _, h => by
    cases h with
    | cons h1 h2 => exact .cons (Dq.filt d h1) (DqAll.filt ds h2)
end
theorem Rgs.filt : ∀ {xs : List V} {r : Rg}, Rgs Γ.K F' xs r → Rgs Γ.K (filt F F') xs r
  | _, _, .nil => .nil
  | _, _, .cons h t => .cons (filt_in h (.inr (.inl trivial))) (Rgs.filt t)
theorem SqT.filt {a : Addr} {xs : List V} (hs : SqT Γ.K F' a xs) : SqT Γ.K (filt F F') a xs := by
  rcases hs with (hs | ⟨o, hs⟩) | hs
  · exact .inl (.inl (filt_in hs (.inr (.inl trivial))))
  · exact .inl (.inr ⟨o, filt_in hs (.inr (.inl (.inr ⟨xs, rfl⟩)))⟩)
  · exact .inr hs
theorem Lvs.filt {l : Addr} : ∀ {xs : List V} {lv : List Lv}, Lvs Γ.K F' l xs lv → Lvs Γ.K (filt F F') l xs lv
  | _, _, .nil => .nil
  | _, _, .cons h1 h2 ⟨ys, h3, h4⟩ t => .cons (SqT.filt h1) h2 ⟨ys, filt_in h3 (.inr (.inl trivial)), Rgs.filt h4⟩ (Lvs.filt t)
def noScr : A → Prop
  | .scr _ => False
  | _ => True
/-- the answer is known; of an instance its own dict is known, too -/
theorem Rp.filt {x : A} (hx : noScr x) (hd : ∀ a C dx fs, F' a = some (.ins C dx fs) → F' dx = some (.own a)) (h : Rp Γ F' v x) : Rp Γ (filt F F') v x := by
  cases x with
  | d y => exact Dq.filt y h
  | exc c y =>
    obtain ⟨a, d, u, e, h1, h2, h3⟩ := h
    exact ⟨a, d, u, e, filt_in h1 (.inr (.inl trivial)), filt_in h2 (.inr (.inl trivial)), Dq.filt y h3⟩
  | spr S =>
    obtain ⟨p, l, e, dx, xs, h1, h2, h3⟩ := h
    exact ⟨p, l, e, dx, xs, filt_in h1 (.inr (.inr (.inl ⟨_, _, _, rfl, hd _ _ _ _ h1⟩))), filt_in h2 (.inr (.inl trivial)), Lvs.filt h3⟩
  | scr ns => exact hx.elim
/-- what a call at a known part leaves, said of the whole -/
theorem stp_frm {R : Addr → Prop} {r : Addr} {n' : Nat} (sH : Same F H) (cl : ∀ a o, F a = some o → okO F a o) (s : Same F F') (fr : Frm F H F' H') : Stp Γ false R r F H (filt F F') H' n' where
  s0 := filt_same s
  s1 := filt_sub.trans fr.s1
  new b o e := by
    have e' := filt_sub b o e
    rcases fr.new b o e' with h | h
    · cases hF : F b with
      | none => exact absurd hF h
      | some u =>
        have z := s _ _ hF
        rw [e'] at z
        cases z
        exact .inl rfl
    · exact .inr h
  chg b o hb _ := by
    cases hF : F b with
    | none => exact fr.old b o hb hF
    | some u =>
      have z := sH _ _ hF
      rw [hb] at z
      cases z
      exact fr.s1 _ _ (s _ _ hF)
  liv b e := by
    obtain ⟨h1, h2⟩ := fr.liv b e
    rcases h2 with h2 | h2
    · cases hF : F b with
      | none => exact absurd hF h2
      | some u => rw [s _ _ hF] at h1; cases h1
    · exact h2
  at_ h := nomatch h
  cl := filt_cl cl s
end
section
variable {P : Program} {w : World} {Γ : Gx} {mg : Str → Option Value} {base : Heap} {k : Nat} {x : Str} {ps : List Str} {sp : Sp} {φ : Phi}
/-- a promise of the heap layer, of a def that raises nothing and takes no draws -/
theorem Pr.pure0 (h : Pr P w Γ.K mg base CX0 k x ps sp)
    (c : ∀ n us xs F RR Xx (Q : VK) (E : XK), RpAll Γ F us xs → φ n xs RR Xx → (∀ v F' y, Same F F' → RR y 0 → Rp Γ F' v y → noScr y → Q v F') → sp us F Q E) (hn : ∀ n xs RR Xx, φ n xs RR Xx → φ n xs (fun y _ => RR y 0) Xx ∨ φ n xs RR Xx := by exact fun _ _ _ _ h => .inr h) :
    Pr P w Γ.K mg base CX0 k x ps (spP Γ false φ) :=
  (h.frame0).weak fun vs H Q E ⟨R, r, F, n, xs, us, RR, Xx, e, hr, s, hR, hcl, hat, hno, q, o, ox⟩ => by
    have e : vs = us := e
    rw [e]
    refine ⟨F, s, hcl, c n us xs F RR Xx _ _ hr q fun v F' y s' rr hy ns H' fr => ?_⟩
    exact o y 0 v _ H' rr (stp_frm s hcl s' fr) (hy.filt ns fr.ins)
theorem Pr.pureX (h : Pr P w Γ.K mg base (L2N.CX P w) k x ps sp)
    (c : ∀ n us xs F RR Xx (Q : VK) (E : XK), RpAll Γ F us xs → φ n xs RR Xx → (∀ v F' y, Same F F' → RR y 0 → Rp Γ F' v y → noScr y → Q v F') →
      (∀ c dx v y F', Same F F' → Xx c y 0 → F' dx = some (.xd [("value", v)]) → Dq Γ.K F' v y → E (.ref (Γ.C c)) (some dx) F') → sp us F Q E) :
    Pr P w Γ.K mg base (L2N.CX P w) k x ps (spP Γ false φ) :=
  (h.frameX).weak fun vs H Q E ⟨R, r, F, n, xs, us, RR, Xx, e, hr, s, hR, hcl, hat, hno, q, o, ox⟩ => by
    have e : vs = us := e
    rw [e]
    refine ⟨F, s, hcl, c n us xs F RR Xx _ _ hr q (fun v F' y s' rr hy ns H' fr => ?_) fun cc dx v y F' s' xx h1 h2 H' fr => ?_⟩
    · exact o y 0 v _ H' rr (stp_frm s hcl s' fr) (hy.filt ns fr.ins)
    · exact ox cc y 0 v dx _ H' xx (stp_frm s hcl s' fr) (filt_in h1 (.inr (.inl trivial))) (Dq.filt y h2)
end
end Cc

set_option Elab.async false
set_option linter.all false
set_option maxRecDepth 100000
set_option maxHeartbeats 4000000
/-! The pure layer: further rules. -/
namespace Cc
open PySem PySem.Spec PyProof.Rows L2
def gUn (n : Nat) (g : GGs) : GG := fun x ρ R => dL x fun ds => ds.length = n ∧ g ds ρ R
def lRev (a : EE) : LL := fun ρ R Xx => a ρ (fun x ρ1 => dL x fun ds => R ds.reverse ρ1) Xx
def downA (lo : Int) (n : Nat) : List A := (List.range n).map fun i => A.d (.int (lo - (i : Nat)))
/-- range(a, b, -1) -/
def iDn (e e' : EE) : II := fun ρ R Xx => e ρ (fun x ρ1 => e' ρ1 (fun y ρ2 => dI x fun i => dI y fun j => (-(2 ^ 62) ≤ i ∧ i < 2 ^ 62 ∧ -(2 ^ 62) ≤ j ∧ j < 2 ^ 62) ∧ R (downA i (i - j).toNat) ρ2) Xx) Xx
def eOrT (a b : EE) : EE := fun ρ R Xx => a ρ (fun x ρ1 => truP x fun k => if k = true then R x ρ1 else b ρ1 R Xx) Xx
def eNotT (a : EE) : EE := fun ρ R Xx => a ρ (fun x ρ1 => truP x fun k => R (.d (.bool !k)) ρ1) Xx
def sIns (i : Nat) (e e' : EE) : SS := fun ρ P => (∃ ds, ρ[i]? = some (.own ds)) ∧ e ρ (fun y ρ1 => e' ρ1 (fun z ρ2 => dI y fun n => dD z fun d => match ρ2[i]? with
  | some (.own ds) => szL (ds.length + 1) ∧ 0 ≤ n ∧ n < 2 ^ 63 ∧ P.nx (ρ2.set i (.own (ds.take n.toNat ++ [d] ++ ds.drop n.toNat)))
  | _ => False) P.ex) P.ex
def eBits (a : EE) : EE := fun ρ R Xx => a ρ (fun x ρ1 => dI x fun i => R (.d (.int (Builtin.Int.intBits i : Nat))) ρ1) Xx
def eIdx (i : Nat) (b : EE) : EE := fun ρ R Xx => (∃ ds, ρ[i]? = some (.a (.d (.list ds)))) ∧ b ρ (fun y ρ1 => dD y fun d => match ρ1[i]? with
  | some (.a (.d (.list ds))) => flatD d = true ∧ ds.all flatD = true ∧ ∃ j z, ds[j]? = some z ∧ eqV (vOf z) (vOf d) = true ∧ (∀ (m : Nat) z', m < j → ds[m]? = some z' → eqV (vOf z') (vOf d) = false) ∧ R (.d (.int (j : Nat))) ρ1
  | _ => False) Xx
def bAnd (a b : BB) : BB := fun ρ R Xx => a ρ (fun c ρ1 => if c = true then b ρ1 R Xx else R false ρ1) Xx
def bOr (a b : BB) : BB := fun ρ R Xx => a ρ (fun c ρ1 => if c = true then R true ρ1 else b ρ1 R Xx) Xx
section
variable {Γ : Gx} {X : Cx} {W : WX} {f : Fr} {F H F' H' : Hp} {σ σ' : L2.St} {ρ ρ' : List Sl} {x : A} {v : V} {d : PyData} {e e1 e2 e3 tg : Expr} {a b c : EE} {i j : Nat} {es : List Expr} {pos : Pos} {st : Stmt} {sts sts' : List Stmt} {k k' : SS} {gs : List Nat} {t : BB}
theorem dg_unl {γs : GGs} {n : Nat} (hpe : ∀ {g : TGs}, PGs X es g → PG X e (gUnl Γ.K n g)) {g : TGs} (h : DGs Γ X es g γs gs) : DG Γ X e (gUnl Γ.K n g) (gUn n γs) gs := by
  obtain ⟨p, d⟩ := h
  refine ⟨hpe p, fun f F H σ ρ v x Q R E r q o => ?_⟩
  obtain ⟨ds, rfl, q'⟩ := dL_of q
  cases r with
  | lst hs ha => exact ⟨_, _, rfl, .of (E.s1 _ _ hs), by rw [ha.len]; exact q'.1, d f F H σ ρ _ _ Q R E ha q'.2 o⟩
theorem dl_rev (hpe : ∀ {ta : TE}, PE X e1 ta → PE X e (tRevL Γ.K ta)) {ta : TE} (h1 : DE Γ X W e1 ta a) : DL Γ X W e (tRevL Γ.K ta) (lRev a) := by
  obtain ⟨p1, d1⟩ := h1
  refine ⟨hpe p1, fun f F H σ ρ Q R Xx E q o ox => ?_⟩
  refine d1 f F H σ ρ _ _ Xx E q (fun x ρ1 F1 H1 v1 q1 E1 s1 r1 => ?_) ox
  obtain ⟨us, rfl, q2⟩ := dL_of q1
  cases r1 with
  | lst hs ha => exact ⟨_, _, rfl, .of (E1.s1 _ _ hs), fun p np => o _ _ _ _ _ _ q2 (E1.raw np) s1 (own_new E1 ha.rev np)⟩
theorem downA_len {lo : Int} {n : Nat} : (downA lo n).length = n := by unfold downA; rw [List.length_map, List.length_range]
theorem downA_get {lo : Int} {n i : Nat} (h : i < n) : (downA lo n)[i]? = some (.d (.int (lo - (i : Nat)))) := by
  unfold downA
  rw [List.getElem?_map, List.getElem?_range h]
  rfl
theorem jok_dn {lo : Int} {n : Nat} : JOk Γ F (Itc lo (-1) n) (downA lo n) where
  go i H s hi := by
    rw [downA_len] at hi
    exact hi
  stop i H s hi := by
    rw [downA_len] at hi
    exact hi
  yld i H v H' s hil y := by
    obtain ⟨rfl, rfl⟩ := y
    rw [downA_len] at hil
    refine ⟨_, downA_get hil, .inl ⟨rfl, ?_⟩⟩
    show Dq Γ.K F (.int (lo + (i : Nat) * -1)) (.int (lo - (i : Nat)))
    rw [show lo + ((i : Nat) : Int) * -1 = lo - (i : Nat) by omega]
    exact .int _
theorem di_dn (hpe : ∀ {t u : TE}, PE X e1 t → PE X e2 u → PI X tg e (iRng3 (tCons t (tCons u (tCons (tC (.int (-1))) tNil))))) {t u : TE} (h : DE Γ X W e1 t a) (h' : DE Γ X W e2 u b) : DI Γ X W tg e (iRng3 (tCons t (tCons u (tCons (tC (.int (-1))) tNil)))) (iDn a b) := by
  obtain ⟨p, d⟩ := h
  obtain ⟨p', d'⟩ := h'
  refine ⟨hpe p p', fun f F H σ ρ G R Xx E q o ox => ?_⟩
  refine d f F H σ ρ _ _ Xx E q (fun x ρ1 F1 H1 v1 q1 E1 s1 r1 => ?_) ox
  refine d' f F1 H1 σ ρ1 _ _ Xx E1 q1 (fun y ρ2 F2 H2 v2 q2 E2 s2 r2 => ?_) ox
  obtain ⟨k, rfl, q3⟩ := dI_of q2
  obtain ⟨k', rfl, q4⟩ := dI_of q3
  cases r1
  cases r2
  exact ⟨_, _, _, _, rfl, RgC.neg q4.1.1 q4.1.2.1 q4.1.2.2.1 q4.1.2.2.2, o _ _ _ _ _ q4.2 E2 (s1.trans s2) jok_dn⟩
theorem de_orT (hpe : ∀ {ta tb : TE}, PE X e1 ta → PE X e2 tb → PE X e (tOrT Γ.K ta tb)) {ta : TE} (h1 : DE Γ X W e1 ta a) {tb : TE} (h2 : DE Γ X W e2 tb b) : DE Γ X W e (tOrT Γ.K ta tb) (eOrT a b) := by
  obtain ⟨p1, d1⟩ := h1
  obtain ⟨p2, d2⟩ := h2
  refine ⟨hpe p1 p2, fun f F H σ ρ Q R Xx E q o ox => ?_⟩
  refine d1 f F H σ ρ _ _ Xx E q (fun x ρ1 F1 H1 v1 q1 E1 s1 r1 => ?_) ox
  obtain ⟨k, hk, r⟩ := tru_v E1.s1 r1 (R := fun k => if k = true then R x ρ1 else b ρ1 R Xx) q1
  refine ⟨k, hk, ?_⟩
  cases k with
  | true => exact o _ _ _ _ _ r E1 s1 r1
  | false => exact d2 f F1 H1 σ ρ1 _ _ Xx E1 r (o.sub s1) ox
theorem de_notT (hpe : ∀ {ta : TE}, PE X e1 ta → PE X e (tNotT Γ.K ta)) {ta : TE} (h1 : DE Γ X W e1 ta a) : DE Γ X W e (tNotT Γ.K ta) (eNotT a) := by
  obtain ⟨p1, d1⟩ := h1
  refine ⟨hpe p1, fun f F H σ ρ Q R Xx E q o ox => ?_⟩
  refine d1 f F H σ ρ _ _ Xx E q (fun x ρ1 F1 H1 v1 q1 E1 s1 r1 => ?_) ox
  obtain ⟨k, hk, r⟩ := tru_v E1.s1 r1 (R := fun k => R (.d (.bool !k)) ρ1) q1
  exact ⟨k, hk, o _ _ _ _ _ r E1 s1 (.bl _)⟩
def rIns : V → List V → Hp → VK → Prop := fun x vs H Q => ∃ (l : Addr) (xs : List V) (i : Int) (y : V), x = .ref l ∧ vs = [.int i, y] ∧ H l = some (.lst xs) ∧ xs.length < sizeLine ∧ 0 ≤ i ∧ i < 2 ^ 63 ∧
    Q .non (upd H l (.lst (xs.take i.toNat ++ [y] ++ xs.drop i.toNat)))
theorem mt_ins : MtR X "list.insert" rIns := mt_insert
theorem ds_ins (hpe : ∀ {t u : TE}, PE X e1 t → PE X e2 u → PS X st (tDrop (tBM Γ.K "list" rIns (tVar i) (tCons t (tCons u tNil))))) {t u : TE} (h : DE Γ X W e1 t a) (h' : DE Γ X W e2 u b) : DS Γ X W st (tDrop (tBM Γ.K "list" rIns (tVar i) (tCons t (tCons u tNil)))) (sIns i a b) := by
  obtain ⟨p, d⟩ := h
  obtain ⟨p', d'⟩ := h'
  refine ⟨hpe p p', fun f F H σ ρ P D E q o => ?_⟩
  obtain ⟨⟨ds, hi⟩, q⟩ := q
  obtain ⟨p0, xs, e1, e2, e3, e4, e5⟩ := E.sl i _ hi
  refine ⟨.ref p0, e1, x_tyL (.of e2), ?_⟩
  refine d f F H σ ρ _ _ P.ex E q (fun y ρ1 F1 H1 v1 q1 E1 s1 r1 => ?_) (o.ex σ)
  refine d' f F1 H1 σ ρ1 _ _ P.ex E1 q1 (fun z ρ2 F2 H2 v2 q2 E2 s2 r2 => ?_) (o.ex σ)
  obtain ⟨n, rfl, q3⟩ := dI_of q2
  obtain ⟨u', rfl, q4⟩ := dD_of q3
  clear q2 q3
  cases r1
  split at q4
  · rename_i ds' hx'
    obtain ⟨hz, h0, h1, q5⟩ := q4
    obtain ⟨a', xs', f1, f2, f3, f4, f5⟩ := E2.sl i _ hx'
    rw [e1] at f1
    cases f1
    refine ⟨_, _, _, _, rfl, rfl, f2, by rw [f3.len]; exact hz, h0, h1, ?_⟩
    exact o.nx _ _ _ _ q5 (E2.mutO hx' e1 (((f3.take _).app (.one r2)).app (f3.drop _))) (s1.trans s2)
  · exact q4.elim
theorem de_bits (hpe : ∀ {ta : TE}, PE X e1 ta → PE X e (tBits ta)) {ta : TE} (h1 : DE Γ X W e1 ta a) : DE Γ X W e (tBits ta) (eBits a) := by
  obtain ⟨p1, d1⟩ := h1
  refine ⟨hpe p1, fun f F H σ ρ Q R Xx E q o ox => ?_⟩
  refine d1 f F H σ ρ _ _ Xx E q (fun x ρ1 F1 H1 v1 q1 E1 s1 r1 => ?_) ox
  obtain ⟨k, rfl, q2⟩ := dI_of q1
  cases r1
  exact ⟨_, rfl, o _ _ _ _ _ q2 E1 s1 (.int _)⟩
def DW (Γ : Gx) (X : Cx) (W : WX) (e : Expr) (t : TT) (ε : BB) : Prop := PW X e t ∧ DenB Γ W t ε
theorem dt_pw {tt : TT} (hpe : PW X e tt → PT X e tt) (h : DW Γ X W e tt t) : DT Γ X W e tt t := ⟨hpe h.1, h.2⟩
theorem dw_and1 {tt : TT} (hpe : PT X e1 tt → PW X e tt) (h : DT Γ X W e1 tt t) : DW Γ X W e tt t := ⟨hpe h.1, h.2⟩
theorem dw_or1 {tt : TT} (hpe : PT X e1 tt → PW X e tt) (h : DT Γ X W e1 tt t) : DW Γ X W e tt t := ⟨hpe h.1, h.2⟩
theorem dw_and {t1 t2 : TT} {b1 b2 : BB} (hpe : PT X e1 t1 → PW X e2 t2 → PW X e (tAnd t1 t2)) (h1 : DT Γ X W e1 t1 b1) (h2 : DW Γ X W e2 t2 b2) : DW Γ X W e (tAnd t1 t2) (bAnd b1 b2) := by
  obtain ⟨p1, d1⟩ := h1
  obtain ⟨p2, d2⟩ := h2
  refine ⟨hpe p1 p2, fun f F H σ ρ Q R Xx E q o ox => ?_⟩
  refine d1 f F H σ ρ _ _ Xx E q (fun c ρ1 F1 H1 q1 E1 s1 => ?_) ox
  cases c with
  | true => exact d2 f F1 H1 σ ρ1 _ _ Xx E1 q1 (o.sub s1) ox
  | false => exact o _ _ _ _ q1 E1 s1
theorem dw_or {t1 t2 : TT} {b1 b2 : BB} (hpe : PT X e1 t1 → PW X e2 t2 → PW X e (tOr t1 t2)) (h1 : DT Γ X W e1 t1 b1) (h2 : DW Γ X W e2 t2 b2) : DW Γ X W e (tOr t1 t2) (bOr b1 b2) := by
  obtain ⟨p1, d1⟩ := h1
  obtain ⟨p2, d2⟩ := h2
  refine ⟨hpe p1 p2, fun f F H σ ρ Q R Xx E q o ox => ?_⟩
  refine d1 f F H σ ρ _ _ Xx E q (fun c ρ1 F1 H1 q1 E1 s1 => ?_) ox
  cases c with
  | true => exact o _ _ _ _ q1 E1 s1
  | false => exact d2 f F1 H1 σ ρ1 _ _ Xx E1 q1 (o.sub s1) ox
theorem den_test {te : TE} (d1 : DenE Γ W te a) : DenB Γ W (tTest te) (bOf a) := fun f F H σ ρ Q R Xx E q o ox => by
  refine d1 f F H σ ρ _ _ Xx E q (fun x ρ1 F1 H1 v1 q1 E1 s1 r1 => ?_) ox
  obtain ⟨c, rfl, q2⟩ := dB_of q1
  cases r1
  exact ⟨c, rfl, o _ _ _ _ q2 E1 s1⟩
theorem dt_cmp {r : R2} {p : P2} (hp : OpD Γ r p) (hpe : ∀ {ta tb : TE}, PE X e1 ta → PE X e2 tb → PT X e (tTest (tOp r ta tb))) {ta : TE} (h1 : DE Γ X W e1 ta a) {tb : TE} (h2 : DE Γ X W e2 tb b) : DT Γ X W e (tTest (tOp r ta tb)) (bOf (eOp p a b)) :=
  ⟨hpe h1.1 h2.1, den_test (den_op hp h1.2 h2.2)⟩
theorem den_isN {ta : TE} (d1 : DenE Γ W ta a) : DenE Γ W (tOp (fun x y H Q => y = V.non ∧ Q (V.bl (decide (x = V.non))) H) ta (tC .non)) (eIsN a) := fun f F H σ ρ Q R Xx E q o ox => by
  refine d1 f F H σ ρ _ _ Xx E q (fun x ρ1 F1 H1 v1 q1 E1 s1 r1 => ?_) ox
  show V.non = V.non ∧ Q (V.bl (decide (v1 = V.non))) H1
  refine ⟨rfl, ?_⟩
  rw [isNon_v r1]
  exact o _ _ _ _ _ q1 E1 s1 (.bl _)
theorem den_notN {ta : TE} (d1 : DenE Γ W ta a) : DenE Γ W (tOp (fun x y H Q => y = V.non ∧ Q (V.bl (!decide (x = V.non))) H) ta (tC .non)) (eNotN a) := fun f F H σ ρ Q R Xx E q o ox => by
  refine d1 f F H σ ρ _ _ Xx E q (fun x ρ1 F1 H1 v1 q1 E1 s1 r1 => ?_) ox
  show V.non = V.non ∧ Q (V.bl (!decide (v1 = V.non))) H1
  refine ⟨rfl, ?_⟩
  rw [isNon_v r1]
  exact o _ _ _ _ _ q1 E1 s1 (.bl _)
theorem dt_isN {ta : TE} (hpe : PE X e1 ta → PT X e (tTest (tOp (fun x y H Q => y = V.non ∧ Q (V.bl (decide (x = V.non))) H) ta (tC .non)))) (h1 : DE Γ X W e1 ta a) : DT Γ X W e (tTest (tOp (fun x y H Q => y = V.non ∧ Q (V.bl (decide (x = V.non))) H) ta (tC .non))) (bOf (eIsN a)) := ⟨hpe h1.1, den_test (den_isN h1.2)⟩
theorem dt_notN {ta : TE} (hpe : PE X e1 ta → PT X e (tTest (tOp (fun x y H Q => y = V.non ∧ Q (V.bl (!decide (x = V.non))) H) ta (tC .non)))) (h1 : DE Γ X W e1 ta a) : DT Γ X W e (tTest (tOp (fun x y H Q => y = V.non ∧ Q (V.bl (!decide (x = V.non))) H) ta (tC .non))) (bOf (eNotN a)) := ⟨hpe h1.1, den_test (den_notN h1.2)⟩
/-- keyword arguments -/
def DK (Γ : Gx) (X : Cx) (W : WX) (ks : List Keyword) (t : TA) (ε : AA) : Prop := PK X ks t ∧ DenA Γ W t ε
theorem dk_nil (h : PK X [] tNil) : DK Γ X W [] tNil aNil := ⟨h, fun f F H σ ρ Q R Xx E q o ox => o [] ρ F H [] q E (Same.refl _) trivial⟩
theorem dk_cons {kw : Keyword} {ks : List Keyword} {as : AA} (hpe : ∀ {ta : TE} {tr : TA}, PE X e ta → PK X ks tr → PK X (kw :: ks) (tCons ta tr)) {ta : TE} (h1 : DE Γ X W e ta a) {tr : TA} (h2 : DK Γ X W ks tr as) : DK Γ X W (kw :: ks) (tCons ta tr) (aCons a as) := by
  obtain ⟨p1, d1⟩ := h1
  obtain ⟨p2, d2⟩ := h2
  refine ⟨hpe p1 p2, fun f F H σ ρ Q R Xx E q o ox => ?_⟩
  refine d1 f F H σ ρ _ _ Xx E q (fun x ρ1 F1 H1 v1 q1 E1 s1 r1 => ?_) ox
  exact d2 f F1 H1 σ ρ1 _ _ Xx E1 q1 (fun xs ρ2 F2 H2 vs q2 E2 s2 r2 => o _ _ _ _ _ q2 E2 (s1.trans s2) ⟨r1.same s2, r2⟩) ox
/-- n, m = a fresh list, a value -/
def sParO (i j : Nat) (l : LL) (a : EE) : SS := fun ρ P => l ρ (fun ds ρ1 => False) P.ex
end
/-! ### readings -/
section
variable {ρ : List Sl} {R : A → List Sl → Prop} {RL : List PyData → List Sl → Prop} {RA : List A → List Sl → Prop} {RB : Bool → List Sl → Prop} {Xx : XX} {P : EndsP} {a b c : EE} {as : AA} {t t' : BB} {k k' : SS} {g : GG} {gs : GGs} {l : LL} {i j : Nat} {d u w : PyData} {ds es : List PyData} {x : A}
theorem y_un1 {n : Nat} {Q : List Sl → Prop} : gUn n gs (.d (.list ds)) ρ Q ↔ ds.length = n ∧ gs ds ρ Q := Iff.rfl
theorem y_rev : lRev a ρ RL Xx ↔ a ρ (fun x ρ1 => dL x fun ds => RL ds.reverse ρ1) Xx := Iff.rfl
theorem y_dn : iDn a b ρ RA Xx ↔ a ρ (fun x ρ1 => b ρ1 (fun y ρ2 => dI x fun i => dI y fun j => (-(2 ^ 62) ≤ i ∧ i < 2 ^ 62 ∧ -(2 ^ 62) ≤ j ∧ j < 2 ^ 62) ∧ RA (downA i (i - j).toNat) ρ2) Xx) Xx := Iff.rfl
theorem y_orT : eOrT a b ρ R Xx ↔ a ρ (fun x ρ1 => truP x fun k => if k = true then R x ρ1 else b ρ1 R Xx) Xx := Iff.rfl
theorem y_notT : eNotT a ρ R Xx ↔ a ρ (fun x ρ1 => truP x fun k => R (.d (.bool !k)) ρ1) Xx := Iff.rfl
theorem y_ins : sIns i a b ρ P ↔ (∃ ds, ρ[i]? = some (.own ds)) ∧ a ρ (fun y ρ1 => b ρ1 (fun z ρ2 => dI y fun n => dD z fun d => match ρ2[i]? with
  | some (.own ds) => szL (ds.length + 1) ∧ 0 ≤ n ∧ n < 2 ^ 63 ∧ P.nx (ρ2.set i (.own (ds.take n.toNat ++ [d] ++ ds.drop n.toNat)))
  | _ => False) P.ex) P.ex := Iff.rfl
theorem y_bits : eBits a ρ R Xx ↔ a ρ (fun x ρ1 => dI x fun i => R (.d (.int (Builtin.Int.intBits i : Nat))) ρ1) Xx := Iff.rfl
theorem y_bAnd : bAnd t t' ρ RB Xx ↔ t ρ (fun c ρ1 => if c = true then t' ρ1 RB Xx else RB false ρ1) Xx := Iff.rfl
theorem y_bOr : bOr t t' ρ RB Xx ↔ t ρ (fun c ρ1 => if c = true then RB true ρ1 else t' ρ1 RB Xx) Xx := Iff.rfl
theorem y_rt0 {RR : A → Nat → Prop} : (ends0 false RR).rt x ρ ↔ RR x 0 := Iff.rfl
theorem y_rtR {RR : A → Nat → Prop} {n : Nat} : (ends0 true RR).rt x (.rng n :: ρ) ↔ RR x n := Iff.rfl
theorem y_nx0 {RR : A → Nat → Prop} : (ends0 false RR).nx ρ ↔ RR (.d .none) 0 := Iff.rfl
theorem y_rtX {RR : A → Nat → Prop} {XX' : Nat → PyData → Nat → Prop} : (endsX false RR XX').rt x ρ ↔ RR x 0 := Iff.rfl
theorem y_nxX {RR : A → Nat → Prop} {XX' : Nat → PyData → Nat → Prop} : (endsX false RR XX').nx ρ ↔ RR (.d .none) 0 := Iff.rfl
theorem y_exX {RR : A → Nat → Prop} {XX' : Nat → PyData → Nat → Prop} {n : Nat} : (endsX false RR XX').ex n d ρ ↔ XX' n d 0 := Iff.rfl
theorem y_repr {Q : PyData → Prop} : pRepr [.d d] Q ↔ d.showable = true ∧ d.depth ≤ 60 ∧ d.shown.length ≤ sizeLine ∧ Q (.str d.shown) := Iff.rfl
theorem y_tupleL {Q : PyData → Prop} : pTuple [.d (.list ds)] Q ↔ Q (.tuple ds) := Iff.rfl
theorem y_tupleT {Q : PyData → Prop} : pTuple [.d (.tuple ds)] Q ↔ Q (.tuple ds) := Iff.rfl
theorem y_sum {Q : PyData → Prop} : pSum [.d (.list ds)] Q ↔ ∃ ns : List Int, ds = ns.map PyData.int ∧ Q (.int ns.sum) := Iff.rfl
theorem y_all {Q : PyData → Prop} : pAll [.d (.list ds)] Q ↔ ∃ bs : List Bool, ds = bs.map PyData.bool ∧ Q (.bool (bs.all id)) := Iff.rfl
theorem y_any {Q : PyData → Prop} : pAny [.d (.list ds)] Q ↔ ∃ bs : List Bool, ds = bs.map PyData.bool ∧ Q (.bool (bs.any id)) := Iff.rfl
theorem y_eqD {Q : PyData → Prop} : pEqD d u Q ↔ SeqAt.shaped d = true ∧ SeqAt.shaped u = true ∧ Q (.bool (PyData.eqv d u)) := Iff.rfl
theorem y_neD {Q : PyData → Prop} : pNeD d u Q ↔ SeqAt.shaped d = true ∧ SeqAt.shaped u = true ∧ Q (.bool (!PyData.eqv d u)) := Iff.rfl
theorem y_ite {c : Prop} [Decidable c] {A B : Prop} : (if c then A else B) ↔ ((c → A) ∧ (¬ c → B)) := by
  by_cases h : c <;> simp [h]
theorem sz_iff {n : Nat} (h : n ≤ 1000) : szL n ↔ True := ⟨fun _ => trivial, fun _ => sz_small h⟩
theorem inV3 (w : Str) : inV (.str w) [.str "u", .str "s", .str "add"] = decide (w = "u" ∨ w = "s" ∨ w = "add") := by
  show (((("u" : Str) == w) || (("s" : Str) == w || (("add" : Str) == w || false)))) = _
  rw [Bool.or_false, Bool.eq_iff_iff]
  simp only [Bool.or_eq_true, beq_iff_eq, decide_eq_true_eq]
  exact ⟨fun h => h.elim (fun h => .inl h.symm) (fun h => .inr (h.elim (fun h => .inl h.symm) fun h => .inr h.symm)), fun h => h.elim (fun h => .inl h.symm) (fun h => .inr (h.elim (fun h => .inl h.symm) fun h => .inr h.symm))⟩
theorem y_join {c : Prop} [Decidable c] {A : Prop} {K : SS} (I : List Sl → Prop) (h0 : ¬ c → I ρ) (hk : ∀ ρ, I ρ → K ρ P) (ha : c → (∀ ρ, I ρ → K ρ P) → A) : if c then A else K ρ P := by
  by_cases h : c
  · rw [if_pos h]; exact ha h hk
  · rw [if_neg h]; exact hk ρ (h0 h)
theorem ix2_0 : ixN 2 0 = some 0 := by decide
theorem ix2_1 : ixN 2 1 = some 1 := by decide
theorem ix3_0 : ixN 3 0 = some 0 := by decide
theorem ix3_1 : ixN 3 1 = some 1 := by decide
theorem ix3_2 : ixN 3 2 = some 2 := by decide
theorem eqv_same (h : SeqAt.shaped d = true) : PyData.eqv d d = true := SeqAt.eqv_refl d (Bool.and_eq_true_iff.mp h).1
end
/-! ### loops and comprehensions over few items -/
def LcRun (g : GG) (t : BB) (e : EE) (vs : List Nat) (R : List PyData → List Sl → Prop) (ρ0 : List Sl) : List A → List PyData → List Sl → Prop
  | [], acc, ρ1 => R acc (restP ρ0 vs ρ1)
  | x :: xs, acc, ρ1 => g x ρ1 fun ρ2 => t ρ2 (fun b ρ3 => if b = true then e ρ3 (fun y ρ4 => dD y fun d => szL (acc.length + 1) ∧ LcRun g t e vs R ρ0 xs (acc ++ [d]) (wipeP ρ4 vs)) noX else LcRun g t e vs R ρ0 xs acc (wipeP ρ3 vs)) noX
theorem lc_run {xs : List A} {g : GG} {t : BB} {e : EE} {vs : List Nat} {R : List PyData → List Sl → Prop} {ρ : List Sl} (hp : ∀ v ∈ vs, plainS ρ[v]?) (h : LcRun g t e vs R ρ xs [] (wipeP ρ vs)) : LcP xs g t e vs R ρ :=
  comp hp (fun i acc ρ1 => LcRun g t e vs R ρ (xs.drop i) acc ρ1) h (fun i x acc ρ1 hx q => by
    have hi := (List.getElem?_eq_some_iff.mp hx).1
    have e1 : xs.drop i = x :: xs.drop (i + 1) := by
      rw [List.drop_eq_getElem_cons hi, (List.getElem?_eq_some_iff.mp hx).2]
    rw [e1] at q
    exact q) fun acc ρ1 q => by
    rw [List.drop_length] at q
    exact q
def LpRun (g : GG) (b : SS) (P : EndsP) : List A → List Sl → Prop
  | [], ρ => P.nx ρ
  | x :: xs, ρ => g x ρ fun ρ2 => b ρ2 { P with nx := LpRun g b P xs, ct := LpRun g b P xs, bk := P.nx }
theorem lp_run {xs : List A} {g : GG} {b : SS} {P : EndsP} {ρ : List Sl} (h : LpRun g b P xs ρ) : LoopP xs g b P ρ :=
  loop (fun i ρ1 => LpRun g b P (xs.drop i) ρ1) h (fun i x ρ1 hx q => by
    have hi := (List.getElem?_eq_some_iff.mp hx).1
    have e1 : xs.drop i = x :: xs.drop (i + 1) := by
      rw [List.drop_eq_getElem_cons hi, (List.getElem?_eq_some_iff.mp hx).2]
    rw [e1] at q
    exact q) fun ρ1 q => by
    rw [List.drop_length] at q
    exact q
/-- a comprehension whose turns tell an item or none, and change nothing -/
theorem compF {α : Type} {xs : List α} {enc : α → A} (F : α → Option PyData) {g : GG} {t : BB} {e : EE} {vs : List Nat} {R : List PyData → List Sl → Prop} {ρ : List Sl} (hp : ∀ v ∈ vs, plainS ρ[v]?) (hl : xs.length ≤ sizeLine)
    (hs : ∀ x ∈ xs, ∀ (acc : List PyData) (K : List PyData → List Sl → Prop), szL (acc.length + 1) → (match F x with | some d => K (acc ++ [d]) (wipeP ρ vs) | none => K acc (wipeP ρ vs)) →
      g (enc x) (wipeP ρ vs) fun ρ2 => t ρ2 (fun b ρ3 => if b = true then e ρ3 (fun y ρ4 => dD y fun d => szL (acc.length + 1) ∧ K (acc ++ [d]) (wipeP ρ4 vs)) noX else K acc (wipeP ρ3 vs)) noX)
    (hd : R (xs.filterMap F) (restP ρ vs (wipeP ρ vs))) : LcP (xs.map enc) g t e vs R ρ :=
  comp hp (fun i acc ρ1 => acc = (xs.take i).filterMap F ∧ ρ1 = wipeP ρ vs) ⟨rfl, rfl⟩ (fun i x acc ρ1 hx q => by
    obtain ⟨rfl, rfl⟩ := q
    rw [List.getElem?_map] at hx
    obtain ⟨a, ha, rfl⟩ := Option.map_eq_some_iff.mp hx
    have hi := (List.getElem?_eq_some_iff.mp ha).1
    have fl : ((xs.take i).filterMap F).length ≤ i := Nat.le_trans (List.length_filterMap_le _ _) (by rw [List.length_take]; omega)
    refine hs a (List.mem_of_getElem? ha) _ (fun acc ρ1 => acc = (xs.take (i + 1)).filterMap F ∧ ρ1 = wipeP ρ vs) (show _ ≤ _ by omega) ?_
    rw [List.take_add_one, ha, List.filterMap_append]
    cases h : F a with
    | none => simp [h]
    | some d => simp [h]) fun acc ρ1 q => by
    obtain ⟨rfl, rfl⟩ := q
    rw [List.length_map, List.take_length]
    exact hd
end Cc

set_option Elab.async false
set_option linter.all false
set_option maxRecDepth 100000
set_option maxHeartbeats 400000
/-! zip of a tuple and a list. -/
namespace Cc
open PySem PySem.Spec PyProof.Rows L2 RZ
/-- the tuple at a and the list at b, item by item in new pairs -/
def ItzM (K : PySem.W.Frag) (a b : Addr) (n : Nat) : It where
  go i H := i < n ∧ ∃ (us vs : List V) (x y : V), SqT K H a us ∧ SqL K H b vs ∧ us[i]? = some x ∧ vs[i]? = some y
  yld i H v H' := ∃ p x y, v = .ref p ∧ H p = none ∧ H' = upd H p (.tup [x, y]) ∧ (∀ us, SqT K H a us → us[i]? = some x) ∧ ∀ vs, SqL K H b vs → vs[i]? = some y
  stop i H := n ≤ i ∧ ∃ us vs : List V, SqT K H a us ∧ SqL K H b vs ∧ n = min us.length vs.length
def stM (N a b : Addr) (n : Nat) (i : Nat) (h : Heap) : Prop := i ≤ n ∧ IsZip h (N + 4) (N + 2) (N + 3) .none ∧ IsTupOf2 h (N + 2) (.ref N) (.ref (N + 1)) ∧ (∃ x y, IsTupOf2 h (N + 3) x y) ∧ h.IsTupleIter N a i ∧ h.IsListIter (N + 1) b i
def fpM (N : Addr) : List Addr := [N + 4, N + 2, N + 3, N, N + 1]
theorem fpM_mem {N c : Addr} (h : c ∈ fpM N) : c = N + 4 ∨ c = N + 2 ∨ c = N + 3 ∨ c = N ∨ c = N + 1 := by simpa [fpM] using h
theorem fpM_not {N c : Addr} (h : c ∉ fpM N) : c ≠ N + 4 ∧ c ≠ N + 2 ∧ c ≠ N + 3 ∧ c ≠ N ∧ c ≠ N + 1 := by simpa [fpM, not_or] using h
theorem turn_zipM {P : Program} {w : World} {K : PySem.W.Frag} {elts : List Expr} {kk : Nat} {tpos : Pos} {N a b : Addr} {n : Nat} (ha : a < N) (hb : b < N) : Turn P w K (.Tuple elts kk tpos) (ItzM K a b n) (fpM N) (N + 4) (stM N a b n) := by
  have sep : ZipSep2 (N + 4) (N + 2) (N + 3) N (N + 1) (N :: [a]) ((N + 1) :: [b]) := zip_sep2 (fun c hc => by rw [List.mem_singleton.mp hc]; exact ha) (fun c hc => by rw [List.mem_singleton.mp hc]; exact hb)
  have neA : a ≠ N := Nat.ne_of_lt ha
  have neB : b ≠ N + 1 := Nat.ne_of_lt (Nat.lt_succ_of_lt hb)
  refine ⟨by simp [fpM], fun i h st c hc => ?_, fun i h h' st k => ?_, ?_, ?_, fun A i s Q E st h => wpAny_pyIter_zip st.2.1 h⟩
  · obtain ⟨_, s1, s2, ⟨x, y, s3⟩, ⟨o1, e1, _, d1⟩, ⟨o2, e2, _, d2⟩⟩ := st
    rcases fpM_mem hc with q | q | q | q | q
    · rw [q]; exact ⟨_, s1, fun v q => nomatch q⟩
    · rw [q]; exact ⟨_, s2, fun v q => nomatch q⟩
    · rw [q]; exact ⟨_, s3, fun v q => nomatch q⟩
    · rw [q]; exact ⟨o1, e1, fun v q => by rw [d1] at q; cases q⟩
    · rw [q]; exact ⟨o2, e2, fun v q => by rw [d2] at q; cases q⟩
  · obtain ⟨s0, s1, s2, ⟨x, y, s3⟩, s4, s5⟩ := st
    exact ⟨s0, k _ (by simp [fpM]) _ s1, k _ (by simp [fpM]) _ s2, ⟨x, y, k _ (by simp [fpM]) _ s3⟩, s4.at fun o q => k N (by simp [fpM]) o q, s5.at fun o q => k (N + 1) (by simp [fpM]) o q⟩
  · intro X hP hw hK hc i pins s σ H E I hf st hg
    subst hP hw hK
    obtain ⟨s0, s1, s2, ⟨x0, y0, s3⟩, s4, s5⟩ := st
    obtain ⟨ilt, us, vs, x, y, qa, qb, hx, hy⟩ := hg
    obtain ⟨its, rv, p, _⟩ := I.tuple qa
    obtain ⟨its2, rv2, p2, _⟩ := I.list qb
    obtain ⟨u, hu, ru⟩ := rv.get hx
    obtain ⟨u2, hu2, ru2⟩ := rv2.get hy
    have lt1 : i < its.toArray.size := by rw [List.size_toArray]; exact (List.getElem?_eq_some_iff.mp hu).1
    have lt2 : i < its2.toArray.size := by rw [List.size_toArray]; exact (List.getElem?_eq_some_iff.mp hu2).1
    have D1 := Draws.tuple (prog := X.prog) (w := X.w) (A := X.A.in1) (I.ok.hd hc) N a neA its.toArray
    have D2 := Draws.list (prog := X.prog) (w := X.w) (A := X.A.in1) (I.ok.hd hc) (N + 1) b neB its2.toArray
    have zlt : N + 4 < s.heap.objs.size := Heap.lt_size s1
    refine wpAny_pyNext_zipD2_item sep D1 D2 s1 s2 s3 ⟨s4, p⟩ ⟨s5, p2.isList⟩ lt1 lt2 fun x1 x2 h' tk e1 e2 z' TO' n1 n2 hT hsz hk => ?_
    have e1 : x1 = u := by
      have := e1.symm.trans (show its.toArray[i]? = some u by simpa using hu)
      cases this
      rfl
    have e2 : x2 = u2 := by
      have := e2.symm.trans (show its2.toArray[i]? = some u2 by simpa using hu2)
      cases this
      rfl
    subst e1 e2
    refine ⟨_, rfl, wpAny_letOwnedTupleGo_zip (s := { s with heap := h', toks := tk }) z' fun g zg sb => ?_⟩
    have hT2 : g.get? s.heap.objs.size = some { cls := .type "tuple", data := .seq #[x1, x2] } := (sb.2 _ (Nat.ne_of_gt zlt)).trans hT
    have new : ObjOk X.prog X.w (upd H s.heap.objs.size (.tup [x, y])) g s.heap.objs.size (.tup [x, y]) := ⟨by show 2 ≤ sizeLine; decide, [x1, x2], .cons ru (.cons ru2 .nil), ⟨_, hT2, rfl, _, rfl⟩⟩
    have J : Inv X pins σ (upd H s.heap.objs.size (.tup [x, y])) { s with heap := g, toks := tk } := by
      refine I.turnedNew (t' := tk) (ch := fpM N) (fun c o hcn q => ?_) hf (Nat.le_refl _) new
      obtain ⟨c1, c2, c3, c4, c5⟩ := fpM_not hcn
      exact (sb.2 c c1).trans (hk c o c1 c3 c4 c5 q)
    refine ⟨.ref s.heap.objs.size, _, J, rfl, ⟨_, x, y, rfl, I.hok.fresh (Nat.le_refl _), rfl, fun l hl => by rw [I.tuple_inj hl qa]; exact hx, fun l hl => by rw [I.list_inj hl qb]; exact hy⟩, ⟨ilt, zg, ?_, ⟨x1, x2, ?_⟩, ?_, ?_⟩, fun c hcm => ?_⟩
    · exact (sb.2 _ sep.TIz).trans (hk _ _ sep.TIz sep.TITO sep.TIi1 sep.TIi2 s2)
    · exact (sb.2 _ sep.TOz).trans TO'
    · exact n1.1.at fun o q => (sb.2 _ sep.zi1.symm).trans q
    · exact n2.1.at fun o q => (sb.2 _ sep.zi2.symm).trans q
    · have bd : ∀ k : Nat, k ≤ 4 → (N + k : Nat) < s.heap.objs.size := fun k hk => Nat.lt_of_le_of_lt (Nat.add_le_add_left hk N) zlt
      have hlt : c < s.heap.objs.size := by
        rcases fpM_mem hcm with q | q | q | q | q
        · rw [q]; exact bd 4 (by decide)
        · rw [q]; exact bd 2 (by decide)
        · rw [q]; exact bd 3 (by decide)
        · rw [q]; exact bd 0 (by decide)
        · rw [q]; exact bd 1 (by decide)
      rw [upd_ne (Nat.ne_of_lt hlt)]
      exact (hf c hcm).1
  · intro X hP hw hK hc i pins s σ H E I hf st hg
    subst hP hw hK
    obtain ⟨s0, s1, s2, ⟨x0, y0, s3⟩, s4, s5⟩ := st
    obtain ⟨hn, us, vs, qa, qb, en⟩ := hg
    obtain ⟨its, rv, p, _⟩ := I.tuple qa
    obtain ⟨its2, rv2, p2, _⟩ := I.list qb
    have l1 : its.toArray.size = us.length := by rw [List.size_toArray, rv.length]
    have l2 : its2.toArray.size = vs.length := by rw [List.size_toArray, rv2.length]
    have D1 := Draws.tuple (prog := X.prog) (w := X.w) (A := X.A.in1) (I.ok.hd hc) N a neA its.toArray
    have D2 := Draws.list (prog := X.prog) (w := X.w) (A := X.A.in1) (I.ok.hd hc) (N + 1) b neB its2.toArray
    refine wpAny_pyNext_zipD2_end sep D1 D2 s1 s2 s3 ⟨s4, p⟩ ⟨s5, p2.isList⟩ (by omega) (by omega) (by omega) fun h' tk hk => ⟨rfl, I.turnedL (t' := tk) (ch := fpM N) (fun c o hcn q => ?_) hf⟩
    obtain ⟨c1, c2, c3, c4, c5⟩ := fpM_not hcn
    exact hk c o c1 c3 c4 c5 q
def iZipM (K : PySem.W.Frag) (ta : TA) : TI := fun σ H R => ta σ H fun ws H1 => ∃ a b us vs, ws = [.ref a, .ref b] ∧ SqT K H1 a us ∧ SqL K H1 b vs ∧ R (ItzM K a b (min us.length vs.length)) H1
theorem pi_zipM {X : Cx} {e e2 : Expr} {ta : TA} {p pos tpos : Pos} {elts : List Expr} {kk : Nat} (hg : Gl X "zip") (hm : X.mg "zip" = none) (ha : PA X [e, e2] ta)
    (he : starEach [e, e2] X.env = (false, eval e X.env) :: starEach [e2] X.env := by rfl) (hq : (backTo pos (starEach [e2] X.env)).any (·.1) = false := by rfl) :
    PI X (.Tuple elts kk tpos) (.Call (.Name "zip" p) [e, e2] [] pos) (iZipM X.K ta) := by
  refine ⟨fun pins s σ H R I h => Call_ (ld_blt I hg hm PyProof.Rows.boot_zip (PyProof.Rows.callWith_type1 (thn (ha.run pos pins s σ H _ I h) fun ws s1 ⟨xs, H1, I1, r1, q1⟩ => ?_) he hq))⟩
  obtain ⟨a, b, us, vs, rfl, qa, qb, q⟩ := q1
  cases r1 with | cons ra rr => ?_
  cases rr with | cons rb rr => ?_
  cases rr
  cases ra
  cases rb
  obtain ⟨its, rv, p1, _⟩ := I1.tuple qa
  obtain ⟨its2, rv2, p2, _⟩ := I1.list qb
  obtain ⟨o1, ho1, _⟩ := id p1
  have fr : ∀ c ∈ fpM s1.heap.objs.size, FpOk X pins H1 c := fun c hcm => by
    have hle : s1.heap.objs.size ≤ c := by
      rcases fpM_mem hcm with z | z | z | z | z
      · rw [z]; exact Nat.le_add_right _ 4
      · rw [z]; exact Nat.le_add_right _ 2
      · rw [z]; exact Nat.le_add_right _ 3
      · rw [z]; exact Nat.le_refl _
      · rw [z]; exact Nat.le_add_right _ 1
    exact I1.fpOk hle (I1.hok.fresh hle)
  refine zip_begins2 (begins_tuple a its.toArray) (begins_list b its2.toArray) p1 p2.isList fun g hz hTI hTO g1 g2 hsz hk => wpAny_pyIter_zip hz ?_
  have J : Inv X pins σ H1 { s1 with heap := g } := I1.kept (t' := s1.toks) hk
  have st0 : stM s1.heap.objs.size a b (min us.length vs.length) 0 g := ⟨Nat.zero_le _, hz, hTI, ⟨_, _, hTO⟩, ⟨_, g1, rfl, rfl⟩, ⟨_, g2, rfl, rfl⟩⟩
  have tz := turn_zipM (P := X.prog) (w := X.w) (K := X.K) (elts := elts) (kk := kk) (tpos := tpos) (n := min us.length vs.length) (Heap.lt_size ho1) p2.lt
  exact ⟨s1.heap.objs.size + 4, fpM s1.heap.objs.size, _, _, H1, rfl, J, tz, st0, fr, q⟩
end Cc

set_option Elab.async false
set_option linter.all false
set_option maxRecDepth 100000
set_option maxHeartbeats 4000000
/-! The pure layer: zip of a tuple and a list, slices of tuples, divmod, a def that serves two kinds of arguments. -/
namespace Cc
open PySem PySem.Spec PyProof.Rows L2
def iZpM (a b : EE) : II := fun ρ RA Xx => a ρ (fun x ρ1 => b ρ1 (fun y ρ2 => match x, y with
  | .d (.tuple ds), .d (.list es) => RA (zipA ds es) ρ2
  | _, _ => False) Xx) Xx
def dT : A → (List PyData → Prop) → Prop
  | .d (.tuple b), P => P b
  | _, _ => False
/-- all of it -/
def fullSl (n : Nat) (lo hi : Option Int) : Prop := HT.sIx n 0 lo = 0 ∧ HT.sIx n n hi = n
def eSlT (a : EE) (lo hi : Option EE) : EE := fun ρ R Xx => a ρ (fun x ρ1 => dT x fun u => dO lo ρ1 (fun l ρ2 => dO hi ρ2 (fun h ρ3 => ¬ fullSl u.length l h ∧ R (.d (.tuple (cutA u l h))) ρ3) Xx) Xx) Xx
def pDivmod : PL
  | [.d (.int i), .d (.int j)], R => CDivP i j ∧ R (.tuple [.int (i / j), .int (i % j)])
  | _, _ => False
section
variable {Γ : Gx} {X : Cx} {W : WX} {f : Fr} {F H F' H' : Hp} {σ σ' : L2.St} {ρ ρ' : List Sl} {x : A} {v : V} {d : PyData} {e e1 e2 e3 tg : Expr} {a b c : EE} {i j : Nat} {es : List Expr} {pos : Pos} {st : Stmt} {sts sts' : List Stmt} {k k' : SS} {gs : List Nat}
theorem dT_of {P : List PyData → Prop} (h : dT x P) : ∃ b, x = .d (.tuple b) ∧ P b := by
  cases x with
  | d y => cases y <;> first | exact ⟨_, rfl, h⟩ | exact h.elim
  | exc => exact h.elim
  | spr => exact h.elim
  | scr => exact h.elim
theorem jok_zpM {a b : Addr} {xs ys : List V} {ds es : List PyData} (h : SqT Γ.K F a xs) (hd : DqAll Γ.K F xs ds) (h' : F b = some (.lst ys)) (hd' : DqAll Γ.K F ys es) : JOk Γ F (ItzM Γ.K a b (min xs.length ys.length)) (zipA ds es) where
  go i H s hi := by
    rw [zipA_len, ← hd.len, ← hd'.len] at hi
    exact ⟨hi, xs, ys, xs[i], ys[i], Same.tup s h, .of (s _ _ h'), List.getElem?_eq_getElem _, List.getElem?_eq_getElem _⟩
  stop i H s hi := by
    rw [zipA_len, ← hd.len, ← hd'.len] at hi
    exact ⟨hi, xs, ys, Same.tup s h, .of (s _ _ h'), rfl⟩
  yld i H v H' s hil y := by
    obtain ⟨T, x, x', rfl, nT, rfl, y, y'⟩ := y
    obtain ⟨d, hx, hv⟩ := hd.getV (y xs (Same.tup s h))
    obtain ⟨u, hx', hv'⟩ := hd'.getV (y' ys (.of (s _ _ h')))
    refine ⟨_, zipA_get hx hx', .inr ⟨T, _, nT, rfl, trivial, fun F' sF nF => ?_⟩⟩
    exact .tup (.of upd_same) (.cons (Dq.same (sF.trans (same_updF nF)) d hv) (.cons (Dq.same (sF.trans (same_updF nF)) u hv') .nil))
theorem di_zpM (hpe : ∀ {t u : TE}, PE X e1 t → PE X e2 u → PI X tg e (iZipM Γ.K (tCons t (tCons u tNil)))) {t u : TE} (h : DE Γ X W e1 t a) (h' : DE Γ X W e2 u b) : DI Γ X W tg e (iZipM Γ.K (tCons t (tCons u tNil))) (iZpM a b) := by
  obtain ⟨p, d⟩ := h
  obtain ⟨p', d'⟩ := h'
  refine ⟨hpe p p', fun f F H σ ρ G R Xx E q o ox => ?_⟩
  refine d f F H σ ρ _ _ Xx E q (fun x ρ1 F1 H1 v1 q1 E1 s1 r1 => ?_) ox
  refine d' f F1 H1 σ ρ1 _ _ Xx E1 q1 (fun y ρ2 F2 H2 v2 q2 E2 s2 r2 => ?_) ox
  split at q2
  · cases r1 with
    | tup hs ha =>
      cases r2 with
      | lst hs' ha' => exact ⟨_, _, _, _, rfl, Same.tup (s2.trans E2.s1) hs, .of (E2.s1 _ _ hs'), o _ _ _ _ _ q2 E2 (s1.trans s2) (jok_zpM (Same.tup s2 hs) (DqAll.same s2 _ ha) hs' ha')⟩
  · exact q2.elim
theorem slTK {K : PySem.W.Frag} (h : X.K = K) : L2.SlR X (rSlT K) := h ▸ sl_tup
theorem de_slT {l h : Option Expr} {lo hi : Option EE} (hpe : ∀ {ta : TE} {tl th : TO}, PE X e1 ta → PO X l tl → PO X h th → PE X e (tSl (rSlT Γ.K) ta tl th)) {ta : TE} (h1 : DE Γ X W e1 ta a) {tl : TO} (h2 : DO Γ X W l tl lo) {th : TO} (h3 : DO Γ X W h th hi) : DE Γ X W e (tSl (rSlT Γ.K) ta tl th) (eSlT a lo hi) := by
  obtain ⟨p1, d1⟩ := h1
  obtain ⟨p2, d2⟩ := h2
  obtain ⟨p3, d3⟩ := h3
  refine ⟨hpe p1 p2 p3, fun f F H σ ρ Q R Xx E q o ox => ?_⟩
  refine d1 f F H σ ρ _ _ Xx E q (fun x ρ1 F1 H1 v1 q1 E1 s1 r1 => ?_) ox
  obtain ⟨us, rfl, q1'⟩ := dT_of q1
  refine d2 f F1 H1 σ ρ1 _ _ Xx E1 q1' (fun lo' ρ2 F2 H2 q2 E2 s2 => ?_) ox
  refine d3 f F2 H2 σ ρ2 _ _ Xx E2 q2 (fun hi' ρ3 F3 H3 q3 E3 s3 => ?_) ox
  cases r1 with
  | tup hs ha =>
    have s23 := s2.trans s3
    have ln := ha.len
    refine ⟨_, _, rfl, Same.tup (s23.trans E3.s1) hs, by rw [ln]; exact q3.1, fun p np => ?_⟩
    have nF := E3.fnone np
    exact o _ _ _ _ _ q3.2 (E3.alloc np) ((s1.trans s23).trans (same_updF nF)) (.tup (.of upd_same) (DqAll.same (same_updF nF) _ ((DqAll.same s23 us ha).cut _ _)))
theorem cd_divmod : CallD Γ (fun xs H Q => ∃ i j, xs = [V.int i, .int j] ∧ CDivP i j ∧ ∀ p, H p = none → Q (.ref p) (upd H p (.tup [.int (i / j), .int (i % j)]))) pDivmod := fun f F H σ ρ vs xs Q R E r p o => by
  unfold pDivmod at p
  split at p
  · obtain ⟨u, w, rfl, r1, r2⟩ := rp2 r
    cases r1; cases r2
    refine ⟨_, _, rfl, p.1, fun l nl => ?_⟩
    have nF := E.fnone nl
    exact o _ _ _ _ p.2 (E.alloc nl) (same_updF nF) (.tup (.of upd_same) (.cons (.int _) (.cons (.int _) .nil)))
  · exact p.elim
theorem y_iZpM {RA : List A → List Sl → Prop} {Xx : XX} : iZpM a b ρ RA Xx ↔ a ρ (fun x ρ1 => b ρ1 (fun y ρ2 => match x, y with
  | .d (.tuple ds), .d (.list es) => RA (zipA ds es) ρ2
  | _, _ => False) Xx) Xx := Iff.rfl
theorem y_dT {ds : List PyData} {Q : List PyData → Prop} : dT (.d (.tuple ds)) Q ↔ Q ds := Iff.rfl
theorem y_slT {lo hi : Option EE} {R : A → List Sl → Prop} {Xx : XX} : eSlT a lo hi ρ R Xx ↔ a ρ (fun x ρ1 => dT x fun u => dO lo ρ1 (fun l ρ2 => dO hi ρ2 (fun h ρ3 => ¬ fullSl u.length l h ∧ R (.d (.tuple (cutA u l h))) ρ3) Xx) Xx) Xx := Iff.rfl
theorem y_divmod {i j : Int} {Q : PyData → Prop} : pDivmod [.d (.int i), .d (.int j)] Q ↔ CDivP i j ∧ Q (.tuple [.int (i / j), .int (i % j)]) := Iff.rfl
end
/-! a def that raises nothing, for two kinds of arguments -/
section
variable {Γ : Gx} {P : Program} {w : World} {mg : Str → Option Value} {base : Heap} {k : Nat} {x : Str} {st : Stmt} {N ps : List Str} {φ ψ : Phi} {rg : Bool}
theorem sp_or {vs : List V} {H : Hp} {Q : VK} {E : XK} (h : spP Γ rg (fun n xs R Xx => φ n xs R Xx ∨ ψ n xs R Xx) vs H Q E) : spP Γ rg φ vs H Q E ∨ spP Γ rg ψ vs H Q E := by
  obtain ⟨R, r, F, n, xs, us, RR, Xx, e, hr, s, hR, hcl, hat, hno, q, o, ox⟩ := h
  rcases q with q | q
  · exact .inl ⟨R, r, F, n, xs, us, RR, Xx, e, hr, s, hR, hcl, hat, hno, q, o, ox⟩
  · exact .inr ⟨R, r, F, n, xs, us, RR, Xx, e, hr, s, hR, hcl, hat, hno, q, o, ox⟩
theorem mkPP2 (T : Tx Γ.K mg x st) (S : FnScope N ps (defScope st))
    (bi : ∀ (kV doc pm : Value) (an : Option Addr) (cdv ct : Value) (us : List Value), us.length = ps.length → bindArgs (PySem.W.fnOf x x (defArgs st) (defBody st) (defScope st) .none kV doc pm an cdv ct) ⟨us, []⟩ = pure (ps.zip us))
    (len : ∀ n xs R Xx, φ n xs R Xx ∨ ψ n xs R Xx → (if rg = true then 1 else 0) + xs.length = ps.length) (hX : ∀ n xs R Xx, φ n xs R Xx → φ n xs R fun _ _ _ => False) (hX2 : ∀ n xs R Xx, ψ n xs R Xx → ψ n xs R fun _ _ _ => False)
    (hb : ∀ (f : Addr) (cdv : Value) (A : Around) (outer : List Env) (s : Shared) (H : Hp) (E : XK), A.guards = some [] → Room k (A.deeper (envOfC x (defScope st) s.heap.objs.size f cdv)) →
      ∃ t κ, DSs Γ (cxOf CX0 P w Γ.K mg base N x (defScope st) f cdv A outer s H E).nox (fun _ _ _ _ => False) (defBody st) t κ ∧ ∀ n xs R, φ n xs R (fun _ _ _ => False) → κ (initS rg n N xs) (ends0 rg R))
    (hb2 : ∀ (f : Addr) (cdv : Value) (A : Around) (outer : List Env) (s : Shared) (H : Hp) (E : XK), A.guards = some [] → Room k (A.deeper (envOfC x (defScope st) s.heap.objs.size f cdv)) →
      ∃ t κ, DSs Γ (cxOf CX0 P w Γ.K mg base N x (defScope st) f cdv A outer s H E).nox (fun _ _ _ _ => False) (defBody st) t κ ∧ ∀ n xs R, ψ n xs R (fun _ _ _ => False) → κ (initS rg n N xs) (ends0 rg R)) :
    Pr P w Γ.K mg base CX0 (k + 1) x ps (spP Γ rg fun n xs R Xx => φ n xs R Xx ∨ ψ n xs R Xx) :=
  mkP T S bi (sp_len len) fun f cdv A outer s H vs Q E hG hr h => by
    rcases sp_or h with h | h
    · obtain ⟨t, κ, d, q⟩ := hb f cdv A outer s H E hG hr
      exact ⟨t, d.1, body0 (X := cxOf CX0 P w Γ.K mg base N x (defScope st) f cdv A outer s H E) h d.2 q hX⟩
    · obtain ⟨t, κ, d, q⟩ := hb2 f cdv A outer s H E hG hr
      exact ⟨t, d.1, body0 (X := cxOf CX0 P w Γ.K mg base N x (defScope st) f cdv A outer s H E) h d.2 q hX2⟩
/-- the same of a def that may raise -/
theorem mkPPX2 (T : Tx Γ.K mg x st) (S : FnScope N ps (defScope st))
    (bi : ∀ (kV doc pm : Value) (an : Option Addr) (cdv ct : Value) (us : List Value), us.length = ps.length → bindArgs (PySem.W.fnOf x x (defArgs st) (defBody st) (defScope st) .none kV doc pm an cdv ct) ⟨us, []⟩ = pure (ps.zip us))
    (len : ∀ n xs R Xx, φ n xs R Xx ∨ ψ n xs R Xx → (if rg = true then 1 else 0) + xs.length = ps.length)
    (hb : ∀ (f : Addr) (cdv : Value) (A : Around) (outer : List Env) (s : Shared) (H : Hp) (E : XK), A.guards = some [] → Room k (A.deeper (envOfC x (defScope st) s.heap.objs.size f cdv)) →
      ∃ t κ, DSs Γ (cxOf (L2N.CX P w) P w Γ.K mg base N x (defScope st) f cdv A outer s H E) (fun cls dx _ H => E cls dx H) (defBody st) t κ ∧ ∀ n xs R Xx, φ n xs R Xx → κ (initS rg n N xs) (endsX rg R Xx))
    (hb2 : ∀ (f : Addr) (cdv : Value) (A : Around) (outer : List Env) (s : Shared) (H : Hp) (E : XK), A.guards = some [] → Room k (A.deeper (envOfC x (defScope st) s.heap.objs.size f cdv)) →
      ∃ t κ, DSs Γ (cxOf (L2N.CX P w) P w Γ.K mg base N x (defScope st) f cdv A outer s H E) (fun cls dx _ H => E cls dx H) (defBody st) t κ ∧ ∀ n xs R Xx, ψ n xs R Xx → κ (initS rg n N xs) (endsX rg R Xx)) :
    Pr P w Γ.K mg base (L2N.CX P w) (k + 1) x ps (spP Γ rg fun n xs R Xx => φ n xs R Xx ∨ ψ n xs R Xx) :=
  mkPX T S bi (sp_len len) fun f cdv A outer s H vs Q E hG hr h => by
    rcases sp_or h with h | h
    · obtain ⟨t, κ, d, q⟩ := hb f cdv A outer s H E hG hr
      exact ⟨t, d.1, bodyX h d.2 q⟩
    · obtain ⟨t, κ, d, q⟩ := hb2 f cdv A outer s H E hG hr
      exact ⟨t, d.1, bodyX h d.2 q⟩
end
/-! try, its parts read together -/
section
variable {Γ : Gx} {X : Cx} {W : WX} {st : Stmt} {body suite : List Stmt} {k k' : SS} {i : Nat}
/-- some end of exceptions takes all -/
def TryX (X : Cx) : Prop := ∃ pn xe, (∀ W', L2N.Takes (X.tr pn xe) W') ∧ PassesOwn (model X.prog X.w) X.A X.env xe
theorem tryX {P : Program} {w : World} {K : PySem.W.Frag} {mg : Str → Option Value} {base : Heap} {N : List Str} {qual : Str} {scope : Scope} {f : Addr} {cd : Value} {A : Around} {outer : List Env} {s : Shared} {H : Hp} {E : XK} :
    TryX (cxOf CX0 P w K mg base N qual scope f cd A outer s H E).nox :=
  ⟨[], (cxOf (L2N.CX P w) P w K mg base N qual scope f cd A outer s H fun _ _ _ => True).xe, fun W' =>
    (show L2N.Takes (cxOf (L2N.CX P w) P w K mg base N qual scope f cd A outer s H fun _ _ _ => True) (fun cls dx _ H => (fun _ _ _ => True : XK) cls dx H) from L2N.takes_of rfl rfl rfl rfl).imp fun _ _ _ _ _ => trivial,
    passes_of (X := cxOf (L2N.CX P w) P w K mg base N qual scope f cd A outer s H fun _ _ _ => True) rfl⟩
theorem ds_tryT {yes : Nat → Bool} {cl : Value} {tb : WX → TS} {ts : TS} (hy : ∀ c, PySem.W.exmOne Γ.K (.ref (Γ.C c)) cl = some (yes c)) (hT : TryX X)
    (hpe : (∀ (W : WX) (pn : List (Addr × Obj)) (xe : Value → Shared → Prop), L2N.Takes (X.tr pn xe) W → PassesOwn (model X.prog X.w) X.A X.env xe → PSs (X.tr pn xe) body (tb W)) → (∀ (a : Addr) (pn : List (Addr × Obj)), PSs (X.suite a pn) suite ts) →
      PS X st (fun D σ H => tb (wTrk Γ.K cl i ts W D) D σ H))
    (hb : ∀ (W : WX) (pn : List (Addr × Obj)) (xe : Value → Shared → Prop), L2N.Takes (X.tr pn xe) W → PassesOwn (model X.prog X.w) X.A X.env xe → DSs Γ (X.tr pn xe) W body (tb W) k) (hs : ∀ (a : Addr) (pn : List (Addr × Obj)), DSs Γ (X.suite a pn) (fun _ _ _ _ => False) suite ts k') :
    DS Γ X W st (fun D σ H => tb (wTrk Γ.K cl i ts W D) D σ H) (sTry yes i k k') := by
  obtain ⟨pn, xe, h1, h2⟩ := hT
  exact ds_try hy (hpe (fun W pn xe tk po => (hb W pn xe tk po).1) fun a pn => (hs a pn).1) (fun W' => (hb W' pn xe (h1 W') h2).2) (hs 0 []).2
theorem y_try {yes : Nat → Bool} {ρ : List Sl} {P : EndsP} : sTry yes i k k' ρ P ↔ k ρ { P with ex := fun c d ρ1 => if yes c = true then k' (ρ1.set i (.a (.exc c d))) { P with nx := fun ρ2 => P.nx (ρ2.set i .un), bk := fun ρ2 => P.bk (ρ2.set i .un), ct := fun ρ2 => P.ct (ρ2.set i .un), ex := fun _ _ _ => False } else P.ex c d ρ1 } := Iff.rfl
theorem y_val {R : A → List Sl → Prop} {Xx : XX} {ρ : List Sl} : eVal i ρ R Xx ↔ match ρ[i]? with
  | some (.a (.exc _ d)) => R (.d d) ρ
  | _ => False := Iff.rfl
end
/-! two names at once, one of them an own list -/
section
variable {Γ : Gx} {X : Cx} {W : WX} {st : Stmt} {e1 e2 : Expr} {a : EE} {l : LL} {i j : Nat} {v : V} {d : PyData}
def sParO10 (i j : Nat) (l : LL) (d : PyData) : SS := fun ρ P => l ρ (fun ds ρ1 => P.nx ((ρ1.set i (.own ds)).set j (.a (.d d)))) P.ex
def sParO01 (i j : Nat) (a : EE) (l : LL) : SS := fun ρ P => a ρ (fun x ρ1 => l ρ1 (fun ds ρ2 => P.nx ((ρ2.set i (.a x)).set j (.own ds))) P.ex) P.ex
theorem ds_parO10 (hv : ∀ F, Dq Γ.K F v d) (hpe : ∀ {t : TE}, PE X e1 t → PS X st (tPar i j (tCons t (tCons (tC v) tNil)))) {t : TE} (h : DL Γ X W e1 t l) : DS Γ X W st (tPar i j (tCons t (tCons (tC v) tNil))) (sParO10 i j l d) := by
  obtain ⟨p, dn⟩ := h
  refine ⟨hpe p, fun f F H σ ρ P D E q o => ?_⟩
  refine dn f F H σ ρ _ _ P.ex E q (fun ds ρ1 F1 H1 b xs q1 E1 s1 w => ?_) (o.ex σ)
  exact ⟨_, _, rfl, o.nx _ _ _ _ q1 ((E1.setO w.hH w.hD w.hF (.inl w.h0) w.hO w.hR).setA (hv F1)) s1⟩
theorem ds_parO01 (hij : i ≠ j) (hpe : ∀ {t u : TE}, PE X e1 t → PE X e2 u → PS X st (tPar i j (tCons t (tCons u tNil)))) {t : TE} (h : DE Γ X W e1 t a) {u : TE} (h' : DL Γ X W e2 u l) : DS Γ X W st (tPar i j (tCons t (tCons u tNil))) (sParO01 i j a l) := by
  obtain ⟨p, dn⟩ := h
  obtain ⟨p', dn'⟩ := h'
  refine ⟨hpe p p', fun f F H σ ρ P D E q o => ?_⟩
  refine dn f F H σ ρ _ _ P.ex E q (fun x ρ1 F1 H1 v1 q1 E1 s1 r1 => ?_) (o.ex σ)
  refine dn' f F1 H1 σ ρ1 _ _ P.ex E1 q1 (fun ds ρ2 F2 H2 b xs q2 E2 s2 w => ?_) (o.ex σ)
  have E3 := E2.setO (i := j) w.hH w.hD w.hF (.inl w.h0) w.hO w.hR
  have E4 := E3.setA (i := i) (r1.same s2)
  refine ⟨_, _, rfl, ?_⟩
  rw [List.set_comm _ _ hij]
  rw [List.set_comm _ _ hij] at q2
  exact o.nx _ _ _ _ q2 E4 (s1.trans s2)
theorem y_par10 {ρ : List Sl} {P : EndsP} : sParO10 i j l d ρ P ↔ l ρ (fun ds ρ1 => P.nx ((ρ1.set i (.own ds)).set j (.a (.d d)))) P.ex := Iff.rfl
theorem y_par01 {ρ : List Sl} {P : EndsP} : sParO01 i j a l ρ P ↔ a ρ (fun x ρ1 => l ρ1 (fun ds ρ2 => P.nx ((ρ2.set i (.a x)).set j (.own ds))) P.ex) P.ex := Iff.rfl
end
/-! an own list compared with data, and still one's own -/
section
variable {Γ : Gx} {X : Cx} {W : WX} {e e1 e2 : Expr} {b : EE} {i : Nat}
def cmpO (p : P2) (i : Nat) (b : EE) : EE := fun ρ R Xx => (∃ ds, ρ[i]? = some (.own ds)) ∧ b ρ (fun y ρ1 => dD y fun u => match ρ1[i]? with
  | some (.own ds) => p (.list ds) u fun d => R (.d d) ρ1
  | _ => False) Xx
theorem own_dp {f : Fr} {F H : Hp} {σ : L2.St} {ρ : List Sl} {ds : List PyData} {a : Addr} (E : Ent Γ f F H σ ρ) (h : ρ[i]? = some (.own ds)) (hv : σ[i]? = some (some (.ref a))) : Dp Γ.K H (.ref a) (.list ds) := by
  obtain ⟨a', xs, hv', hH, hD, _, _⟩ := E.sl i _ h
  rw [hv] at hv'
  cases hv'
  exact .lst (SqL.of hH) (DqAll.dp ds (DqAll.same E.s1 ds hD))
theorem den_eqO {tb : TE} (d : DenE Γ W tb b) : DenE Γ W (tOp (rEqD Γ.K) (tVar i) tb) (cmpO pEqD i b) := fun f F H σ ρ Q R Xx E q o ox => by
  obtain ⟨⟨ds, hi⟩, q⟩ := q
  obtain ⟨a, xs, hv, _⟩ := E.sl i _ hi
  refine ⟨_, hv, ?_⟩
  refine d f F H σ ρ _ _ Xx E q (fun y ρ1 F1 H1 v1 q1 E1 s1 r1 => ?_) ox
  obtain ⟨u, rfl, q2⟩ := dD_of q1
  split at q2
  · rename_i ds' h'
    exact ⟨_, u, own_dp E1 h' hv, Dp.same E1.s1 u (Dq.dp u r1), q2.1, q2.2.1, o _ _ _ _ _ q2.2.2 E1 s1 (.bl _)⟩
  · exact q2.elim
theorem den_neO {tb : TE} (d : DenE Γ W tb b) : DenE Γ W (tOp (rNeD Γ.K) (tVar i) tb) (cmpO pNeD i b) := fun f F H σ ρ Q R Xx E q o ox => by
  obtain ⟨⟨ds, hi⟩, q⟩ := q
  obtain ⟨a, xs, hv, _⟩ := E.sl i _ hi
  refine ⟨_, hv, ?_⟩
  refine d f F H σ ρ _ _ Xx E q (fun y ρ1 F1 H1 v1 q1 E1 s1 r1 => ?_) ox
  obtain ⟨u, rfl, q2⟩ := dD_of q1
  split at q2
  · rename_i ds' h'
    exact ⟨_, u, own_dp E1 h' hv, Dp.same E1.s1 u (Dq.dp u r1), q2.1, q2.2.1, o _ _ _ _ _ q2.2.2 E1 s1 (.bl _)⟩
  · exact q2.elim
theorem dt_eqO (hpe : ∀ {tb : TE}, PE X e2 tb → PT X e (tTest (tOp (rEqD Γ.K) (tVar i) tb))) {tb : TE} (h : DE Γ X W e2 tb b) : DT Γ X W e (tTest (tOp (rEqD Γ.K) (tVar i) tb)) (bOf (cmpO pEqD i b)) := ⟨hpe h.1, den_test (den_eqO h.2)⟩
theorem dt_neO (hpe : ∀ {tb : TE}, PE X e2 tb → PT X e (tTest (tOp (rNeD Γ.K) (tVar i) tb))) {tb : TE} (h : DE Γ X W e2 tb b) : DT Γ X W e (tTest (tOp (rNeD Γ.K) (tVar i) tb)) (bOf (cmpO pNeD i b)) := ⟨hpe h.1, den_test (den_neO h.2)⟩
theorem de_eqO (hpe : ∀ {tb : TE}, PE X e2 tb → PE X e (tOp (rEqD Γ.K) (tVar i) tb)) {tb : TE} (h : DE Γ X W e2 tb b) : DE Γ X W e (tOp (rEqD Γ.K) (tVar i) tb) (cmpO pEqD i b) := ⟨hpe h.1, den_eqO h.2⟩
theorem de_neO (hpe : ∀ {tb : TE}, PE X e2 tb → PE X e (tOp (rNeD Γ.K) (tVar i) tb)) {tb : TE} (h : DE Γ X W e2 tb b) : DE Γ X W e (tOp (rNeD Γ.K) (tVar i) tb) (cmpO pNeD i b) := ⟨hpe h.1, den_neO h.2⟩
theorem y_cmpO {p : P2} {ρ : List Sl} {R : A → List Sl → Prop} {Xx : XX} : cmpO p i b ρ R Xx ↔ (∃ ds, ρ[i]? = some (.own ds)) ∧ b ρ (fun y ρ1 => dD y fun u => match ρ1[i]? with
  | some (.own ds) => p (.list ds) u fun d => R (.d d) ρ1
  | _ => False) Xx := Iff.rfl
end
section
variable {Γ : Gx} {X : Cx} {W : WX} {e e1 e2 e3 : Expr} {a b c : EE}
/-- a chained comparison as a test -/
theorem dt_chain {r r' : R2} {p p' : P2} (hp : OpD Γ r p) (hp' : OpD Γ r' p') (hpt : ∀ {ta tb tc : TE}, PE X e1 ta → PE X e2 tb → PE X e3 tc → PT X e (tTest (tChain r r' ta tb tc))) (hpe : ∀ {ta tb tc : TE}, PE X e1 ta → PE X e2 tb → PE X e3 tc → PE X e (tChain r r' ta tb tc))
    {ta : TE} (h1 : DE Γ X W e1 ta a) {tb : TE} (h2 : DE Γ X W e2 tb b) {tc : TE} (h3 : DE Γ X W e3 tc c) : DT Γ X W e (tTest (tChain r r' ta tb tc)) (bOf (eChain p p' a b c)) := ⟨hpt h1.1 h2.1 h3.1, den_test (de_chain hp hp' hpe h1 h2 h3).2⟩
end
/-! helps -/
section
theorem y_cut {k k' : SS} {ρ : List Sl} {P : EndsP} (h : ∀ NX : List Sl → Prop, (∀ ρ', k' ρ' P → NX ρ') → k ρ ⟨NX, P.rt, P.bk, P.ct, P.ex⟩) : sSeq k k' ρ P := y_seq.mpr (h (fun ρ' => k' ρ' P) fun _ h => h)
theorem loopQ {lo : Int} {n : Nat} {g : GG} {b : SS} {P : EndsP} {ρ : List Sl} (Inv : Nat → List Sl → Prop) (h0 : Inv 0 ρ) (hs : ∀ BK (i : Nat) ρ1, i < n → Inv i ρ1 → g (.d (.int (lo + i))) ρ1 fun ρ2 => b ρ2 ⟨Inv (i + 1), P.rt, BK, Inv (i + 1), P.ex⟩) (hd : ∀ ρ1, Inv n ρ1 → P.nx ρ1) : LoopP (rngA lo n) g b P ρ :=
  loopR Inv h0 (fun i ρ1 hi h => hs P.nx i ρ1 hi h) hd
theorem fm_some {α β : Type} (f : α → β) : ∀ r : List α, (r.filterMap fun p => some (f p)) = r.map f
  | [] => rfl
  | p :: r => by rw [List.filterMap_cons, List.map_cons, fm_some f r]
theorem fm_if {α β : Type} (t : α → Bool) (f : α → β) : ∀ r : List α, (r.filterMap fun p => if t p = true then some (f p) else none) = (r.filter t).map f
  | [] => rfl
  | p :: r => by
    rw [List.filterMap_cons, List.filter_cons]
    cases h : t p
    · rw [if_neg (by decide), if_neg (by decide)]
      exact fm_if t f r
    · rw [if_pos rfl, if_pos rfl, List.map_cons, fm_if t f r]
theorem two_mono' {a b : Nat} (h : a ≤ b) : (2 : Int) ^ a ≤ 2 ^ b := by
  have : (2 : Nat) ^ a ≤ 2 ^ b := Nat.pow_le_pow_right (by decide) h
  exact_mod_cast this
theorem ixN_here {n j : Nat} (h : j < n) : ixN n (0 + (j : Nat)) = some j := by
  rw [Int.zero_add]
  unfold ixN
  simp [h]
theorem atI_any {α : Type} {xs : List α} {i : Int} (h0 : -(xs.length : Int) ≤ i) (h1 : i < xs.length) : ∃ x, x ∈ xs ∧ atI xs i = some x := by
  unfold atI ixN
  by_cases h : 0 ≤ i
  · have hi : i.toNat < xs.length := by omega
    refine ⟨xs[i.toNat], List.getElem_mem hi, ?_⟩
    simp [h, hi, h1]
  · have hi : (i + xs.length).toNat < xs.length := by omega
    refine ⟨xs[(i + xs.length).toNat], List.getElem_mem hi, ?_⟩
    simp [h, hi, h0]
theorem atI_map {α β : Type} {f : α → β} {xs : List α} {i : Int} {x : α} (h : atI xs i = some x) : atI (xs.map f) i = some (f x) := by
  unfold atI at h ⊢
  rw [List.length_map]
  cases e : ixN xs.length i with
  | none => rw [e] at h; cases h
  | some j =>
    rw [e] at h
    show (xs.map f)[j]? = _
    rw [List.getElem?_map, show xs[j]? = some x from h]
    rfl
theorem at4 {α : Type} {a b c d e : α} {l : List α} : atI (a :: b :: c :: d :: e :: l) 4 = some e := atI_nat (j := 4) rfl
theorem cut_1 {xs : List PyData} : cutA xs (some 1) none = xs.drop 1 := by
  cases xs with
  | nil => rfl
  | cons x xs =>
    unfold cutA
    simp [HT.sIx]
theorem szS {n m : Nat} (h : n ≤ m) (hm : m ≤ 100000) : szL n := by
  unfold szL
  rw [sizeLine_eq]
  omega
theorem ints_lay0 : ∀ fs : List Int, PyData.canLayAll0 (fs.map PyData.int) = true
  | [] => rfl
  | _ :: fs => by
    show (true && PyData.canLayAll0 (fs.map PyData.int)) = true
    rw [ints_lay0 fs]
    rfl
theorem ints_deep0 : ∀ fs : List Int, PyData.depthAll (fs.map PyData.int) = 0
  | [] => rfl
  | _ :: fs => by
    show max 0 (PyData.depthAll (fs.map PyData.int)) = 0
    rw [ints_deep0 fs]
    rfl
theorem shT0 (fs : List Int) : SeqAt.shaped (.tuple (fs.map PyData.int)) = true := by
  unfold SeqAt.shaped
  simp only [PyData.canLay0, PyData.depth, ints_lay0, ints_deep0]
  simp
theorem shL0 (fs : List Int) : SeqAt.shaped (.list (fs.map PyData.int)) = true := by
  unfold SeqAt.shaped
  simp only [PyData.canLay0, PyData.depth, ints_lay0, ints_deep0]
  simp
theorem eqvT0 (fs : List Int) : PyData.eqv (.tuple (fs.map PyData.int)) (.tuple []) = fs.isEmpty := by cases fs <;> rfl
theorem eqvL0 (fs : List Int) : PyData.eqv (.list (fs.map PyData.int)) (.list []) = fs.isEmpty := by cases fs <;> rfl
theorem shE : SeqAt.shaped (.list []) = true := by decide +kernel
theorem shE' : SeqAt.shaped (.tuple []) = true := by decide +kernel
end
end Cc

set_option Elab.async false
set_option linter.all false
set_option maxRecDepth 100000
set_option maxHeartbeats 4000000
/-! The pure layer: texts. -/
namespace Cc
open PySem PySem.Spec PyProof.Rows L2
abbrev PM := A → List A → (PyData → Prop) → Prop
def rAddS : R2 := fun x y H Q => ∃ i j, x = .str i ∧ y = .str j ∧ i.length + j.length ≤ sizeLine ∧ Q (.str (i ++ j)) H
def pAddS : P2
  | .str a, .str b, R => a.length + b.length ≤ sizeLine ∧ R (.str (a ++ b))
  | _, _, _ => False
def strI (i : Int) : Str := toString i
def pStr : PL
  | [.d (.int i)], R => i.natAbs.log2 < 1920 ∧ R (.str (strI i))
  | _, _ => False
def pIntB : PL
  | [.d (.int i)], R => R (.int i)
  | [.d (.bool k)], R => R (.int (if k then 1 else 0))
  | _, _ => False
def pIntS : PL
  | [.d (.str z)], R => ∃ n, PySem.intText? z = some n ∧ z.length ≤ 640 ∧ R (.int n)
  | _, _ => False
def pMinL : PL
  | [.d (.list ds)], R => ∃ ns : List Int, ds = ns.map PyData.int ∧ 0 < ns.length ∧ ∀ m, m ∈ ns → (∀ y, y ∈ ns → m ≤ y) → R (.int m)
  | _, _ => False
def pLenS : PL
  | [.d (.str z)], R => z.length ≤ sizeLine ∧ R (.int z.length)
  | _, _ => False
def pM0 (C : Str → Prop) (g : Str → PyData) : PM
  | .d (.str z), [], R => C z ∧ R (g z)
  | _, _, _ => False
def pM1 (g : Str → Str → PyData) : PM
  | .d (.str z), [.d (.str y)], R => R (g z y)
  | _, _, _ => False
def pMI (C : Str → Int → Prop) (g : Str → Int → PyData) : PM
  | .d (.str z), [.d (.int i)], R => C z i ∧ R (g z i)
  | _, _, _ => False
def pJoin : PM
  | .d (.str a), [.d (.list ds)], R => ∃ ys : List Str, ds = ys.map PyData.str ∧ (ys.map (·.length)).sum + ys.length * a.length ≤ 16777216 ∧ R (.str (Txt.join a ys))
  | _, _, _ => False
def isS : A → Prop
  | .d (.str _) => True
  | _ => False
def eM (p : PM) (a : EE) (as : AA) : EE := fun ρ R Xx => a ρ (fun x ρ1 => isS x ∧ as ρ1 (fun xs ρ2 => p x xs fun d => R (.d d) ρ2) Xx) Xx
def eM0 (p : PM) (a : EE) : EE := fun ρ R Xx => a ρ (fun x ρ1 => isS x ∧ p x [] fun d => R (.d d) ρ1) Xx
def dZ : A → (Str → Prop) → Prop
  | .d (.str b), P => P b
  | _, _ => False
def lSplit (a b : EE) : LL := fun ρ R Xx => a ρ (fun x ρ1 => isS x ∧ b ρ1 (fun y ρ2 => dZ x fun u => dZ y fun w => (w.length == 0) = false ∧ u.length + 2 ≤ sizeLine ∧ R ((Txt.split u w).map PyData.str) ρ2) Xx) Xx
def eSlS (a : EE) (lo hi : Option EE) : EE := fun ρ R Xx => a ρ (fun x ρ1 => dZ x fun u => dO lo ρ1 (fun l ρ2 => dO hi ρ2 (fun h ρ3 => u.length ≤ sizeLine ∧ R (.d (.str (cutS u l h))) ρ3) Xx) Xx) Xx
def pInD : P2 := fun d e R => match e with
  | .list ds => SeqAt.shaped d = true ∧ SeqAt.shaped (.list ds) = true ∧ R (.bool (ds.any fun z => PyData.eqv z d))
  | _ => False
section
variable {Γ : Gx} {X : Cx} {W : WX} {f : Fr} {F H F' H' : Hp} {σ σ' : L2.St} {ρ ρ' : List Sl} {x : A} {v : V} {d : PyData} {e e1 e2 e3 tg : Expr} {a b c : EE} {i j : Nat} {es : List Expr} {pos : Pos} {st : Stmt} {sts sts' : List Stmt} {k k' : SS} {gs : List Nat}
theorem dZ_of {P : Str → Prop} (h : dZ x P) : ∃ b, x = .d (.str b) ∧ P b := by
  cases x with
  | d y => cases y <;> first | exact ⟨_, rfl, h⟩ | exact h.elim
  | exc => exact h.elim
  | spr => exact h.elim
  | scr => exact h.elim
theorem isS_of (h : isS x) : ∃ b, x = .d (.str b) := by
  cases x with
  | d y => cases y <;> first | exact ⟨_, rfl⟩ | exact h.elim
  | exc => exact h.elim
  | spr => exact h.elim
  | scr => exact h.elim
theorem opd_addS : OpD Γ rAddS pAddS := fun f F H σ ρ x y u w Q R E h1 h2 q o => by
  unfold pAddS at q
  split at q
  · cases h1; cases h2
    exact ⟨_, _, rfl, rfl, q.1, o _ _ F H q.2 E (Same.refl _) (.str _)⟩
  · exact q.elim
theorem opd_inD : OpD Γ (rInD Γ.K) pInD := fun f F H σ ρ x y u w Q R E h1 h2 q o => by
  unfold pInD at q
  split at q
  · exact ⟨u, _, Dp.same E.s1 u (Dq.dp u h1), Dp.same E.s1 _ (Dq.dp _ h2), q.1, q.2.1, o _ _ F H q.2.2 E (Same.refl _) (.bl _)⟩
  · exact q.elim
theorem cd_str : CallD Γ (fun xs H Q => ∃ i, xs = [V.int i] ∧ i.natAbs.log2 < 1920 ∧ Q (.str (toString i)) H) pStr := fun f F H σ ρ vs xs Q R E r p o => by
  unfold pStr at p
  split at p
  · obtain ⟨u, rfl, r1⟩ := rp1 r
    cases r1
    exact ⟨_, rfl, p.1, o _ _ _ _ p.2 E (Same.refl _) (.str _)⟩
  · exact p.elim
theorem cd_intB : CallD Γ (fun xs H Q => (∃ i, xs = [V.int i] ∧ Q (.int i) H) ∨ ∃ k, xs = [V.bl k] ∧ Q (.int (if k then 1 else 0)) H) pIntB := fun f F H σ ρ vs xs Q R E r p o => by
  unfold pIntB at p
  split at p
  · obtain ⟨u, rfl, r1⟩ := rp1 r
    cases r1
    exact .inl ⟨_, rfl, o _ _ _ _ p E (Same.refl _) (.int _)⟩
  · obtain ⟨u, rfl, r1⟩ := rp1 r
    cases r1
    exact .inr ⟨_, rfl, o _ _ _ _ p E (Same.refl _) (.int _)⟩
  · exact p.elim
theorem cd_intS : CallD Γ (fun xs H Q => ∃ a n, xs = [V.str a] ∧ PySem.intText? a = some n ∧ a.length ≤ 640 ∧ Q (.int n) H) pIntS := fun f F H σ ρ vs xs Q R E r p o => by
  unfold pIntS at p
  split at p
  · obtain ⟨u, rfl, r1⟩ := rp1 r
    obtain ⟨n, p1, p2, p3⟩ := p
    cases r1
    exact ⟨_, n, rfl, p1, p2, o _ _ _ _ p3 E (Same.refl _) (.int _)⟩
  · exact p.elim
theorem cd_minL : CallD Γ (rMin Γ.K) pMinL := fun f F H σ ρ vs xs Q R E r p o => by
  unfold pMinL at p
  split at p
  · obtain ⟨u, rfl, r1⟩ := rp1 r
    obtain ⟨ns, rfl, hp, p⟩ := p
    cases r1 with
    | lst hs ha =>
      have e := ha.ints
      subst e
      exact ⟨_, ns, rfl, .of (E.s1 _ _ hs), hp, fun m hm hle => o _ _ _ _ (p m hm hle) E (Same.refl _) (.int _)⟩
  · exact p.elim
theorem cd_lenS : CallD Γ (fun xs H Q => ∃ z, xs = [V.str z] ∧ z.length ≤ sizeLine ∧ Q (.int z.length) H) pLenS := fun f F H σ ρ vs xs Q R E r p o => by
  unfold pLenS at p
  split at p
  · obtain ⟨u, rfl, r1⟩ := rp1 r
    cases r1
    exact ⟨_, rfl, p.1, o _ _ _ _ p.2 E (Same.refl _) (.int _)⟩
  · exact p.elim
/-- a method by values -/
def MtD (Γ : Gx) (r : V → List V → Hp → VK → Prop) (p : PM) : Prop := ∀ f F H σ ρ v vs x xs Q R, Ent Γ f F H σ ρ → Rp Γ F v x → RpAll Γ F vs xs → p x xs R → (∀ d v F' H', R d → Ent Γ f F' H' σ ρ → Same F F' → Dq Γ.K F' v d → Q v H') → r v vs H Q
theorem isS_ty (h : isS x) (r : Rp Γ F v x) : tyV Γ.K "str" v H := by
  obtain ⟨z, rfl⟩ := isS_of h
  cases r
  rfl
theorem de_m {r : V → List V → Hp → VK → Prop} {p : PM} {as : AA} (hp : MtD Γ r p) (hpe : ∀ {to : TE} {ta : TA}, PE X e1 to → PA X es ta → PE X e (tBM Γ.K "str" r to ta)) {to : TE} (h1 : DE Γ X W e1 to a) {ta : TA} (h2 : DA Γ X W es ta as) : DE Γ X W e (tBM Γ.K "str" r to ta) (eM p a as) := by
  obtain ⟨p1, d1⟩ := h1
  obtain ⟨p2, d2⟩ := h2
  refine ⟨hpe p1 p2, fun f F H σ ρ Q R Xx E q o ox => ?_⟩
  refine d1 f F H σ ρ _ _ Xx E q (fun x ρ1 F1 H1 v1 q1 E1 s1 r1 => ?_) ox
  refine ⟨isS_ty q1.1 r1, ?_⟩
  refine d2 f F1 H1 σ ρ1 _ _ Xx E1 q1.2 (fun xs ρ2 F2 H2 vs q2 E2 s2 r2 => ?_) ox
  exact hp f F2 H2 σ ρ2 v1 vs x xs Q _ E2 (r1.same s2) r2 q2 fun d v F' H' rd E' s' hd => o _ _ _ _ _ rd E' ((s1.trans s2).trans s') hd
theorem de_m0 {r : V → List V → Hp → VK → Prop} {p : PM} (hp : MtD Γ r p) (hpe : ∀ {to : TE}, PE X e1 to → PE X e (tBM0 Γ.K "str" r to)) {to : TE} (h1 : DE Γ X W e1 to a) : DE Γ X W e (tBM0 Γ.K "str" r to) (eM0 p a) := by
  obtain ⟨p1, d1⟩ := h1
  refine ⟨hpe p1, fun f F H σ ρ Q R Xx E q o ox => ?_⟩
  refine d1 f F H σ ρ _ _ Xx E q (fun x ρ1 F1 H1 v1 q1 E1 s1 r1 => ?_) ox
  refine ⟨isS_ty q1.1 r1, ?_⟩
  exact hp f F1 H1 σ ρ1 v1 [] x [] Q _ E1 r1 trivial q1.2 fun d v F' H' rd E' s' hd => o _ _ _ _ _ rd E' (s1.trans s') hd
theorem md_0 {C : Str → Prop} {g : Str → Bool} : MtD Γ (fun x xs H Q => ∃ a, x = .str a ∧ xs = [] ∧ C a ∧ Q (.bl (g a)) H) (pM0 C fun z => .bool (g z)) := fun f F H σ ρ v vs x xs Q R E rv r p o => by
  unfold pM0 at p
  split at p
  · cases rv
    cases vs with
    | nil => exact ⟨_, rfl, rfl, p.1, o _ _ _ _ p.2 E (Same.refl _) (.bl _)⟩
    | cons => exact r.elim
  · exact p.elim
theorem md_1 {g : Str → Str → Bool} : MtD Γ (fun x xs H Q => ∃ a b, x = .str a ∧ xs = [.str b] ∧ Q (.bl (g a b)) H) (pM1 fun z y => .bool (g z y)) := fun f F H σ ρ v vs x xs Q R E rv r p o => by
  unfold pM1 at p
  split at p
  · obtain ⟨u, rfl, r1⟩ := rp1 r
    cases rv; cases r1
    exact ⟨_, _, rfl, rfl, o _ _ _ _ p E (Same.refl _) (.bl _)⟩
  · exact p.elim
theorem md_zfill : MtD Γ (fun x xs H Q => ∃ (a : Str) (i : Int), x = .str a ∧ xs = [.int i] ∧ PadOk i = true ∧ Q (.str (Txt.zfill a i)) H) (pMI (fun _ i => PadOk i = true) fun z i => .str (Txt.zfill z i)) := fun f F H σ ρ v vs x xs Q R E rv r p o => by
  unfold pMI at p
  split at p
  · obtain ⟨u, rfl, r1⟩ := rp1 r
    cases rv; cases r1
    exact ⟨_, _, rfl, rfl, p.1, o _ _ _ _ p.2 E (Same.refl _) (.str _)⟩
  · exact p.elim
theorem dq_strs {F : Hp} : ∀ {ys : List Str} {vs : List V}, DqAll Γ.K F vs (ys.map PyData.str) → vs = ys.map V.str
  | [], _, h => by cases h; rfl
  | y :: ys, _, h => by
    cases h with
    | cons h1 h2 =>
      cases h1
      rw [dq_strs h2]
      rfl
theorem strs_dq {F : Hp} : ∀ ys : List Str, DqAll Γ.K F (ys.map V.str) (ys.map PyData.str)
  | [] => .nil
  | _ :: ys => .cons (.str _) (strs_dq ys)
theorem md_join : MtD Γ (fun x xs H Q => ∃ a p, ∃ ys : List Str, x = .str a ∧ xs = [.ref p] ∧ (SqL Γ.K H p (ys.map V.str) ∨ SqT Γ.K H p (ys.map V.str)) ∧ (ys.map (·.length)).sum + ys.length * a.length ≤ 16777216 ∧ Q (.str (Txt.join a ys)) H) pJoin := fun f F H σ ρ v vs x xs Q R E rv r p o => by
  unfold pJoin at p
  split at p
  · obtain ⟨u, rfl, r1⟩ := rp1 r
    obtain ⟨ys, rfl, p1, p2⟩ := p
    cases rv
    cases r1 with
    | lst hs ha =>
      have e := dq_strs ha
      subst e
      exact ⟨_, _, ys, rfl, rfl, .inl (.of (E.s1 _ _ hs)), p1, o _ _ _ _ p2 E (Same.refl _) (.str _)⟩
  · exact p.elim
theorem dl_split (hpe : ∀ {to te : TE}, PE X e1 to → PE X e2 te → PE X e (tBM Γ.K "str" (fun x xs H Q => ∃ a b, x = .str a ∧ xs = [.str b] ∧ (b.length == 0) = false ∧ a.length + 2 ≤ sizeLine ∧ rNewStrs (Txt.split a b) H Q) to (tCons te tNil))) {to : TE} (h1 : DE Γ X W e1 to a) {te : TE} (h2 : DE Γ X W e2 te b) :
    DL Γ X W e (tBM Γ.K "str" (fun x xs H Q => ∃ a b, x = .str a ∧ xs = [.str b] ∧ (b.length == 0) = false ∧ a.length + 2 ≤ sizeLine ∧ rNewStrs (Txt.split a b) H Q) to (tCons te tNil)) (lSplit a b) := by
  obtain ⟨p1, d1⟩ := h1
  obtain ⟨p2, d2⟩ := h2
  refine ⟨hpe p1 p2, fun f F H σ ρ Q R Xx E q o ox => ?_⟩
  refine d1 f F H σ ρ _ _ Xx E q (fun x ρ1 F1 H1 v1 q1 E1 s1 r1 => ?_) ox
  refine ⟨isS_ty q1.1 r1, ?_⟩
  refine d2 f F1 H1 σ ρ1 _ _ Xx E1 q1.2 (fun y ρ2 F2 H2 v2 q2 E2 s2 r2 => ?_) ox
  obtain ⟨u, rfl, q3⟩ := dZ_of q2
  obtain ⟨w, rfl, q4⟩ := dZ_of q3
  cases r1; cases r2
  refine ⟨_, _, rfl, rfl, q4.1, q4.2.1, fun p np => ?_⟩
  exact o _ _ _ _ _ _ q4.2.2 (E2.raw np) (s1.trans s2) (own_new E2 (strs_dq _) np)
theorem de_slS {l h : Option Expr} {lo hi : Option EE} (hpe : ∀ {ta : TE} {tl th : TO}, PE X e1 ta → PO X l tl → PO X h th → PE X e (tSl rSlS ta tl th)) {ta : TE} (h1 : DE Γ X W e1 ta a) {tl : TO} (h2 : DO Γ X W l tl lo) {th : TO} (h3 : DO Γ X W h th hi) : DE Γ X W e (tSl rSlS ta tl th) (eSlS a lo hi) := by
  obtain ⟨p1, d1⟩ := h1
  obtain ⟨p2, d2⟩ := h2
  obtain ⟨p3, d3⟩ := h3
  refine ⟨hpe p1 p2 p3, fun f F H σ ρ Q R Xx E q o ox => ?_⟩
  refine d1 f F H σ ρ _ _ Xx E q (fun x ρ1 F1 H1 v1 q1 E1 s1 r1 => ?_) ox
  obtain ⟨us, rfl, q1'⟩ := dZ_of q1
  refine d2 f F1 H1 σ ρ1 _ _ Xx E1 q1' (fun lo' ρ2 F2 H2 q2 E2 s2 => ?_) ox
  refine d3 f F2 H2 σ ρ2 _ _ Xx E2 q2 (fun hi' ρ3 F3 H3 q3 E3 s3 => ?_) ox
  cases r1
  exact ⟨_, rfl, q3.1, o _ _ _ _ _ q3.2 E3 ((s1.trans s2).trans s3) (.str _)⟩
/-- by keyword, raising nothing -/
theorem de_callK0 {φ : Phi} {as : AA} {kws : List Keyword} {gV : List V → List V} {gA : List A → List A} (hg : ∀ {vs : List V} {xs : List A} {F : Hp}, RpAll Γ F vs xs → RpAll Γ F (gV vs) (gA xs)) (hpe : ∀ {ta : TA}, PK X kws ta → PE X e (tCallKS (spP Γ false φ) gV (fun _ => E0) ta)) {ta : TA} (h : PK X kws ta ∧ DenA Γ W ta as) :
    DE Γ X W e (tCallKS (spP Γ false φ) gV (fun _ => E0) ta) (eCall0 (fun n xs => φ n (gA xs)) as) := by
  obtain ⟨p, dn⟩ := h
  refine ⟨hpe p, fun f F H σ ρ Q R Xx E q o ox => ?_⟩
  refine dn f F H σ ρ _ _ Xx E q (fun xs ρ1 F1 H1 us q1 E1 s1 r1 => ?_) ox
  exact sp_at E1 (hg r1) q1 (fun x v F' H' rr E' s' h => o x ρ1 F' H' v (rr.elim id fun ⟨_, z⟩ => z) E' (s1.trans s') h) fun c d n' v dx F' H' z => z.elim
end
theorem room65 {k : Nat} {A : Around} (r : Room k A) : A.units + 65 < cLine := by have := r.un; omega
/-! a def that raises nothing, called by keyword too -/
section
variable {Γ : Gx} {P : Program} {w : World} {mg : Str → Option Value} {base : Heap} {k : Nat} {x : Str} {st : Stmt} {N ps : List Str} {φ : Phi} {rg : Bool}
theorem mkPPK (T : Tx Γ.K mg x st) (S : FnScope N ps (defScope st))
    (len : ∀ n xs R Xx, φ n xs R Xx → (if rg = true then 1 else 0) + xs.length = ps.length) (hX : ∀ n xs R Xx, φ n xs R Xx → φ n xs R fun _ _ _ => False)
    (hbody : ∀ (f : Addr) (cdv : Value) (A : Around) (outer : List Env) (s : Shared) (H : Hp) (E : XK), A.guards = some [] → Room k (A.deeper (envOfC x (defScope st) s.heap.objs.size f cdv)) →
      ∃ t κ, DSs Γ (cxOf CX0 P w Γ.K mg base N x (defScope st) f cdv A outer s H E).nox (fun _ _ _ _ => False) (defBody st) t κ ∧ ∀ n xs R, φ n xs R (fun _ _ _ => False) → κ (initS rg n N xs) (ends0 rg R)) :
    PrK P w Γ.K mg base CX0 (k + 1) x st ps (spP Γ rg φ) :=
  mkK T S (sp_len len) fun f cdv A outer s H vs Q E hG hr h => by
    obtain ⟨t, κ, d, q⟩ := hbody f cdv A outer s H E hG hr
    exact ⟨t, d.1, body0 (X := cxOf CX0 P w Γ.K mg base N x (defScope st) f cdv A outer s H E) h d.2 q hX⟩
theorem mkPPXK (T : Tx Γ.K mg x st) (S : FnScope N ps (defScope st))
    (len : ∀ n xs R Xx, φ n xs R Xx → (if rg = true then 1 else 0) + xs.length = ps.length)
    (hbody : ∀ (f : Addr) (cdv : Value) (A : Around) (outer : List Env) (s : Shared) (H : Hp) (E : XK), A.guards = some [] → Room k (A.deeper (envOfC x (defScope st) s.heap.objs.size f cdv)) →
      ∃ t κ, DSs Γ (cxOf (L2N.CX P w) P w Γ.K mg base N x (defScope st) f cdv A outer s H E) (fun cls dx _ H => E cls dx H) (defBody st) t κ ∧ ∀ n xs R Xx, φ n xs R Xx → κ (initS rg n N xs) (endsX rg R Xx)) :
    PrK P w Γ.K mg base (L2N.CX P w) (k + 1) x st ps (spP Γ rg φ) :=
  mkKX T S (sp_len len) fun f cdv A outer s H vs Q E hG hr h => by
    obtain ⟨t, κ, d, q⟩ := hbody f cdv A outer s H E hG hr
    exact ⟨t, d.1, bodyX h d.2 q⟩
end
/-! readings -/
section
variable {ρ : List Sl} {R : A → List Sl → Prop} {RL : List PyData → List Sl → Prop} {Xx : XX} {a b : EE} {as : AA} {x : A} {z y : Str} {i : Int}
theorem y_addS {Q : PyData → Prop} : pAddS (.str z) (.str y) Q ↔ z.length + y.length ≤ sizeLine ∧ Q (.str (z ++ y)) := Iff.rfl
theorem y_str {Q : PyData → Prop} : pStr [.d (.int i)] Q ↔ i.natAbs.log2 < 1920 ∧ Q (.str (strI i)) := Iff.rfl
theorem y_intB {k : Bool} {Q : PyData → Prop} : pIntB [.d (.bool k)] Q ↔ Q (.int (if k then 1 else 0)) := Iff.rfl
theorem y_intI {Q : PyData → Prop} : pIntB [.d (.int i)] Q ↔ Q (.int i) := Iff.rfl
theorem y_intS {Q : PyData → Prop} : pIntS [.d (.str z)] Q ↔ ∃ n, PySem.intText? z = some n ∧ z.length ≤ 640 ∧ Q (.int n) := Iff.rfl
theorem y_minL {ds : List PyData} {Q : PyData → Prop} : pMinL [.d (.list ds)] Q ↔ ∃ ns : List Int, ds = ns.map PyData.int ∧ 0 < ns.length ∧ ∀ m, m ∈ ns → (∀ y, y ∈ ns → m ≤ y) → Q (.int m) := Iff.rfl
theorem y_lenZ {Q : PyData → Prop} : pLenS [.d (.str z)] Q ↔ z.length ≤ sizeLine ∧ Q (.int z.length) := Iff.rfl
theorem y_m {p : PM} : eM p a as ρ R Xx ↔ a ρ (fun x ρ1 => isS x ∧ as ρ1 (fun xs ρ2 => p x xs fun d => R (.d d) ρ2) Xx) Xx := Iff.rfl
theorem y_m0 {p : PM} : eM0 p a ρ R Xx ↔ a ρ (fun x ρ1 => isS x ∧ p x [] fun d => R (.d d) ρ1) Xx := Iff.rfl
theorem y_isS : isS (.d (.str z)) ↔ True := Iff.rfl
theorem y_pM0 {C : Str → Prop} {g : Str → PyData} {Q : PyData → Prop} : pM0 C g (.d (.str z)) [] Q ↔ C z ∧ Q (g z) := Iff.rfl
theorem y_pM1 {g : Str → Str → PyData} {Q : PyData → Prop} : pM1 g (.d (.str z)) [.d (.str y)] Q ↔ Q (g z y) := Iff.rfl
theorem y_pMI {C : Str → Int → Prop} {g : Str → Int → PyData} {Q : PyData → Prop} : pMI C g (.d (.str z)) [.d (.int i)] Q ↔ C z i ∧ Q (g z i) := Iff.rfl
theorem y_joinS {ds : List PyData} {Q : PyData → Prop} : pJoin (.d (.str z)) [.d (.list ds)] Q ↔ ∃ ys : List Str, ds = ys.map PyData.str ∧ (ys.map (·.length)).sum + ys.length * z.length ≤ 16777216 ∧ Q (.str (Txt.join z ys)) := Iff.rfl
theorem y_dZ {Q : Str → Prop} : dZ (.d (.str z)) Q ↔ Q z := Iff.rfl
theorem y_split : lSplit a b ρ RL Xx ↔ a ρ (fun x ρ1 => isS x ∧ b ρ1 (fun y ρ2 => dZ x fun u => dZ y fun w => (w.length == 0) = false ∧ u.length + 2 ≤ sizeLine ∧ RL ((Txt.split u w).map PyData.str) ρ2) Xx) Xx := Iff.rfl
theorem y_slS {lo hi : Option EE} : eSlS a lo hi ρ R Xx ↔ a ρ (fun x ρ1 => dZ x fun u => dO lo ρ1 (fun l ρ2 => dO hi ρ2 (fun h ρ3 => u.length ≤ sizeLine ∧ R (.d (.str (cutS u l h))) ρ3) Xx) Xx) Xx := Iff.rfl
theorem y_inD {ds : List PyData} {d : PyData} {Q : PyData → Prop} : pInD d (.list ds) Q ↔ SeqAt.shaped d = true ∧ SeqAt.shaped (.list ds) = true ∧ Q (.bool (ds.any fun z => PyData.eqv z d)) := Iff.rfl
end
end Cc

set_option Elab.async false
set_option linter.all false
set_option maxRecDepth 100000
set_option maxHeartbeats 4000000
/-! The pure layer: a list within a list that a call has just made is appended to; texts walked; a sign in a text; a text some times; isinstance of a tuple of classes. -/
namespace Cc
open PySem PySem.Spec PyProof.Rows L2
def flatA : Cc.A → Prop
  | .d x => flatD x = true
  | _ => False
/-- x = f(..); if t1: b1; if t2: x[0].append(e): f's answer is its own -/
def sFresh (i : Nat) (φ : Phi) (as : AA) (t1 t2 : BB) (b1 : SS) (e : EE) : SS := fun ρ P =>
  (i < ρ.length ∧ ∀ (j : Nat) (s : Sl), ρ[j]? = some s → s = .un ∨ ∃ x, s = .a x) ∧
  as ρ (fun xs ρ1 => ρ1 = ρ ∧ (∀ x ∈ xs, flatA x) ∧ φ 0 xs (fun x _ => t1 (ρ.set i (.a x)) (fun c ρ2 => if c = true then b1 ρ2 { P with nx := fun _ => False } else
    t2 ρ2 (fun c2 ρ3 => if c2 = true then ∃ ds us, x = .d (.list (.list ds :: us)) ∧ e ρ3 (fun y ρ4 => dD y fun _ => szL (ds.length + 1) ∧ P.nx (ρ.set i .un)) P.ex else P.nx ρ3) P.ex) P.ex) (fun _ _ _ => False)) P.ex
section
variable {Γ : Gx} {X : Cx} {W : WX} {f : Fr} {F H F' H' : Hp} {σ σ' : L2.St} {ρ ρ' : List Sl} {x : Cc.A} {v : V} {d : PyData} {e e1 e2 e3 tg : Expr} {a b c : EE} {i j : Nat} {es : List Expr} {pos : Pos} {st : Stmt} {sts sts' : List Stmt} {k k' : SS} {gs : List Nat}
theorem rp_flat : ∀ {vs : List V} {xs : List Cc.A}, RpAll Γ F vs xs → (∀ x ∈ xs, flatA x) → RpAll Γ F' vs xs
  | [], [], _, _ => trivial
  | v :: vs, x :: xs, ⟨h1, h2⟩, hf => by
    refine ⟨?_, rp_flat h2 fun y hy => hf y (List.mem_cons_of_mem _ hy)⟩
    have h := hf x (List.mem_cons_self ..)
    cases x with
    | d u =>
      have h : flatD u = true := h
      cases u with
      | none => cases h1; exact .non
      | bool b => cases h1; exact .bl _
      | int i => cases h1; exact .int _
      | str z => cases h1; exact .str _
      | list _ => cases h
      | tuple _ => cases h
      | dict _ => cases h
    | exc => exact h.elim
    | spr => exact h.elim
    | scr => exact h.elim
  | [], _ :: _, h, _ => h.elim
  | _ :: _, [], h, _ => h.elim
theorem dss_fresh {φ : Phi} {as : AA} {c1 c2 ea : Expr} {b1s : List Stmt} {t1 t2 : BB} {b1 : SS} {ε : EE}
    (hpe : ∀ {ta : TA} {tt1 : TT} {tb1 : TS} {tt2 : TT} {te : TE}, PA X es ta → PT X c1 tt1 → PSs X b1s tb1 → PT X c2 tt2 → PE X ea te →
      PSs X sts (tSeq (tAsg (tCall (spP Γ false φ) [] E0 ta) (gName i)) (tSeq (tIfS tt1 tb1 tNext) (tIfS tt2 (tDrop (tBM Γ.K "list" rAppend (tOp (rIx Γ.K) (tVar i) (tC (.int 0))) (tCons te tNil))) tNext))))
    {ta : TA} (ha : DA Γ X W es ta as) {tt1 : TT} (h1 : DT Γ X W c1 tt1 t1) {tb1 : TS} (hb : DSs Γ X W b1s tb1 b1) {tt2 : TT} (h2 : DT Γ X W c2 tt2 t2) {te : TE} (he : DE Γ X W ea te ε) :
    DSs Γ X W sts (tSeq (tAsg (tCall (spP Γ false φ) [] E0 ta) (gName i)) (tSeq (tIfS tt1 tb1 tNext) (tIfS tt2 (tDrop (tBM Γ.K "list" rAppend (tOp (rIx Γ.K) (tVar i) (tC (.int 0))) (tCons te tNil))) tNext))) (sFresh i φ as t1 t2 b1 ε) := by
  refine ⟨hpe ha.1 h1.1 hb.1 h2.1 he.1, fun f F H σ ρ P D E q o => ?_⟩
  obtain ⟨⟨hi, plain⟩, q⟩ := q
  refine ha.2 f F H σ ρ _ _ P.ex E q (fun xs ρ1 F1 H1 us q1 E1 s1 r1 => ?_) (o.ex σ)
  obtain ⟨rfl, hflat, q1⟩ := q1
  show spP Γ false φ (us ++ []) H1 _ E0
  rw [List.append_nil]
  refine ⟨fun _ => False, 0, fun _ => none, 0, xs, us, _, _, rfl, rp_flat r1 hflat, (fun _ _ z => nomatch z), (fun _ z => z.elim), (fun _ _ z => nomatch z), (fun z => Bool.noConfusion z), (fun _ _ z => z), q1, fun x n' v Ft H2 qx st hv => ?_, fun _ _ _ _ _ _ _ z => z.elim⟩
  have qx : t1 (ρ1.set i (.a x)) (fun c ρ2 => if c = true then b1 ρ2 { P with nx := fun _ => False } else
    t2 ρ2 (fun c2 ρ3 => if c2 = true then ∃ ds us, x = .d (.list (.list ds :: us)) ∧ ε ρ3 (fun y ρ4 => dD y fun _ => szL (ds.length + 1) ∧ P.nx (ρ1.set i .un)) P.ex else P.nx ρ3) P.ex) P.ex := qx
  let U : Hp := fun b => match F1 b with | some o => some o | none => Ft b
  have newT : ∀ b o, Ft b = some o → H1 b = none := fun b o e => (st.new b o e).elim (fun z => nomatch z) id
  have sU : Same F1 U := fun b o e => by show (match F1 b with | some o => some o | none => Ft b) = some o; rw [e]
  have tU : Same Ft U := fun b o e => by
    show (match F1 b with | some o => some o | none => Ft b) = some o
    cases h : F1 b with
    | none => exact e
    | some u => have := E1.s1 _ _ h; rw [newT b o e] at this; cases this
  have ofU : ∀ b o, U b = some o → F1 b = some o ∨ Ft b = some o := fun b o e => by
    have e : (match F1 b with | some o => some o | none => Ft b) = some o := e
    cases h : F1 b with
    | none => rw [h] at e; exact .inr e
    | some u => rw [h] at e; exact .inl e
  have stU : Stp Γ false (fun _ => False) 0 F1 H1 U H2 n' := ⟨sU, fun b o e => (ofU b o e).elim (fun h => st.chg _ _ (E1.s1 _ _ h) (fun z => z)) (fun h => st.s1 _ _ h), fun b o e => (ofU b o e).elim .inl (fun h => .inr (newT b o h)), st.chg, st.liv, (fun z => Bool.noConfusion z), fun b o e => (ofU b o e).elim (fun h => (E1.cl b o h).same sU) (fun h => (st.cl b o h).same tU)⟩
  have E2 : Ent Γ f U H2 σ ρ1 := E1.stp0 (fun _ z => z) stU
  have E3 := E2.setA (i := i) (hv.same tU)
  refine h1.2 f U H2 _ _ _ _ P.ex E3 qx (fun c ρ2 F3 H3 q3 E4 s4 => ?_) (o.ex _)
  cases c with
  | true =>
    rw [if_pos rfl]
    have o' := o.sub ((s1.trans sU).trans s4)
    exact hb.2 f F3 H3 _ ρ2 { P with nx := fun _ => False } _ E4 q3 ⟨fun _ _ _ _ z => z.elim, o'.rt, o'.bk, o'.ct, o'.ex⟩
  | false =>
    refine h2.2 f F3 H3 _ ρ2 _ _ P.ex E4 q3 (fun c2 ρ3 F4 H4 q4 E5 s5 => ?_) (o.ex _)
    cases c2 with
    | false => exact o.nx _ _ _ _ q4 E5 (((s1.trans sU).trans s4).trans s5)
    | true =>
      obtain ⟨ds, us', rfl, q4⟩ := q4
      cases hv with
      | @lst bo _ _ hs hall =>
        cases hall with
        | cons hin hrest =>
          cases hin with
          | @lst bi xi _ hsi halli =>
            have tF4 : Same Ft F4 := (tU.trans s4).trans s5
            have hil : i < σ.length := by rw [E1.len]; exact hi
            have hget : (σ.set i (some (.ref bo)))[i]? = some (some (.ref bo)) := by rw [List.getElem?_set, if_pos rfl, if_pos hil]
            have tH4 : Same Ft H4 := tF4.trans E5.s1
            refine ⟨.ref bo, hget, .inl ⟨_, _, _, _, rfl, rfl, .of (tH4 _ _ hs), at0, x_tyL (.of (tH4 _ _ hsi)), ?_⟩⟩
            refine he.2 f F4 H4 _ ρ3 _ _ P.ex E5 q4 (fun y ρ4 F5 H5 w q5 E6 s6 r6 => ?_) (o.ex _)
            obtain ⟨du, rfl, hz, q5⟩ := dD_of q5
            have tF5 : Same Ft F5 := tF4.trans s6
            have hH5 := E6.s1 _ _ (tF5 _ _ hsi)
            refine ⟨_, _, _, rfl, rfl, hH5, by rw [halli.len]; exact hz, ?_⟩
            have n1 : H1 bi = none := newT _ _ hsi
            have f1 : F1 bi = none := E1.fnone n1
            have h0 : f.H0 bi = none := E1.liv _ n1
            have s15 : Same F1 F5 := ((sU.trans s4).trans s5).trans s6
            have noown : ∀ (j : Nat) (ds : List PyData), (ρ1.set i .un)[j]? = some (Sl.own ds) → False := fun j ds h => by
              rw [List.getElem?_set] at h
              by_cases hj : i = j
              · rw [if_pos hj] at h
                split at h <;> cases h
              · rw [if_neg hj] at h
                rcases plain j _ h with z | ⟨_, z⟩ <;> cases z
            refine o.nx _ (ρ1.set i .un) F1 _ q5 ⟨E1.s0, fun b u e => ?_, E1.new, fun b u e m => ?_, fun b e => ?_, by rw [List.length_set, List.length_set]; exact E1.len, fun j s hj => ?_, fun j k a ds es z => (noown _ _ z).elim, E1.rm, E1.rF, fun b hb => ?_, fun b hb ⟨j, ds, z, _⟩ => noown _ _ z, E1.ml, E1.cl⟩ s1
            · rw [upd_ne (ne_of_none e f1)]; exact E6.s1 _ _ (s15 _ _ e)
            · rw [upd_ne (ne_of_none e h0)]; exact E6.chg b u e m
            · by_cases hb : b = bi
              · rw [hb, upd_same] at e; cases e
              · rw [upd_ne hb] at e; exact E6.liv b e
            · rw [List.getElem?_set] at hj ⊢
              by_cases hij : i = j
              · rw [if_pos hij] at hj
                split at hj
                · cases hj; trivial
                · first | cases hj; trivial | cases hj
              · rw [if_neg hij] at hj ⊢
                have old := E1.sl j s hj
                rcases plain j s hj with rfl | ⟨y, rfl⟩
                · trivial
                · exact old
            · by_cases hbb : b = bi
              · rw [hbb, upd_same]; exact nofun
              · rw [upd_ne hbb]; exact E6.rl b hb
theorem y_fresh {φ : Phi} {as : AA} {t1 t2 : BB} {b1 : SS} {ε : EE} {P : EndsP} : sFresh i φ as t1 t2 b1 ε ρ P ↔ (i < ρ.length ∧ ∀ (j : Nat) (s : Sl), ρ[j]? = some s → s = .un ∨ ∃ x, s = .a x) ∧
  as ρ (fun xs ρ1 => ρ1 = ρ ∧ (∀ x ∈ xs, flatA x) ∧ φ 0 xs (fun x _ => t1 (ρ.set i (.a x)) (fun c ρ2 => if c = true then b1 ρ2 { P with nx := fun _ => False } else
    t2 ρ2 (fun c2 ρ3 => if c2 = true then ∃ ds us, x = .d (.list (.list ds :: us)) ∧ ε ρ3 (fun y ρ4 => dD y fun _ => szL (ds.length + 1) ∧ P.nx (ρ.set i .un)) P.ex else P.nx ρ3) P.ex) P.ex) (fun _ _ _ => False)) P.ex := Iff.rfl
/-! a text, walked -/
def sgA (z : Str) : List Cc.A := z.cps.toList.map fun c => Cc.A.d (.str ⟨#[c]⟩)
def iTx (a : EE) : II := fun ρ R Xx => a ρ (fun x ρ1 => dZ x fun z => R (sgA z) ρ1) Xx
theorem jok_str {z : Str} : JOk Γ F (Its z) (sgA z) where
  go i H s hi := by
    unfold sgA at hi
    rw [List.length_map] at hi
    exact hi
  stop i H s hi := by
    unfold sgA at hi
    rw [List.length_map] at hi
    exact hi
  yld i H v H' s hil y := by
    obtain ⟨rfl, c, hc, rfl⟩ := y
    refine ⟨.d (.str ⟨#[c]⟩), ?_, .inl ⟨rfl, .str _⟩⟩
    unfold sgA
    rw [List.getElem?_map, Array.getElem?_toList, hc]
    rfl
theorem di_str (hpe : ∀ {t : TE}, PE X e1 t → PI X tg e (iStr t)) {t : TE} (h : DE Γ X W e1 t a) : DI Γ X W tg e (iStr t) (iTx a) := by
  obtain ⟨p, d⟩ := h
  refine ⟨hpe p, fun f F H σ ρ G R Xx E q o ox => ?_⟩
  refine d f F H σ ρ _ _ Xx E q (fun x ρ1 F1 H1 v1 q1 E1 s1 r1 => ?_) ox
  obtain ⟨z, rfl, q2⟩ := dZ_of q1
  cases r1
  exact ⟨z, rfl, o _ _ _ _ _ q2 E1 s1 jok_str⟩
theorem y_iTx {RA : List Cc.A → List Sl → Prop} {Xx : XX} : iTx a ρ RA Xx ↔ a ρ (fun x ρ1 => dZ x fun z => RA (sgA z) ρ1) Xx := Iff.rfl
/-! a sign in a text -/
def pSign (neg : Bool) : P2
  | .str y, .str z, R => ∃ c, y = ⟨#[c]⟩ ∧ R (.bool (if neg then !decide (c ∈ z.cps.toList) else decide (c ∈ z.cps.toList)))
  | _, _, _ => False
theorem opd_notSign : OpD Γ (fun x y H Q => ∃ (c : Nat) (z : Str), x = .str ⟨#[c]⟩ ∧ y = .str z ∧ Q (.bl (!decide (c ∈ z.cps.toList))) H) (pSign true) := fun f F H σ ρ x y u w Q R E h1 h2 q o => by
  unfold pSign at q
  split at q
  · obtain ⟨c, rfl, q⟩ := q
    cases h1; cases h2
    exact ⟨c, _, rfl, rfl, o _ _ F H q E (Same.refl _) (.bl _)⟩
  · exact q.elim
theorem y_sign {neg : Bool} {y z : Str} {Q : PyData → Prop} : pSign neg (.str y) (.str z) Q ↔ ∃ c, y = ⟨#[c]⟩ ∧ Q (.bool (if neg then !decide (c ∈ z.cps.toList) else decide (c ∈ z.cps.toList))) := Iff.rfl
/-! a text some times -/
def repS (z : Str) (n : Int) : Str := if n < 1 then Str.empty else if (n == 1 || z.length == 0) = true then z else ⟨(List.replicate n.toNat z.cps).foldl (· ++ ·) #[]⟩
def rRepT : R2 := fun x y H Q => ∃ (z : Str) (n : Int), x = .str z ∧ y = .int n ∧ 0 ≤ n ∧ n ≤ 1000 ∧ z.length ≤ 1000 ∧ Q (.str (repS z n)) H
theorem op_repT : OpR X (binaryOp .Mult) rRepT := by
  intro pins s σ H x y v u Q I rx ry h
  obtain ⟨z, n, rfl, rfl, n0, n1, zl, q⟩ := h
  obtain ⟨t, rfl⟩ := rx
  obtain ⟨t', rfl⟩ := ry
  have bz : ∀ m : Nat, m ≤ 1000 → z.length * m ≤ 1000000 := fun m hm => Nat.mul_le_mul zl hm
  refine PySem.P.mul_str ?_ (fun h1 h2 => ?_) (fun h1 h2 => ?_) ?_
  · rw [decide_eq_false (by omega), decide_eq_false (by omega)]; rfl
  · have hn : 0 < n := by omega
    have : (1000 : Int) ≤ (2 ^ 63 - 1) / n := (Int.le_ediv_iff_mul_le hn).mpr (by omega)
    omega
  · have := bz n.toNat (by omega)
    unfold Builtin.Str.tooLong
    simp only [sizeLine_eq, decide_eq_false_iff_not]
    omega
  · unfold repS at q
    by_cases h1 : n < 1
    · rw [if_pos h1] at q ⊢
      exact ⟨by decide, .str Str.empty, H, I.tok _, ⟨_, rfl⟩, q⟩
    · rw [if_neg h1] at q ⊢
      by_cases h2 : (n == 1 || z.length == 0) = true
      · rw [if_pos h2] at q ⊢
        exact ⟨.str z, H, I, ⟨t, rfl⟩, q⟩
      · rw [if_neg h2] at q ⊢
        refine ⟨?_, .str _, H, I.tok _, ⟨_, rfl⟩, q⟩
        show ((List.replicate n.toNat z.cps).foldl (· ++ ·) #[]).size ≤ sizeLine
        rw [rep_size, sizeLine_eq]
        have := bz n.toNat (by omega)
        have e : z.cps.size = z.length := rfl
        rw [e, Nat.mul_comm n.toNat]
        show 0 + _ ≤ _
        omega
def pRepT : P2
  | .str z, .int n, R => 0 ≤ n ∧ n ≤ 1000 ∧ z.length ≤ 1000 ∧ R (.str (repS z n))
  | _, _, _ => False
theorem opd_repT : OpD Γ rRepT pRepT := fun f F H σ ρ x y u w Q R E h1 h2 q o => by
  unfold pRepT at q
  split at q
  · cases h1; cases h2
    exact ⟨_, _, rfl, rfl, q.1, q.2.1, q.2.2.1, o _ _ F H q.2.2.2 E (Same.refl _) (.str _)⟩
  · exact q.elim
theorem y_repT {z : Str} {n : Int} {Q : PyData → Prop} : pRepT (.str z) (.int n) Q ↔ 0 ≤ n ∧ n ≤ 1000 ∧ z.length ≤ 1000 ∧ Q (.str (repS z n)) := Iff.rfl
end
end Cc

set_option Elab.async false
set_option linter.all false
set_option maxRecDepth 100000
set_option maxHeartbeats 4000000
/-! The pure layer: list(range(n)), a fresh list. -/
namespace Cc
open PySem PySem.Spec PyProof.Rows L2
theorem dqA_ints {K : PySem.W.Frag} {F : Hp} : ∀ ns : List Int, DqAll K F (ns.map V.int) (ns.map PyData.int)
  | [] => .nil
  | _ :: ns => .cons (.int _) (dqA_ints ns)
def lRng (a : EE) : LL := fun ρ R Xx => a ρ (fun x ρ1 => dI x fun n => (0 ≤ n ∧ n ≤ 16777216) ∧ R (((List.range n.toNat).map fun i => ((i : Nat) : Int)).map PyData.int) ρ1) Xx
section
variable {Γ : Gx} {X : Cx} {W : WX} {e e1 : Expr} {a : EE}
theorem dl_rng (hpe : ∀ {ta : TE}, PE X e1 ta → PE X e (tLstRg (tRg1 ta))) {ta : TE} (h1 : DE Γ X W e1 ta a) : DL Γ X W e (tLstRg (tRg1 ta)) (lRng a) := by
  obtain ⟨p1, d1⟩ := h1
  refine ⟨hpe p1, fun f F H σ ρ Q R Xx E q o ox => ?_⟩
  refine d1 f F H σ ρ _ _ Xx E q (fun x ρ1 F1 H1 v1 q1 E1 s1 r1 => ?_) ox
  obtain ⟨n, rfl, ⟨n0, n1⟩, q1'⟩ := dI_of q1
  cases r1
  refine ⟨n, rfl, RgOk.of_le (Int.le_refl _) n1 (by omega) n0, fun l nl => ?_⟩
  have e : rgV 0 n = ((List.range n.toNat).map fun i => ((i : Nat) : Int)).map V.int := by
    unfold rgV
    rw [Int.sub_zero, List.map_map]
    exact List.map_congr_left fun i _ => by show V.int (0 + (i : Int)) = V.int i; rw [Int.zero_add]
  rw [e]
  exact o _ _ _ _ _ _ q1' (E1.raw nl) s1 (own_new E1 (dqA_ints _) nl)
theorem y_lRng {ρ : List Sl} {R : List PyData → List Sl → Prop} {Xx : XX} : lRng a ρ R Xx ↔ a ρ (fun x ρ1 => dI x fun n => (0 ≤ n ∧ n ≤ 16777216) ∧ R (((List.range n.toNat).map fun i => ((i : Nat) : Int)).map PyData.int) ρ1) Xx := Iff.rfl
end
end Cc

set_option Elab.async false
set_option linter.all false
set_option maxRecDepth 100000
set_option maxHeartbeats 4000000
/-! The pure layer: isinstance of data, the class a built-in type. -/
namespace Cc
open PySem PySem.Spec PyProof.Rows L2
def tyD : PyData → String
  | .none => "NoneType"
  | .bool _ => "bool"
  | .int _ => "int"
  | .str _ => "str"
  | .list _ => "list"
  | .tuple _ => "tuple"
  | .dict _ => "dict"
/-- the built-in types asked for here -/
inductive Ty5 : String → Prop
  | list : Ty5 "list"
  | tuple : Ty5 "tuple"
  | int : Ty5 "int"
  | bool : Ty5 "bool"
  | str : Ty5 "str"
def subT (t u : String) : Bool := t == u || (t == "bool" && u == "int")
theorem kit_built {K : PySem.W.Frag} {t u : String} {b : Bool} (h : ((Value.type t == Value.type u) = true → b = true)) (hm : PySem.W.kitMeta u = true) (hs : (fastBuiltinMro t).map (·.contains (Value.type u)) = some b) : PySem.W.kitOne K (.type t) (.type u) = some b := by
  unfold PySem.W.kitOne
  by_cases e : (Value.type t == Value.type u) = true
  · rw [if_pos e, h e]
  · rw [if_neg e]
    show (if PySem.W.kitMeta u = true then PySem.W.subIn K (.type t) (.type u) else none) = _
    rw [if_pos hm]
    exact hs
theorem kit_data {K : PySem.W.Frag} {d : PyData} {u : String} (hu : Ty5 u) (nd : ∀ x, d ≠ .dict x) : PySem.W.kitOne K (.type (tyD d)) (.type u) = some (subT (tyD d) u) := by
  cases d with
  | dict x => exact absurd rfl (nd x)
  | _ => dsimp only [tyD]; cases hu <;> exact kit_built (by decide +kernel) (by decide +kernel) (by decide +kernel)
section
variable {Γ : Gx} {X : Cx} {W : WX} {e e1 e2 : Expr} {a : EE}
theorem dq_ty {K : PySem.W.Frag} {F H : Hp} {v : V} {d : PyData} (s : Same F H) (h : Dq K F v d) : TyX K H v (.type (tyD d)) ∧ ∀ x, d ≠ .dict x := by
  cases h with
  | non => exact ⟨.base .non, fun _ h => (nomatch h)⟩
  | bl b => exact ⟨.base (.bl b), fun _ h => (nomatch h)⟩
  | int i => exact ⟨.base (.int i), fun _ h => (nomatch h)⟩
  | str x => exact ⟨.base (.str x), fun _ h => (nomatch h)⟩
  | lst hs ha => exact ⟨.base (.lst (s _ _ hs)), fun _ h => (nomatch h)⟩
  | tup hs ha =>
    refine ⟨?_, fun _ h => (nomatch h)⟩
    rcases hs with (h | ⟨u, h⟩) | ⟨o, its, n, h1, h2, _⟩
    · exact .base (.tup (s _ _ h))
    · exact .fTuple (s _ _ h)
    · exact .kTuple h1 h2
def eIsi (u : String) (a : EE) : EE := fun ρ R Xx => a ρ (fun x ρ1 => dD x fun d => R (.d (.bool (subT (tyD d) u))) ρ1) Xx
theorem de_isi {u : String} (hu : Ty5 u) (hpe : ∀ {ta : TE}, PE X e1 ta → PE X e (tCB (rIsi Γ.K) (tCons ta (tCons (tC (.ty u)) tNil)))) {ta : TE} (h1 : DE Γ X W e1 ta a) : DE Γ X W e (tCB (rIsi Γ.K) (tCons ta (tCons (tC (.ty u)) tNil))) (eIsi u a) := by
  obtain ⟨p1, d1⟩ := h1
  refine ⟨hpe p1, fun f F H σ ρ Q R Xx E q o ox => ?_⟩
  refine d1 f F H σ ρ _ _ Xx E q (fun x ρ1 F1 H1 v1 q1 E1 s1 r1 => ?_) ox
  obtain ⟨d, rfl, q1'⟩ := dD_of q1
  obtain ⟨ty, nd⟩ := dq_ty E1.s1 r1
  exact ⟨v1, .ty u, _, .type u, _, rfl, .ty u, ty, kit_data hu nd, o _ _ _ _ _ q1' E1 s1 (.bl _)⟩
theorem y_isi {u : String} {ρ : List Sl} {R : Cc.A → List Sl → Prop} {Xx : XX} : eIsi u a ρ R Xx ↔ a ρ (fun x ρ1 => dD x fun d => R (.d (.bool (subT (tyD d) u))) ρ1) Xx := Iff.rfl
end
end Cc

set_option Elab.async false
set_option linter.all false
set_option maxRecDepth 100000
set_option maxHeartbeats 4000000
/-! The pure layer: three names at once, own lists among them. -/
namespace Cc
open PySem PySem.Spec PyProof.Rows L2
/-- a frame that keeps one more object -/
def Fr.keep (f : Fr) (p : Addr) (o : HO) : Fr := { f with H0 := upd f.H0 p o }
section
variable {Γ : Gx} {f : Fr} {F H F' H' : Hp} {σ σ' : L2.St} {ρ ρ' : List Sl} {p : Addr} {o : HO} {xs : List V} {ds : List PyData}
theorem Ent.keep (E : Ent Γ f F H σ ρ) (w : Own1 Γ f F H σ ρ p xs ds) : Ent Γ (f.keep p (.lst xs)) F H σ ρ := by
  have hF := w.hF
  have hH := w.hH
  refine ⟨E.s0, E.s1, fun b u e => ?_, fun b u e m => ?_, fun b e => ?_, E.len, fun i s hi => ?_, E.dis, E.rm, E.rF, E.rl, E.ro, fun b m => ?_, E.cl⟩
  · rcases E.new b u e with h | h | h
    · exact .inl h
    · refine .inr (.inl ?_)
      have hne : b ≠ p := fun z => by rw [z, hF] at e; cases e
      show upd f.H0 p _ b = none
      rw [upd_ne hne]
      exact h
    · exact .inr (.inr h)
  · have e : upd f.H0 p (.lst xs) b = some u := e
    by_cases hb : b = p
    · rw [hb, upd_same] at e
      rw [hb, ← e]
      exact hH
    · rw [upd_ne hb] at e
      exact E.chg b u e m
  · have hne : b ≠ p := fun z => by rw [z, hH] at e; cases e
    show upd f.H0 p _ b = none
    rw [upd_ne hne]
    exact E.liv b e
  · have h := E.sl i s hi
    cases s with
    | un => exact trivial
    | a x => exact h
    | rng n => exact h
    | own es =>
      obtain ⟨a, ys, e1, e2, e3, e4, e5⟩ := h
      refine ⟨a, ys, e1, e2, e3, e4, ?_⟩
      rcases e5 with e5 | e5
      · have hne : a ≠ p := fun z => w.hO ⟨i, es, hi, by rw [← z]; exact e1⟩
        refine .inl ?_
        show upd f.H0 p _ a = none
        rw [upd_ne hne]
        exact e5
      · exact .inr e5
  · show upd f.H0 p _ b ≠ none
    by_cases hb : b = p
    · rw [hb, upd_same]
      exact fun z => nomatch z
    · rw [upd_ne hb]
      exact E.ml b m
theorem Ent.back (E : Ent Γ (f.keep p o) F' H' σ ρ') (h0 : f.H0 p = none) (hm : ∀ b, f.M b → f.H0 b ≠ none) (hF0 : f.F0 p = none) : Ent Γ f F' H' σ ρ' ∧ H' p = some o ∧ F' p = none ∧ ¬ OwnA σ ρ' p ∧ ¬ f.R p := by
  have nM : ¬ f.M p := fun m => hm p m h0
  have K : ∀ b, (f.keep p o).H0 b = none → f.H0 b = none := fun b h => by
    have h : upd f.H0 p o b = none := h
    by_cases hb : b = p
    · rw [hb]; exact h0
    · rw [upd_ne hb] at h; exact h
  have hp : (f.keep p o).H0 p = some o := upd_same
  refine ⟨⟨E.s0, E.s1, fun b u e => ?_, fun b u e m => ?_, fun b e => K b (E.liv b e), E.len, fun i s hi => ?_, E.dis, E.rm, E.rF, E.rl, E.ro, hm, E.cl⟩, E.chg p o hp nM, ?_, ?_, fun z => nM (E.rm p z)⟩
  · rcases E.new b u e with h | h | h
    · exact .inl h
    · exact .inr (.inl (K b h))
    · exact .inr (.inr h)
  · have hne : b ≠ p := fun z => by rw [z, h0] at e; cases e
    exact E.chg b u (by show upd f.H0 p o b = _; rw [upd_ne hne]; exact e) m
  · have h := E.sl i s hi
    cases s with
    | un => exact trivial
    | a x => exact h
    | rng n => exact h
    | own es =>
      obtain ⟨a, ys, e1, e2, e3, e4, e5⟩ := h
      refine ⟨a, ys, e1, e2, e3, e4, ?_⟩
      rcases e5 with e5 | e5
      · exact .inl (K a e5)
      · exact .inr e5
  · cases e : F' p with
    | none => rfl
    | some u =>
      rcases E.new p u e with h | h | h
      · have h : f.F0 p = some u := h
        rw [hF0] at h
        cases h
      · rw [hp] at h
        cases h
      · exact absurd h nM
  · rintro ⟨i, es, h1, h2⟩
    obtain ⟨a, ys, e1, e2, e3, e4, e5⟩ := E.sl i _ h1
    rw [h2] at e1
    cases e1
    rcases e5 with e5 | e5
    · rw [hp] at e5
      cases e5
    · exact nM e5
theorem Own1.f0 (E : Ent Γ f F H σ ρ) (w : Own1 Γ f F H σ ρ p xs ds) : f.F0 p = none := by
  cases e : f.F0 p with
  | none => rfl
  | some u => exact absurd w.hF (fun z => by rw [E.s0 _ _ e] at z; cases z)
theorem OutX.keep {W : WX} {Xx : XX} (ox : OutX Γ f W σ Xx) (h0 : f.H0 p = none) (hm : ∀ b, f.M b → f.H0 b ≠ none) (hF0 : f.F0 p = none) : OutX Γ (f.keep p o) W σ Xx := fun c d ρ' F' H' dx v hx E h1 h2 => ox c d ρ' F' H' dx v hx (E.back h0 hm hF0).1 h1 h2
end
section
variable {Γ : Gx} {X : Cx} {W : WX} {st : Stmt} {e1 e2 e3 : Expr} {a : EE} {l l' : LL} {i j k : Nat} {v : V} {d : PyData}
/-- two own lists and data -/
def sPar3a (i j k : Nat) (l l' : LL) (a : EE) : SS := fun ρ P => l ρ (fun ds ρ1 => l' ρ1 (fun es ρ2 => a ρ2 (fun x ρ3 => P.nx (((ρ3.set i (.own ds)).set j (.own es)).set k (.a x))) P.ex) P.ex) P.ex
theorem ds_par3a (hpe : ∀ {t u s : TE}, PE X e1 t → PE X e2 u → PE X e3 s → PS X st (tPar3 i j k (tCons t (tCons u (tCons s tNil))))) {t : TE} (h : DL Γ X W e1 t l) {u : TE} (h' : DL Γ X W e2 u l') {s : TE} (h'' : DE Γ X W e3 s a) :
    DS Γ X W st (tPar3 i j k (tCons t (tCons u (tCons s tNil)))) (sPar3a i j k l l' a) := by
  obtain ⟨p, dn⟩ := h
  obtain ⟨p', dn'⟩ := h'
  obtain ⟨p'', dn''⟩ := h''
  refine ⟨hpe p p' p'', fun f F H σ ρ P D E q o => ?_⟩
  refine dn f F H σ ρ _ _ P.ex E q (fun ds ρ1 F1 H1 b xs q1 E1 s1 w => ?_) (o.ex σ)
  have f0 := w.f0 E1
  have E1' := E1.keep w
  refine dn' _ F1 H1 σ ρ1 _ _ P.ex E1' q1 (fun es ρ2 F2 H2 b2 ys q2 E2 s2 w2 => ?_) ((o.ex σ).keep w.h0 E1.ml f0)
  have f02 := w2.f0 E2
  have E2' := E2.keep w2
  refine dn'' _ F2 H2 σ ρ2 _ _ P.ex E2' q2 (fun x ρ3 F3 H3 z q3 E3 s3 r3 => ?_) (((o.ex σ).keep w.h0 E1.ml f0).keep w2.h0 E2.ml f02)
  obtain ⟨E4, a1, a2, a3, a4⟩ := E3.back w2.h0 E2.ml f02
  obtain ⟨E5, b1, b2', b3, b4⟩ := E4.back w.h0 E1.ml f0
  have hne : b2 ≠ b := fun e => by
    have h : upd f.H0 b (.lst xs) b2 = none := w2.h0
    rw [e, upd_same] at h
    cases h
  have h02 : f.H0 b2 = none := by
    have h : upd f.H0 b (.lst xs) b2 = none := w2.h0
    rwa [upd_ne hne] at h
  have E6 := E5.setO (i := i) b1 (DqAll.same (s2.trans s3) ds w.hD) b2' (.inl w.h0) b3 b4
  have E7 := E6.setO (i := j) a1 (DqAll.same s3 es w2.hD) a2 (.inl h02) (fun ⟨n, fs, h1, h2⟩ => ?_) a4
  · exact ⟨_, _, _, rfl, o.nx _ _ _ _ q3 (E7.setA (i := k) r3) ((s1.trans s2).trans s3)⟩
  · by_cases hn : n = i
    · rw [hn] at h2
      rw [List.getElem?_set] at h2
      rw [if_pos rfl] at h2
      split at h2
      · cases h2
        exact hne rfl
      · cases h2
    · rw [List.getElem?_set_ne (fun z => hn z.symm)] at h1 h2
      exact a3 ⟨n, fs, h1, h2⟩
/-- an own list, a constant and data -/
def sPar3b (i j k : Nat) (l : LL) (d : PyData) (a : EE) : SS := fun ρ P => l ρ (fun ds ρ1 => a ρ1 (fun x ρ3 => P.nx (((ρ3.set i (.own ds)).set j (.a (.d d))).set k (.a x))) P.ex) P.ex
theorem ds_par3b (hv : ∀ F, Dq Γ.K F v d) (hpe : ∀ {t s : TE}, PE X e1 t → PE X e3 s → PS X st (tPar3 i j k (tCons t (tCons (tC v) (tCons s tNil))))) {t : TE} (h : DL Γ X W e1 t l) {s : TE} (h'' : DE Γ X W e3 s a) :
    DS Γ X W st (tPar3 i j k (tCons t (tCons (tC v) (tCons s tNil)))) (sPar3b i j k l d a) := by
  obtain ⟨p, dn⟩ := h
  obtain ⟨p'', dn''⟩ := h''
  refine ⟨hpe p p'', fun f F H σ ρ P D E q o => ?_⟩
  refine dn f F H σ ρ _ _ P.ex E q (fun ds ρ1 F1 H1 b xs q1 E1 s1 w => ?_) (o.ex σ)
  have f0 := w.f0 E1
  have E1' := E1.keep w
  refine dn'' _ F1 H1 σ ρ1 _ _ P.ex E1' q1 (fun x ρ3 F3 H3 z q3 E3 s3 r3 => ?_) ((o.ex σ).keep w.h0 E1.ml f0)
  obtain ⟨E5, b1, b2', b3, b4⟩ := E3.back w.h0 E1.ml f0
  have E6 := E5.setO (i := i) b1 (DqAll.same s3 ds w.hD) b2' (.inl w.h0) b3 b4
  exact ⟨_, _, _, rfl, o.nx _ _ _ _ q3 ((E6.setA (i := j) (x := .d d) (hv F3)).setA (i := k) r3) (s1.trans s3)⟩
theorem y_par3a {ρ : List Sl} {P : EndsP} : sPar3a i j k l l' a ρ P ↔ l ρ (fun ds ρ1 => l' ρ1 (fun es ρ2 => a ρ2 (fun x ρ3 => P.nx (((ρ3.set i (.own ds)).set j (.own es)).set k (.a x))) P.ex) P.ex) P.ex := Iff.rfl
theorem y_par3b {ρ : List Sl} {P : EndsP} : sPar3b i j k l d a ρ P ↔ l ρ (fun ds ρ1 => a ρ1 (fun x ρ3 => P.nx (((ρ3.set i (.own ds)).set j (.a (.d d))).set k (.a x))) P.ex) P.ex := Iff.rfl
end
end Cc

set_option Elab.async false
set_option linter.all false
set_option maxRecDepth 100000
set_option maxHeartbeats 4000000
/-! The pure layer: a cut of a tuple, all of it too. -/
namespace Cc
open PySem PySem.Spec PyProof.Rows L2
theorem slAK {X : Cx} {K : PySem.W.Frag} (h : X.K = K) : L2.SlR X (rSlA K) := h ▸ sl_tupA
theorem cut_full {α : Type} {us : List α} {lo hi : Option Int} (h : fullSl us.length lo hi) : cutA us lo hi = us := by
  obtain ⟨h1, h2⟩ := h
  unfold cutA
  rw [h1, h2]
  simp
def eSlA (a : EE) (lo hi : Option EE) : EE := fun ρ R Xx => a ρ (fun x ρ1 => dT x fun u => dO lo ρ1 (fun l ρ2 => dO hi ρ2 (fun h ρ3 => R (.d (.tuple (cutA u l h))) ρ3) Xx) Xx) Xx
section
variable {Γ : Gx} {X : Cx} {W : WX} {e e1 : Expr} {a : EE}
theorem de_slA {l h : Option Expr} {lo hi : Option EE} (hpe : ∀ {ta : TE} {tl th : TO}, PE X e1 ta → PO X l tl → PO X h th → PE X e (tSl (rSlA Γ.K) ta tl th)) {ta : TE} (h1 : DE Γ X W e1 ta a) {tl : TO} (h2 : DO Γ X W l tl lo) {th : TO} (h3 : DO Γ X W h th hi) : DE Γ X W e (tSl (rSlA Γ.K) ta tl th) (eSlA a lo hi) := by
  obtain ⟨p1, d1⟩ := h1
  obtain ⟨p2, d2⟩ := h2
  obtain ⟨p3, d3⟩ := h3
  refine ⟨hpe p1 p2 p3, fun f F H σ ρ Q R Xx E q o ox => ?_⟩
  refine d1 f F H σ ρ _ _ Xx E q (fun x ρ1 F1 H1 v1 q1 E1 s1 r1 => ?_) ox
  obtain ⟨us, rfl, q1'⟩ := dT_of q1
  refine d2 f F1 H1 σ ρ1 _ _ Xx E1 q1' (fun lo' ρ2 F2 H2 q2 E2 s2 => ?_) ox
  refine d3 f F2 H2 σ ρ2 _ _ Xx E2 q2 (fun hi' ρ3 F3 H3 q3 E3 s3 => ?_) ox
  cases r1 with
  | tup hs ha =>
    have s23 := s2.trans s3
    have ln := ha.len
    refine ⟨_, _, rfl, Same.tup (s23.trans E3.s1) hs, fun hf => ?_, fun hf p np => ?_⟩
    · have e : cutA us lo' hi' = us := cut_full (by rw [ln] at hf; exact hf)
      rw [e] at q3
      exact o _ _ _ _ _ q3 E3 (s1.trans s23) (.tup (Same.tup s23 hs) (DqAll.same s23 us ha))
    · have nF := E3.fnone np
      exact o _ _ _ _ _ q3 (E3.alloc np) ((s1.trans s23).trans (same_updF nF)) (.tup (.of upd_same) (DqAll.same (same_updF nF) _ ((DqAll.same s23 us ha).cut _ _)))
theorem y_slA {lo hi : Option EE} {ρ : List Sl} {R : Cc.A → List Sl → Prop} {Xx : XX} : eSlA a lo hi ρ R Xx ↔ a ρ (fun x ρ1 => dT x fun u => dO lo ρ1 (fun l ρ2 => dO hi ρ2 (fun h ρ3 => R (.d (.tuple (cutA u l h))) ρ3) Xx) Xx) Xx := Iff.rfl
end
end Cc

set_option Elab.async false
set_option linter.all false
set_option maxRecDepth 100000
set_option maxHeartbeats 4000000
/-! An own list is lent to a call whose answer is flat: it stays own. -/
namespace Cc
open PySem PySem.Spec PyProof.Rows L2
def flA : A → Prop
  | .d d => flatD d = true
  | _ => False
def hasV : Option Sl → Prop
  | some (.own _) => True
  | some (.a _) => True
  | _ => False
section
variable {Γ : Gx} {X : Cx} {W : WX} {f : Fr} {F H F' H' : Hp} {σ : L2.St} {ρ : List Sl} {x : A} {v : V} {e : Expr} {es : List Expr} {i j : Nat} {ds : List PyData}
theorem rp_flA {x : A} (h : flA x) (r : Rp Γ F' v x) : Rp Γ F v x := by
  cases x with
  | d d =>
    cases d with
    | none => cases r; exact .non
    | bool b => cases r; exact .bl b
    | int b => cases r; exact .int b
    | str b => cases r; exact .str b
    | list b => exact nomatch (show false = true from h)
    | tuple b => exact nomatch (show false = true from h)
    | dict b => exact nomatch (show false = true from h)
  | exc c y => exact h.elim
  | spr S => exact h.elim
  | scr ns => exact h.elim
theorem Ent.hasV (E : Ent Γ f F H σ ρ) (h : hasV ρ[i]?) : ∃ v, σ[i]? = some (some v) := by
  cases e : ρ[i]? with
  | none => rw [e] at h; exact h.elim
  | some s =>
    rw [e] at h
    have := E.sl i s e
    cases s with
    | un => exact h.elim
    | rng n => exact h.elim
    | own ds =>
      obtain ⟨a, xs, e1, _⟩ := this
      exact ⟨_, e1⟩
    | a x =>
      obtain ⟨u, e1, _⟩ := this
      exact ⟨_, e1⟩
/-- what a call leaves of the known part of before -/
theorem Stp.back {rg : Bool} {R : Addr → Prop} {r : Addr} {n' : Nat} {G : Hp} (E : Ent Γ f F H σ ρ) (sG : Same F G) (s : Stp Γ rg R r G H F' H' n') : Stp Γ rg R r F H F H' n' :=
  ⟨Same.refl _, (sG.trans s.s0).trans s.s1, fun b o e => .inl e, s.chg, s.liv, s.at_, E.cl⟩
def eCallB (i : Nat) (φ : Phi) (as : AA) : EE := fun ρ R Xx => hasV ρ[i]? ∧ as ρ (fun xs ρ1 => match ρ1[i]? with
  | some (.own ds) => φ 0 (.d (.list ds) :: xs) (fun x _ => flA x ∧ R x ρ1) (fun _ _ _ => False)
  | some (.a y) => φ 0 (y :: xs) (fun x _ => R x ρ1) (fun _ _ _ => False)
  | _ => False) Xx
theorem de_callB {φ : Phi} {as : AA} (hpe : ∀ {ta : TA}, PA X es ta → PE X e (tCall (spP Γ false φ) [] E0 (tCons (tVar i) ta))) {ta : TA} (h : DA Γ X W es ta as) : DE Γ X W e (tCall (spP Γ false φ) [] E0 (tCons (tVar i) ta)) (eCallB i φ as) := by
  obtain ⟨p, dn⟩ := h
  refine ⟨hpe p, fun f F H σ ρ Q R Xx E q o ox => ?_⟩
  obtain ⟨hv, q⟩ := q
  obtain ⟨v, hv⟩ := E.hasV hv
  refine ⟨v, hv, ?_⟩
  refine dn f F H σ ρ _ _ Xx E q (fun xs ρ1 F1 H1 us q1 E1 s1 r1 => ?_) ox
  show spP Γ false φ (v :: us ++ []) H1 Q E0
  rw [List.append_nil]
  split at q1
  · rename_i ds hi
    obtain ⟨a, ys, e1, hH, hFa, hd, E2⟩ := E1.freeO hi
    rw [hv] at e1
    cases e1
    exact ⟨fun _ => False, 0, upd F1 a (.lst ys), 0, .d (.list ds) :: xs, .ref a :: us, _, _, rfl, ⟨hd, r1.same (same_updF hFa)⟩, E2.s1, (fun _ z => z.elim), E2.cl, (fun z => Bool.noConfusion z), (fun _ _ z => z), q1,
      fun x n' v' F' H' rr s hx => o x ρ1 F1 H' v' rr.2 (E1.stp0 (fun _ z => z) (s.back E1 (same_updF hFa))) s1 (rp_flA rr.1 hx), fun _ _ _ _ _ _ _ z => z.elim⟩
  · rename_i y hi
    obtain ⟨u, e1, ry⟩ := E1.sl _ _ hi
    rw [hv] at e1
    cases e1
    exact sp_at E1 (xs := y :: xs) (us := v :: us) ⟨ry, r1⟩ q1 (fun x v F' H' rr E' s' h => o x ρ1 F' H' v (rr.elim id fun ⟨_, z⟩ => z) E' (s1.trans s') h) fun c d n' v dx F' H' z => z.elim
  · exact q1.elim
def eCallRB (i j : Nat) (φ : Phi) (as : AA) : EE := fun ρ R Xx => (∃ m, ρ[i]? = some (.rng m)) ∧ hasV ρ[j]? ∧ as ρ (fun xs ρ1 => match ρ1[i]? with
  | some (.rng n) => match ρ1[j]? with
    | some (.own ds) => φ n (.d (.list ds) :: xs) (fun x n' => flA x ∧ R x (ρ1.set i (.rng n'))) (fun _ _ _ => False)
    | some (.a y) => φ n (y :: xs) (fun x n' => R x (ρ1.set i (.rng n'))) (fun _ _ _ => False)
    | _ => False
  | _ => False) Xx
theorem de_callRB {φ : Phi} {as : AA} (hpe : ∀ {ta : TA}, PA X es ta → PE X e (tCall (spP Γ true φ) [] E0 (tCons (tVar i) (tCons (tVar j) ta)))) {ta : TA} (h : DA Γ X W es ta as) : DE Γ X W e (tCall (spP Γ true φ) [] E0 (tCons (tVar i) (tCons (tVar j) ta))) (eCallRB i j φ as) := by
  obtain ⟨p, dn⟩ := h
  refine ⟨hpe p, fun f F H σ ρ Q R Xx E q o ox => ?_⟩
  obtain ⟨⟨m, hi⟩, hv, q⟩ := q
  obtain ⟨v, hv⟩ := E.hasV hv
  obtain ⟨⟨ei, hr⟩, _⟩ := E.sl _ _ hi
  subst ei
  refine ⟨_, hr, v, hv, ?_⟩
  refine dn f F H σ ρ _ _ Xx E q (fun xs ρ1 F1 H1 us q1 E1 s1 r1 => ?_) ox
  show spP Γ true φ (.ref f.r :: v :: us ++ []) H1 Q E0
  rw [List.append_nil]
  split at q1
  · rename_i n hn
    obtain ⟨_, hat⟩ := E1.sl _ _ hn
    split at q1
    · rename_i ds hj
      obtain ⟨a, ys, e1, hH, hFa, hd, E2⟩ := E1.freeO hj
      rw [hv] at e1
      cases e1
      exact ⟨f.R, f.r, upd F1 a (.lst ys), n, .d (.list ds) :: xs, .ref a :: us, _, _, rfl, ⟨hd, r1.same (same_updF hFa)⟩, E2.s1, (fun b hb => ⟨E2.rF b hb, E2.rl b hb⟩), E2.cl, (fun _ => hat), (fun z => Bool.noConfusion z), q1,
        fun x n' v' F' H' rr s hx => o x _ F1 H' v' rr.2 (E1.stpR hn (s.back E1 (same_updF hFa))) s1 (rp_flA rr.1 hx), fun _ _ _ _ _ _ _ z => z.elim⟩
    · rename_i y hj
      obtain ⟨u, e1, ry⟩ := E1.sl _ _ hj
      rw [hv] at e1
      cases e1
      exact sp_atR E1 hn (xs := y :: xs) (us := v :: us) ⟨ry, r1⟩ q1 (fun x n' v F' H' rr E' s' h => o x _ F' H' v rr E' (s1.trans s') h) fun c d n' v dx F' H' z => z.elim
    · exact q1.elim
  · exact q1.elim
def eReprB (i : Nat) : EE := fun ρ R _ => match ρ[i]? with
  | some (.own ds) => (PyData.list ds).showable = true ∧ (PyData.list ds).depth ≤ 60 ∧ (PyData.list ds).shown.length ≤ sizeLine ∧ R (.d (.str (PyData.list ds).shown)) ρ
  | some (.a (.d d)) => d.showable = true ∧ d.depth ≤ 60 ∧ d.shown.length ≤ sizeLine ∧ R (.d (.str d.shown)) ρ
  | _ => False
theorem de_reprB (hpe : PE X e (tCB (rRepD Γ.K) (tCons (tVar i) tNil))) : DE Γ X W e (tCB (rRepD Γ.K) (tCons (tVar i) tNil)) (eReprB i) := by
  refine ⟨hpe, fun f F H σ ρ Q R Xx E q o ox => ?_⟩
  unfold eReprB at q
  split at q
  · rename_i ds hi
    obtain ⟨a, ys, e1, hH, hFa, hd, E2⟩ := E.freeO hi
    exact ⟨_, e1, _, _, rfl, Dp.same E2.s1 _ (Dq.dp _ hd), q.1, q.2.1, q.2.2.1, o _ _ _ _ _ q.2.2.2 E (Same.refl _) (.str _)⟩
  · rename_i d hi
    obtain ⟨u, e1, ry⟩ := E.sl _ _ hi
    exact ⟨_, e1, _, _, rfl, Dp.same E.s1 _ (Dq.dp _ ry), q.1, q.2.1, q.2.2.1, o _ _ _ _ _ q.2.2.2 E (Same.refl _) (.str _)⟩
  · exact q.elim
variable {as : AA} {φ : Phi} {R : A → List Sl → Prop} {Xx : XX}
theorem y_callB : eCallB i φ as ρ R Xx ↔ hasV ρ[i]? ∧ as ρ (fun xs ρ1 => match ρ1[i]? with
  | some (.own ds) => φ 0 (.d (.list ds) :: xs) (fun x _ => flA x ∧ R x ρ1) (fun _ _ _ => False)
  | some (.a y) => φ 0 (y :: xs) (fun x _ => R x ρ1) (fun _ _ _ => False)
  | _ => False) Xx := Iff.rfl
theorem y_callRB : eCallRB i j φ as ρ R Xx ↔ (∃ m, ρ[i]? = some (.rng m)) ∧ hasV ρ[j]? ∧ as ρ (fun xs ρ1 => match ρ1[i]? with
  | some (.rng n) => match ρ1[j]? with
    | some (.own ds) => φ n (.d (.list ds) :: xs) (fun x n' => flA x ∧ R x (ρ1.set i (.rng n'))) (fun _ _ _ => False)
    | some (.a y) => φ n (y :: xs) (fun x n' => R x (ρ1.set i (.rng n'))) (fun _ _ _ => False)
    | _ => False
  | _ => False) Xx := Iff.rfl
theorem y_reprB : eReprB i ρ R Xx ↔ match ρ[i]? with
  | some (.own ds) => (PyData.list ds).showable = true ∧ (PyData.list ds).depth ≤ 60 ∧ (PyData.list ds).shown.length ≤ sizeLine ∧ R (.d (.str (PyData.list ds).shown)) ρ
  | some (.a (.d d)) => d.showable = true ∧ d.depth ≤ 60 ∧ d.shown.length ≤ sizeLine ∧ R (.d (.str d.shown)) ρ
  | _ => False := Iff.rfl
theorem y_hasO : hasV (some (.own ds)) ↔ True := Iff.rfl
theorem y_hasA {y : A} : hasV (some (.a y)) ↔ True := Iff.rfl
theorem y_flI {n : Int} : flA (.d (.int n)) ↔ True := ⟨fun _ => trivial, fun _ => rfl⟩
theorem y_flB {b : Bool} : flA (.d (.bool b)) ↔ True := ⟨fun _ => trivial, fun _ => rfl⟩
theorem y_flN : flA (.d .none) ↔ True := ⟨fun _ => trivial, fun _ => rfl⟩
theorem y_flS {z : Str} : flA (.d (.str z)) ↔ True := ⟨fun _ => trivial, fun _ => rfl⟩
end
end Cc

set_option Elab.async false
set_option linter.all false
set_option maxRecDepth 100000
set_option maxHeartbeats 4000000
/-! sorted(set(numbers)) of a list of ints, any number of them. -/
namespace Cc
open PySem PySem.Spec PyProof.Rows L2
/-- an empty set as it is made -/
abbrev set0 (w : World) : Obj := { cls := .type "set", dict := none, data := .set #[] 0 (.fresh 0 0 (!w.params.followText "set-order")) }
section
variable {P : Program} {w : World} {A : Around} {E : Value → Shared → Prop} {s : Shared}
theorem set_ofL {l : Addr} {its : Array Value} (ns : List Int) {Q : Value → Shared → Prop} (hh : A.handled = none) (hl : s.heap.IsList l its) (hi : IntsAre its.toList ns) (hb : ns.length + 1 < scanBound)
    (q : ∀ (g : Heap) (tk c : Nat), SetR w g s.heap.objs.size (fun j => decide (j ∈ ns)) c → c ≤ ns.length → (∀ b o, s.heap.get? b = some o → g.get? b = some o) → Q (.ref s.heap.objs.size) { s with heap := g, toks := tk }) :
    wpAny (model P w) A (call (.type "set") [.ref l]) Q E s := by
  have size : its.size = ns.length := (Array.length_toList).symm.trans (IntsAre.length hi)
  obtain ⟨cM, tM, mroM⟩ := F.called_set.mro
  have m1 := F.called_set.made
  have m2 := F.called_set.sub
  have m3 := F.called_set.notType
  have m4 := F.called_set.canCreate
  have m5 := F.typeCall_set_1 (.ref l)
  refine wpAny_call (codeAny_of_tree ?_)
  show wpAny _ _ (callAny (.type "set") _) _ _ _
  refine wpAny_pure ⟨Code.quiet_builtin _ (by decide +kernel), codeAny_builtin F.entry_type_call ?_⟩
  rw [Around.under_plain (weight_type_call_type "set" [.ref l] []) rfl]
  repeat (any_goals (first | assumption | wp_step))
  refine codeAny_mono (code_set_led1 (.ref l) (E := E) (Q₁ := fun v t => v = .ref s.heap.objs.size ∧ t = { s with heap := s.heap.push (set0 w) }) ⟨rfl, rfl⟩) fun r s1 hr => ?_
  match r, hr with
  | .error e, hr => exact hr
  | .ok .next, hr => exact hr.elim
  | .ok .brk, hr => exact hr.elim
  | .ok .cont, hr => exact hr.elim
  | .ok (.ret v), hr =>
    obtain ⟨rfl, rfl⟩ := hr
    have atS : (s.heap.push (set0 w)).get? s.heap.objs.size = some (set0 w) := Heap.get?_push_size _ rfl
    have tyS : Shared.TypeIs { s with heap := s.heap.push (set0 w) } (.ref s.heap.objs.size) "set" := ⟨_, atS, rfl⟩
    have i1 := F.called_set.init.lookup
    have i2 := F.called_set.init.bind (.ref s.heap.objs.size)
    repeat (any_goals (first | assumption | wp_step))
    refine codeAny_mono (codeAny_call_builtin (R := wants (fun r t => r = .none ∧ ∃ g tk c, t = { s with heap := g, toks := tk } ∧ SetR w g s.heap.objs.size (fun j => decide (j ∈ ns)) c ∧ c ≤ ns.length ∧ (∀ b o, s.heap.get? b = some o → g.get? b = some o)) E)
      F.called_set.init.plain F.entry_set_init (check_set_init_1 tyS ?_)) fun r2 s2 hr2 => ?_
    · obtain ⟨ol, gl, cl, nl, dl⟩ := hl
      obtain ⟨lc, ld, lt, ls⟩ := ol
      simp only at cl dl
      subst cl
      subst dl
      have gl' : (s.heap.push (set0 w)).get? l = some { cls := .type "list", dict := ld, data := .seq its nl, slots := ls } := Heap.get?_push_of_some _ gl
      have n1 := F.sub_list_set
      have n2 := F.sub_list_frozenset
      have n3 : (Value.type "list" == Value.type "dict") = false := by decide
      have L1 : (s.heap.push (set0 w)).IsList l its := ⟨_, gl', rfl, nl, rfl⟩
      have ltl : l < s.heap.objs.size := Heap.lt_size gl
      unfold Builtin.«set.__init__» noKeywords Builtin.Frozenset.updateFrom
      generalize ePI : pyIter = PI
      wp_walk
      subst ePI
      refine wpAny_pyIter_list L1 ?_
      refine wpAny_bind (wpAny_runValue ?_)
      have sz1 : (s.heap.push (set0 w)).objs.size = s.heap.objs.size + 1 := Heap.size_push ..
      have hI : l ≠ (s.heap.push (set0 w)).objs.size := by rw [sz1]; exact Nat.ne_of_lt (Nat.lt_succ_of_lt ltl)
      have away : s.heap.objs.size ∉ [(s.heap.push (set0 w)).objs.size, l] := by
        rw [sz1]
        simp only [List.mem_cons, List.not_mem_nil, or_false, not_or]
        exact ⟨Nat.ne_of_lt (Nat.lt_succ_self _), Nat.ne_of_gt ltl⟩
      have val : ∀ (i : Nat) (v : Value), its[i]? = some v → ∃ k t, ns[i]? = some k ∧ v = .int k t := fun i v hv => by
        have lt : i < ns.length := by rw [← size]; exact (Array.getElem?_eq_some_iff.mp hv).1
        obtain ⟨t, e⟩ := PyProof.Rows.IntsAre.int_at hi i v (by rw [Array.getElem?_toList]; exact hv)
        exact ⟨ns[i], t, List.getElem?_eq_getElem lt, by rw [e, List.getD_eq_getElem?_getD, List.getElem?_eq_getElem lt] <;> rfl⟩
      refine set_update_ints ((Walks.list (by simp [hh]) _ l hI its).toS) s.heap.objs.size away ns size hb val (its.size - 0) 0 _ (by omega) (Nat.zero_le _) ⟨⟨_, Heap.get?_push_size _ rfl, rfl, rfl⟩, (L1.push _)⟩ ?start ?back
      case start => exact ⟨0, Nat.le_refl 0, setR_new_at (Heap.get?_push_of_some _ atS)⟩
      case back =>
        intro t c mv hc R
        obtain ⟨g, gs, dr, tk, os⟩ := t
        have e1 : gs = s.gens := mv.gens
        have e2 : dr = s.drawn := mv.drawn
        have e3 : os = s.os := mv.os
        subst e1 e2 e3
        show wpAny _ _ _ _ _ _
        refine wpAny_pure ?_
        show wpAny _ _ (ret Value.none) _ _ _
        refine wpAny_pure ⟨rfl, g, tk, c, rfl, R, by rw [← size]; exact hc, fun b o e => ?_⟩
        have lt := Heap.lt_size e
        refine mv.heap b o ?_ (Heap.get?_push_of_some _ (Heap.get?_push_of_some _ e))
        rw [sz1]
        simp only [List.mem_cons, List.not_mem_nil, or_false, not_or]
        exact ⟨Nat.ne_of_lt lt, Nat.ne_of_lt (Nat.lt_succ_of_lt lt)⟩
    · match r2, hr2 with
      | .error e, hr2 => exact hr2
      | .ok .next, hr2 => exact hr2.elim
      | .ok .brk, hr2 => exact hr2.elim
      | .ok .cont, hr2 => exact hr2.elim
      | .ok (.ret r), hr2 =>
        obtain ⟨rfl, g, tk, c, rfl, R, hc, kp⟩ := hr2
        repeat (any_goals (first | assumption | wp_step))
        exact q _ _ _ R hc kp
theorem lt_le_nodup : ∀ l : List Int, l.Pairwise (· ≤ ·) → l.Nodup → l.Pairwise (· < ·)
  | [], _, _ => .nil
  | x :: l, h, d => by
    obtain ⟨h1, h2⟩ := List.pairwise_cons.mp h
    obtain ⟨d1, d2⟩ := List.nodup_cons.mp d
    exact List.pairwise_cons.mpr ⟨fun y hy => Int.lt_iff_le_and_ne.mpr ⟨h1 y hy, fun z => d1 (z ▸ hy)⟩, lt_le_nodup l h2 d2⟩
theorem set_sorted {a : Addr} {S : Int → Bool} {n : Nat} {Q : Value → Shared → Prop} (R : SetR w s.heap a S n) (hh : A.handled = none)
    (q : ∀ t p (out : List Value) (c : Nat), (∀ b o, s.heap.get? b = some o → t.heap.get? b = some o) → t.gens = s.gens → t.os = s.os → s.heap.objs.size ≤ p → t.heap.get? p = some (seqObj "list" out.toArray c) → out.length ≤ sizeLine →
      IntsAre out (out.map SrtO.iv) → (out.map SrtO.iv).Pairwise (· < ·) → (∀ k, k ∈ out.map SrtO.iv ↔ S k = true) → Q (.ref p) t) :
    wpAny (model P w) A (call (.builtin "sorted") [.ref a]) Q E s := by
  obtain ⟨o, es, ep, t, ho, hex, hd, good, nd, hm, hb, hf, hn, hr, hl⟩ := R
  refine Calls.call_function_entry kind_sorted plain_sorted entry_sorted (args_sorted1 _) ?_
  unfold Builtin.«sorted»
  refine wpAny_bind (m := checkCount "sorted" 1 1 _) (wpAny_pure ?_)
  refine wpAny_bind (collect_set (A := A.in1) hh ⟨o, ho, hex.1, hd⟩ hf hb hr hl fun s1 vs k1 hz g1 o1 pm => ?_)
  have lv : vs.length = es.size := by rw [pm.length_eq, List.length_map, Array.length_toList]
  have small : vs.length ≤ sizeLine := by rw [lv, sizeLine_eq]; unfold scanBound at hb; omega
  have vint : ∀ v ∈ vs, ∃ i t, v = Value.int i t := fun v hv => by
    obtain ⟨e, he, z⟩ := List.mem_map.mp (pm.mem_iff.mp hv)
    obtain ⟨k, tk, h1, _⟩ := good e he
    exact ⟨k, tk, by rw [← z]; exact h1⟩
  have hI := SrtO.ints_iv vint
  have pk : (vs.map SrtO.iv).Perm (es.toList.map keyOf) := by
    have z := pm.map SrtO.iv
    rw [List.map_map] at z
    refine z.trans (List.Perm.of_eq (List.map_congr_left fun e he => ?_))
    obtain ⟨k, tk, h1, _⟩ := good e he
    show SrtO.iv e.2 = keyOf e
    unfold keyOf
    rw [h1]
    rfl
  refine wpAny_bind (wpAny_newList ?_ small)
  have atL : (s1.heap.push (seqObj "list" vs.toArray 0)).get? s1.heap.objs.size = some (seqObj "list" vs.toArray 0) := Heap.get?_push_size _ rfl
  refine wpAny_bind (wpAny_holding (wpAny_call_entry slot_list_sort ⟨_, atL, rfl⟩ entry_list_sort (SrtO.list_sort_ord SrtO.swo_int atL small (fun h2 => SrtO.ints_sortable hI h2) fun out h1 h2 => ⟨_, rfl, ?_⟩) (args_list_sort _)))
  obtain ⟨c1, c2, c3⟩ := SrtO.ints_out hI h1 h2
  obtain ⟨c, hc⟩ := sortedHeap_at (vs := vs) (out := out.toArray) atL
  have pn := c2.trans pk
  refine wpAny_pure ⟨_, rfl, q _ s1.heap.objs.size out c (fun b u e => ?_) g1 o1 hz hc ?_ c1 (lt_le_nodup _ c3 (pn.nodup_iff.mpr nd)) fun k => by rw [pn.mem_iff, ← hm k]⟩
  · have e1 := k1 b u e
    have lt := Heap.lt_size e1
    show (sortedHeap (s1.heap.push (seqObj "list" vs.toArray 0)) s1.heap.objs.size vs out.toArray).get? b = some u
    rw [sortedHeap_old (Nat.ne_of_lt lt) (by rw [size_push']; exact Nat.lt_succ_of_lt lt)]
    exact Heap.get?_push_of_some _ e1
  · have := h2.perm.length_eq
    omega
end
/-! ### the rules -/
/-- set(l) -/
def rSetL (K : PySem.W.Frag) (w : World) : List V → Hp → VK → Prop := fun xs H Q => ∃ (l : Addr) (ns : List Int), xs = [V.ref l] ∧ SqL K H l (ns.map V.int) ∧ ns.length + 1 < scanBound ∧ ∀ p c, H p = none → Q (.ref p) (upd H p (SetO w p (fun j => decide (j ∈ ns)) c))
/-- sorted(s), s a set of ints -/
def rSortS (w : World) : List V → Hp → VK → Prop := fun xs H Q => ∃ (a : Addr) (S : Int → Bool) (n : Nat), xs = [V.ref a] ∧ H a = some (SetO w a S n) ∧
  ∀ (ms : List Int) (p : Addr), ms.Pairwise (· < ·) → (∀ k : Int, k ∈ ms ↔ S k = true) → H p = none → Q (.ref p) (upd H p (.lst (ms.map V.int)))
section
variable {X : Cx}
theorem cr_setL (hc : X.calm = true) : CallR X (.type "set") (rSetL X.K X.w) := by
  intro pins s σ H xs us Q I r h
  obtain ⟨l, ns, rfl, hq, hb, q⟩ := h
  rw [Vals.ref1 r]
  obtain ⟨its, rv, pl, hz⟩ := I.list hq
  refine set_ofL ns (I.ok.hd hc) pl.isList (by simpa using rv.ints) hb fun g tk c R _ k => ?_
  exact ⟨.ref s.heap.objs.size, _, I.laid (t' := tk) k (Nat.le_refl _) (setO_new R), rfl, q _ c (I.hok.fresh (Nat.le_refl _))⟩
theorem cr_sortS (hc : X.calm = true) : CallR X (.builtin "sorted") (rSortS X.w) := by
  intro pins s σ H xs us Q I r h
  obtain ⟨a, S, n, rfl, ha, q⟩ := h
  rw [Vals.ref1 r]
  refine set_sorted (setO_get I ha) (I.ok.hd hc) fun t p out c k g o hp hg hz hi hs hm => ?_
  have hn : H p = none := I.hok.fresh hp
  have J : Inv X pins σ (upd H p (.lst ((out.map SrtO.iv).map V.int))) { s with heap := t.heap, gens := t.gens, drawn := t.drawn, toks := t.toks } :=
    I.call (ch := []) (Un.laid k hp hn) (I.hok.laid k hp ⟨by rw [List.length_map, List.length_map]; exact hz, out, c, vals_of_ints hi, hg⟩) (by rw [g]; exact I.bare) (fun _ z => nomatch z)
  have e : t = { s with heap := t.heap, gens := t.gens, drawn := t.drawn, toks := t.toks } := by
    cases t
    cases s
    cases o
    rfl
  rw [e]
  exact ⟨.ref p, _, J, rfl, q _ p hs hm hn⟩
end
section
variable {Γ : Gx} {X : Cx} {W : WX} {e e1 : Expr} {a : EE}
def lSortSet (a : EE) : LL := fun ρ R Xx => a ρ (fun x ρ1 => dL x fun ds => ∃ ns : List Int, ds = ns.map PyData.int ∧ ns.length + 1 < scanBound ∧ ∀ ms : List Int, ms.Pairwise (· < ·) → (∀ k, k ∈ ms ↔ k ∈ ns) → R (ms.map PyData.int) ρ1) Xx
theorem dl_sortSet {wd : World} (hpe : ∀ {ta : TE}, PE X e1 ta → PE X e (tCB (rSortS wd) (tCons (tCB (rSetL Γ.K wd) (tCons ta tNil)) tNil))) {ta : TE} (h1 : DE Γ X W e1 ta a) :
    DL Γ X W e (tCB (rSortS wd) (tCons (tCB (rSetL Γ.K wd) (tCons ta tNil)) tNil)) (lSortSet a) := by
  obtain ⟨p1, d1⟩ := h1
  refine ⟨hpe p1, fun f F H σ ρ Q R Xx E q o ox => ?_⟩
  refine d1 f F H σ ρ _ _ Xx E q (fun x ρ1 F1 H1 v1 q1 E1 s1 r1 => ?_) ox
  obtain ⟨u, rfl, q1'⟩ := dL_of q1
  clear q1
  obtain ⟨ns, rfl, hb, q1⟩ := q1'
  cases r1 with
  | lst hs ha =>
    have hv := ha.ints
    subst hv
    refine ⟨_, ns, rfl, SqL.of (E1.s1 _ _ hs), hb, fun p c np => ?_⟩
    refine ⟨p, _, c, rfl, upd_same, fun ms p2 hms hmem np2 => ?_⟩
    have E2 := E1.raw (o := SetO wd p (fun j => decide (j ∈ ns)) c) np
    have := own_new (E2) (dqInts ms) np2
    exact o _ _ _ _ _ _ (q1 ms hms fun k => by rw [hmem k, decide_eq_true_eq]) (E2.raw np2) s1 this
theorem y_sortSet {ρ : List Sl} {R : List PyData → List Sl → Prop} {Xx : XX} : lSortSet a ρ R Xx ↔ a ρ (fun x ρ1 => dL x fun ds => ∃ ns : List Int, ds = ns.map PyData.int ∧ ns.length + 1 < scanBound ∧ ∀ ms : List Int, ms.Pairwise (· < ·) → (∀ k, k ∈ ms ↔ k ∈ ns) → R (ms.map PyData.int) ρ1) Xx := Iff.rfl
end
end Cc

set_option Elab.async false
set_option linter.all false
set_option maxRecDepth 100000
set_option maxHeartbeats 4000000
/-! set(l) of a list of tuples of ints of which few differ, however long the list is. -/
namespace Cc
open PySem PySem.Spec PyProof.Rows L2
section
variable {P : Program} {w : World} {A : Around} {E : Value → Shared → Prop} {s : Shared}
/-- so many differ at most -/
def FewT (ks : List (Addr × List Int)) : Prop := ∀ L : List (Addr × List Int), (∀ p ∈ L, p ∈ ks) → (L.map (·.2)).Nodup → L.length + 1 < 64
theorem few_of {ks : List (Addr × List Int)} (D : List (List Int)) (hd : D.length + 1 < 64) (h : ∀ p ∈ ks, p.2 ∈ D) : FewT ks := fun L hs hn => by
  have : ∀ (l D : List (List Int)), l.Nodup → (∀ x ∈ l, x ∈ D) → l.length ≤ D.length := fun l => by
    induction l with
    | nil => exact fun _ _ _ => Nat.zero_le _
    | cons a l ih =>
      intro D hn hs
      obtain ⟨h1, h2⟩ := List.nodup_cons.mp hn
      have i := ih (D.erase a) h2 fun x hx => (List.mem_erase_of_ne fun e => h1 (by rw [← e]; exact hx)).mpr (hs x (List.mem_cons_of_mem _ hx))
      have ha := hs a (List.mem_cons_self ..)
      have hp := List.length_pos_of_mem ha
      rw [List.length_erase_of_mem ha] at i
      rw [List.length_cons]
      omega
  have q := this (L.map (·.2)) D hn fun x hx => by
    obtain ⟨p, hp, rfl⟩ := List.mem_map.mp hx
    exact h p (hs p hp)
  rw [List.length_map] at q
  omega
theorem addsT {I : Addr} {fp wr : List Addr} {G : Array GenState → Array GenState → Prop} {n : Nat} {Pv : Nat → Value → Prop} {St : Nat → Shared → Prop} {R : Result → Shared → Prop}
    (W : WalksS P w A.in1 I fp wr G n Pv St) (eqG : ∀ a b, G a b → b = a) {S : Addr} (away : S ∉ fp) (ks : List (Addr × List Int)) (size : n = ks.length) (few : FewT ks) (val : ∀ i v, Pv i v → ∃ p, ks[i]? = some p ∧ v = .ref p.1)
    {h0 : Heap} (tup : ∀ p ∈ ks, IsT P w h0 p.2 p.1) (new : h0.get? S = none) (neww : ∀ b ∈ wr, h0.get? b = none) (room : A.in1.units < cLine)
    (fin : ∀ t L es ep tb, SetTR P w t.heap S L es ep tb → Got ks n L → (∀ b o, h0.get? b = some o → t.heap.get? b = some o) → t.gens = s.gens → t.os = s.os → t.drawn = s.drawn → R (.ok (.ret .none)) t) :
    ∀ (left i : Nat) (t : Shared), i + left = n → St i t → (∀ b o, h0.get? b = some o → t.heap.get? b = some o) → t.gens = s.gens → t.os = s.os → t.drawn = s.drawn → (∃ L es ep tb, SetTR P w t.heap S L es ep tb ∧ Got ks i L) →
      codeAny (model P w) A (.builtin "set.update.loop" ⟨[.ref S, .ref I], []⟩) R t := by
  have stay : ∀ {t t' : Shared}, Moved wr G t t' → (∀ b o, h0.get? b = some o → t.heap.get? b = some o) → ∀ b o, h0.get? b = some o → t'.heap.get? b = some o := fun mv kp b o e => mv.heap b o (fun z => by rw [neww b z] at e; cases e) (kp b o e)
  have same : ∀ {t t' : Shared} {L : List (Addr × List Int)} {i es ep tb}, Moved wr G t t' → (∀ b o, h0.get? b = some o → t.heap.get? b = some o) → Got ks i L → SetTR P w t.heap S L es ep tb → SetTR P w t'.heap S L es ep tb := fun mv kp got R1 =>
    R1.keep (fun o e => mv.heap S o (fun z => away (W.sub _ z)) e) fun p hp => isT_keep (tup p (List.mem_of_mem_take (got.sub p hp))) (stay mv kp)
  intro left
  induction left with
  | zero =>
    rintro i t hi hst kp g1 g2 g3 ⟨L, es, ep, tb, R1, got⟩
    have hi : i = n := by omega
    subst hi
    refine codeAny_builtin F.entry_set_update_loop ?_
    rw [Around.under_plainId F.plain_set_update_loop _]
    show wpAny _ A.in1 (pyNext (.ref I) >>= _) _ _ t
    refine wpAny_bind (W.done t _ _ hst fun t' mv => ?_)
    show wpAny _ A.in1 (ret Value.none) _ _ t'
    exact wpAny_pure (fin t' L es ep tb (same mv kp got R1) got (stay mv kp) ((eqG _ _ mv.gens).trans g1) (mv.os.trans g2) (mv.drawn.trans g3))
  | succ left ih =>
    rintro i t hi hst kp g1 g2 g3 ⟨L, es, ep, tb, R1, got⟩
    refine codeAny_builtin F.entry_set_update_loop ?_
    rw [Around.under_plainId F.plain_set_update_loop _]
    show wpAny _ A.in1 (pyNext (.ref I) >>= _) _ _ t
    refine wpAny_bind (W.item i t _ _ (by omega) hst fun v t' pv hst' mv => ?_)
    obtain ⟨p, hp, rfl⟩ := val i v pv
    have R2 := same mv kp got R1
    have kp2 := stay mv kp
    have hT : IsT P w t'.heap p.2 p.1 := isT_keep (tup p (List.mem_of_getElem? hp)) kp2
    show wpAny _ A.in1 (holding [Value.ref p.1] (setAdd S (.ref p.1)) >>= _) _ _ t'
    refine wpAny_bind (wpAny_holding ?_)
    unfold setAdd
    refine wpAny_holding ?_
    refine wpAny_bind (wpAny_pyHash_tuple room hT ?_)
    refine add_at (s := { t' with toks := t'.toks + (p.2.length + 1) }) R2 hT room (few L (fun p hp => List.mem_of_mem_take (got.sub p hp)) R1.nd) fun b g L2 es2 ep2 tb2 only R3 old more => ?_
    have got2 : Got ks (i + 1) L2 := by
      by_cases c : p.2 ∈ L.map (·.2)
      · rw [old c]
        exact got.same hp c
      · exact got.more hp (more c)
    refine wpAny_pure ⟨plainId_quiet F.plain_set_update_loop _, ih (i + 1) _ (by omega) (W.frame _ t' _ _ hst' (Nat.le_add_right _ _) fun b hb o e => ?_) (fun b o e => ?_) ((eqG _ _ mv.gens).trans g1) (mv.os.trans g2) (mv.drawn.trans g3) ⟨L2, es2, ep2, tb2, R3, got2⟩⟩
    · rw [only.2 b fun z => away (by rw [← z]; exact hb)]
      exact e
    · exact (only.2 b fun z => by rw [z, new] at e; cases e).trans (kp2 b o e)
theorem set_ofT {l : Addr} {its : Array Value} (ks : List (Addr × List Int)) {Q : Value → Shared → Prop} (hh : A.handled = none) (hl : s.heap.IsList l its) (hi : its.toList = ks.map fun p => Value.ref p.1) (tup : ∀ p ∈ ks, IsT P w s.heap p.2 p.1) (few : FewT ks) (room : A.units + 3 < cLine)
    (q : ∀ (g : Heap) (tk : Nat) L es ep tb, SetTR P w g s.heap.objs.size L es ep tb → Got ks ks.length L → (∀ b o, s.heap.get? b = some o → g.get? b = some o) → Q (.ref s.heap.objs.size) { s with heap := g, toks := tk }) :
    wpAny (model P w) A (call (.type "set") [.ref l]) Q E s := by
  have size : its.size = ks.length := by
    have z := congrArg List.length hi
    rw [Array.length_toList, List.length_map] at z
    exact z
  obtain ⟨cM, tM, mroM⟩ := F.called_set.mro
  have m1 := F.called_set.made
  have m2 := F.called_set.sub
  have m3 := F.called_set.notType
  have m4 := F.called_set.canCreate
  have m5 := F.typeCall_set_1 (.ref l)
  refine wpAny_call (codeAny_of_tree ?_)
  show wpAny _ _ (callAny (.type "set") _) _ _ _
  refine wpAny_pure ⟨Code.quiet_builtin _ (by decide +kernel), codeAny_builtin F.entry_type_call ?_⟩
  rw [Around.under_plain (weight_type_call_type "set" [.ref l] []) rfl]
  repeat (any_goals (first | assumption | wp_step))
  refine codeAny_mono (code_set_led1 (.ref l) (E := E) (Q₁ := fun v t => v = .ref s.heap.objs.size ∧ t = { s with heap := s.heap.push (set0 w) }) ⟨rfl, rfl⟩) fun r s1 hr => ?_
  match r, hr with
  | .error e, hr => exact hr
  | .ok .next, hr => exact hr.elim
  | .ok .brk, hr => exact hr.elim
  | .ok .cont, hr => exact hr.elim
  | .ok (.ret v), hr =>
    obtain ⟨rfl, rfl⟩ := hr
    have atS : (s.heap.push (set0 w)).get? s.heap.objs.size = some (set0 w) := Heap.get?_push_size _ rfl
    have tyS : Shared.TypeIs { s with heap := s.heap.push (set0 w) } (.ref s.heap.objs.size) "set" := ⟨_, atS, rfl⟩
    have i1 := F.called_set.init.lookup
    have i2 := F.called_set.init.bind (.ref s.heap.objs.size)
    repeat (any_goals (first | assumption | wp_step))
    refine codeAny_mono (codeAny_call_builtin (R := wants (fun r t => r = .none ∧ ∃ g tk L es ep tb, t = { s with heap := g, toks := tk } ∧ SetTR P w g s.heap.objs.size L es ep tb ∧ Got ks ks.length L ∧ (∀ b o, s.heap.get? b = some o → g.get? b = some o)) E)
      F.called_set.init.plain F.entry_set_init (check_set_init_1 tyS ?_)) fun r2 s2 hr2 => ?_
    · obtain ⟨ol, gl, cl, nl, dl⟩ := hl
      obtain ⟨lc, ld, lt, ls⟩ := ol
      simp only at cl dl
      subst cl
      subst dl
      have gl' : (s.heap.push (set0 w)).get? l = some { cls := .type "list", dict := ld, data := .seq its nl, slots := ls } := Heap.get?_push_of_some _ gl
      have n1 := F.sub_list_set
      have n2 := F.sub_list_frozenset
      have n3 : (Value.type "list" == Value.type "dict") = false := by decide
      have L1 : (s.heap.push (set0 w)).IsList l its := ⟨_, gl', rfl, nl, rfl⟩
      have ltl : l < s.heap.objs.size := Heap.lt_size gl
      unfold Builtin.«set.__init__» noKeywords Builtin.Frozenset.updateFrom
      generalize ePI : pyIter = PI
      wp_walk
      subst ePI
      refine wpAny_pyIter_list L1 ?_
      refine wpAny_bind (wpAny_runValue ?_)
      have sz1 : (s.heap.push (set0 w)).objs.size = s.heap.objs.size + 1 := Heap.size_push ..
      have hI : l ≠ (s.heap.push (set0 w)).objs.size := by rw [sz1]; exact Nat.ne_of_lt (Nat.lt_succ_of_lt ltl)
      have away : s.heap.objs.size ∉ [(s.heap.push (set0 w)).objs.size, l] := by
        rw [sz1]
        simp only [List.mem_cons, List.not_mem_nil, or_false, not_or]
        exact ⟨Nat.ne_of_lt (Nat.lt_succ_self _), Nat.ne_of_gt ltl⟩
      have val : ∀ (i : Nat) (v : Value), its[i]? = some v → ∃ p, ks[i]? = some p ∧ v = .ref p.1 := fun i v hv => by
        have z : its.toList[i]? = some v := by rw [Array.getElem?_toList]; exact hv
        rw [hi, List.getElem?_map] at z
        obtain ⟨p, hp, e⟩ := Option.map_eq_some_iff.mp z
        exact ⟨p, hp, e.symm⟩
      have none_ : ∀ b, s.heap.objs.size ≤ b → s.heap.get? b = none := fun b hb => by
        cases z : s.heap.get? b with
        | none => rfl
        | some o => exact absurd (Nat.lt_of_lt_of_le (Heap.lt_size z) hb) (Nat.lt_irrefl _)
      refine addsT ((Walks.list (by simp [hh]) _ l hI its).toS) (fun a b h => h) away ks size few val (h0 := s.heap) tup (none_ _ (Nat.le_refl _)) (fun b hb => none_ b (by
        rw [List.mem_singleton.mp hb, sz1]
        exact Nat.le_succ _)) room ?back (its.size - 0) 0 _ (by omega) ⟨⟨_, Heap.get?_push_size _ rfl, rfl, rfl⟩, (L1.push _)⟩ (fun b o e => Heap.get?_push_of_some _ (Heap.get?_push_of_some _ e)) rfl rfl rfl ⟨[], #[], 0, _, setTR_fresh (Heap.get?_push_of_some _ atS), Got.zero ks⟩
      case back =>
        intro t L es ep tb R got kp e1 e3 e2
        obtain ⟨g, gs, dr, tk, os⟩ := t
        have e1 : gs = s.gens := e1
        have e2 : dr = s.drawn := e2
        have e3 : os = s.os := e3
        subst e1 e2 e3
        show wpAny _ _ _ _ _ _
        refine wpAny_pure ?_
        show wpAny _ _ (ret Value.none) _ _ _
        rw [size] at got
        exact wpAny_pure ⟨rfl, g, tk, L, es, ep, tb, rfl, R, got, kp⟩
    · match r2, hr2 with
      | .error e, hr2 => exact hr2
      | .ok .next, hr2 => exact hr2.elim
      | .ok .brk, hr2 => exact hr2.elim
      | .ok .cont, hr2 => exact hr2.elim
      | .ok (.ret r), hr2 =>
        obtain ⟨rfl, g, tk, L, es, ep, tb, rfl, R, got, kp⟩ := hr2
        repeat (any_goals (first | assumption | wp_step))
        exact q _ _ _ _ _ _ R got kp
end
/-! ### the rules -/
/-- set(l) -/
def rSetF (K : PySem.W.Frag) (P : Program) (w : World) : List V → Hp → VK → Prop := fun xs H Q => ∃ (l : Addr) (ks : List (Addr × List Int)), xs = [V.ref l] ∧ SqL K H l (ks.map fun p => V.ref p.1) ∧ (∀ p ∈ ks, SqT K H p.1 (p.2.map V.int)) ∧ FewT ks ∧
  ∀ a L, H a = none → (L.map (·.2)).Nodup → (∀ p ∈ L, p ∈ ks) → (∀ p ∈ ks, p.2 ∈ L.map (·.2)) → Q (.ref a) (upd H a (SetTO P w a L))
/-- len(s) of such a set -/
def rLenF (K : PySem.W.Frag) (P : Program) (w : World) : List V → Hp → VK → Prop := fun xs H Q => ∃ (a : Addr) (L : List (Addr × List Int)), xs = [V.ref a] ∧ H a = some (SetTO P w a L) ∧ (∀ p ∈ L, SqT K H p.1 (p.2.map V.int)) ∧ Q (.int (L.length : Nat)) H
section
variable {X : Cx}
theorem cr_setF (hc : X.calm = true) (hu : X.A.units + 64 < cLine) : CallR X (.type "set") (rSetF X.K X.prog X.w) := by
  intro pins s σ H xs us Q I r h
  obtain ⟨l, ks, rfl, hl, hk, hf, q⟩ := h
  rw [Vals.ref1 r]
  obtain ⟨its, rv, pl, hz⟩ := I.list hl
  have hn : H s.heap.objs.size = none := I.hok.fresh (Nat.le_refl _)
  refine set_ofT (P := X.prog) (w := X.w) ks (I.ok.hd hc) pl.isList (by simpa using refs_of_vals rv) (fun p hp => I.isT (hk p hp)) hf (by omega) fun g tk L es ep tb R got k => ?_
  refine ⟨.ref s.heap.objs.size, upd H s.heap.objs.size (SetTO X.prog X.w s.heap.objs.size L), I.laid (t' := tk) k (Nat.le_refl _) (setTO_new R.t0), rfl, q _ L hn R.nd (fun p hp => List.mem_of_mem_take (got.sub p hp)) fun p hp => got.all p (by rw [List.take_length]; exact hp)⟩
theorem cr_lenF : CallR X (.builtin "len") (rLenF X.K X.prog X.w) := by
  intro pins s σ H xs us Q I r h
  obtain ⟨a, L, rfl, ha, ht, q⟩ := h
  rw [Vals.ref1 r]
  have R0 : SetT0 X.prog X.w s.heap a L := (I.hok a _ ha).1
  obtain ⟨es, ep, tb, R⟩ := R0.full fun p hp => I.isT (ht p hp)
  obtain ⟨o, ho, hex, hd⟩ := R.ob
  have few := R.few
  refine call_len_set ho hex hd R.fits (by rw [R.size]; omega) ⟨.int (L.length : Nat), H, I.tok _, ⟨_, by rw [R.size]⟩, q⟩
end
section
variable {Γ : Gx} {X : Cx} {W : WX} {e e1 : Expr} {a : EE}
abbrev tupI (k : List Int) : PyData := .tuple (k.map PyData.int)
theorem dq_tups {K : PySem.W.Frag} {F : Hp} : ∀ {xs : List V} {ks : List (List Int)}, DqAll K F xs (ks.map tupI) → ∃ ps : List (Addr × List Int), xs = ps.map (fun p => V.ref p.1) ∧ ps.map (·.2) = ks ∧ ∀ p ∈ ps, SqT K F p.1 (p.2.map V.int)
  | _, [], h => by cases h; exact ⟨[], rfl, rfl, fun _ z => nomatch z⟩
  | _, k :: ks, h => by
    rw [List.map_cons] at h
    cases h with
    | cons h1 h2 =>
      obtain ⟨ps, rfl, e2, h3⟩ := dq_tups h2
      cases h1 with
      | @tup t ys _ hs ha =>
        have := ha.ints
        subst this
        exact ⟨(t, k) :: ps, rfl, by rw [List.map_cons, e2], fun p hp => by
          rcases List.mem_cons.mp hp with rfl | hp
          · exact hs
          · exact h3 p hp⟩
def eLenSet (a : EE) : EE := fun ρ R Xx => a ρ (fun x ρ1 => dL x fun ds => ∃ (ks D : List (List Int)), ds = ks.map tupI ∧ D.length + 1 < 64 ∧ (∀ k ∈ ks, k ∈ D) ∧ ∀ L : List (List Int), L.Nodup → (∀ k, k ∈ L ↔ k ∈ ks) → R (.d (.int (L.length : Nat))) ρ1) Xx
theorem de_lenSet {wd : World} {Pg : Program} (hpe : ∀ {ta : TE}, PE X e1 ta → PE X e (tCB (rLenF Γ.K Pg wd) (tCons (tCB (rSetF Γ.K Pg wd) (tCons ta tNil)) tNil))) {ta : TE} (h1 : DE Γ X W e1 ta a) :
    DE Γ X W e (tCB (rLenF Γ.K Pg wd) (tCons (tCB (rSetF Γ.K Pg wd) (tCons ta tNil)) tNil)) (eLenSet a) := by
  obtain ⟨p1, d1⟩ := h1
  refine ⟨hpe p1, fun f F H σ ρ Q R Xx E q o ox => ?_⟩
  refine d1 f F H σ ρ _ _ Xx E q (fun x ρ1 F1 H1 v1 q1 E1 s1 r1 => ?_) ox
  obtain ⟨ds, rfl, q1⟩ := dL_of q1
  obtain ⟨ks, D, rfl, hD, hks, q1⟩ := q1
  cases r1 with
  | lst hs ha =>
    obtain ⟨ps, rfl, e2, ht⟩ := dq_tups ha
    have ht1 : ∀ p ∈ ps, SqT Γ.K H1 p.1 (p.2.map V.int) := fun p hp => Same.tup E1.s1 (ht p hp)
    refine ⟨_, ps, rfl, .of (E1.s1 _ _ hs), ht1, few_of D hD fun p hp => hks _ (by rw [← e2]; exact List.mem_map.mpr ⟨p, hp, rfl⟩), fun b L hb nd sub all => ?_⟩
    refine ⟨b, L, rfl, upd_same, fun p hp => Same.tup (same_new hb) (ht1 p (sub p hp)), ?_⟩
    refine o _ _ _ _ _ (q1 (L.map (·.2)) nd fun k => ?_) (E1.raw hb) s1 (by rw [List.length_map]; exact .int _)
    rw [← e2]
    constructor
    · rintro hk
      obtain ⟨p, hp, rfl⟩ := List.mem_map.mp hk
      exact List.mem_map.mpr ⟨p, sub p hp, rfl⟩
    · rintro hk
      obtain ⟨p, hp, rfl⟩ := List.mem_map.mp hk
      exact all p hp
theorem y_lenSet {ρ : List Sl} {R : Cc.A → List Sl → Prop} {Xx : XX} : eLenSet a ρ R Xx ↔ a ρ (fun x ρ1 => dL x fun ds => ∃ (ks D : List (List Int)), ds = ks.map tupI ∧ D.length + 1 < 64 ∧ (∀ k ∈ ks, k ∈ D) ∧ ∀ L : List (List Int), L.Nodup → (∀ k, k ∈ L ↔ k ∈ ks) → R (.d (.int (L.length : Nat))) ρ1) Xx := Iff.rfl
end
end Cc

set_option Elab.async false
set_option linter.all false
set_option maxRecDepth 100000
set_option maxHeartbeats 4000000
/-! sorted of a list of data that is alike. -/
namespace Cc
open PySem PySem.Spec PyProof.Rows L2
/-- sorted(l), l a list of data -/
def rSortD (K : PySem.W.Frag) : List V → Hp → VK → Prop := fun vs H Q => ∃ (a : Addr) (xs : List V) (ds : List PyData), vs = [V.ref a] ∧ SqL K H a xs ∧ DqAll K H xs ds ∧ PySem.W.AllAlike ds ∧ PySem.W.Sortable ds ∧ (∀ d ∈ ds, d.depth ≤ 60) ∧
  ∀ (zs : List (V × PyData)) (p : Addr), zs.Perm (xs.zip ds) → zs.map (·.2) = ds.mergeSort (PySem.W.dataLe false id) → H p = none → Q (.ref p) (upd H p (.lst (zs.map (·.1))))
theorem zip_each {K : PySem.W.Frag} {H : Hp} : ∀ {its : List Value} {xs : List V} {ds : List PyData}, Vals xs its → DqAll K H xs ds → PySem.W.EachIs (fun (v : Value) (b : V × PyData) => RelV b.1 v ∧ Dq K H b.1 b.2) its (xs.zip ds)
  | _, _, [], .nil, h => by cases h; exact .nil
  | _, _, _ :: _, .nil, h => by cases h
  | _, _, [], .cons _ _, h => by cases h
  | _, _, _ :: _, .cons r t, h => by
    cases h with
    | cons h1 h2 => exact .cons ⟨r, h1⟩ (zip_each t h2)
theorem each_vals {K : PySem.W.Frag} {H : Hp} : ∀ {out : List Value} {zs : List (V × PyData)}, PySem.W.EachIs (fun (v : Value) (b : V × PyData) => RelV b.1 v ∧ Dq K H b.1 b.2) out zs → Vals (zs.map (·.1)) out
  | _, _, .nil => .nil
  | _, _, .cons h t => .cons h.1 (each_vals t)
theorem zip_snd {K : PySem.W.Frag} {H : Hp} : ∀ {xs : List V} {ds : List PyData}, DqAll K H xs ds → (xs.zip ds).map (·.2) = ds
  | _, [], h => by cases h; rfl
  | _, _ :: _, h => by
    cases h with
    | cons h1 h2 => rw [List.zip_cons_cons, List.map_cons, zip_snd h2]
theorem zip_dq {K : PySem.W.Frag} {H : Hp} : ∀ {xs : List V} {ds : List PyData}, DqAll K H xs ds → ∀ z ∈ xs.zip ds, Dq K H z.1 z.2
  | _, [], h, z, hz => by cases h; simp at hz
  | _, _ :: _, h, z, hz => by
    cases h with
    | cons h1 h2 =>
      rw [List.zip_cons_cons] at hz
      rcases List.mem_cons.mp hz with rfl | hz
      · exact h1
      · exact zip_dq h2 z hz
theorem dq_zip {K : PySem.W.Frag} {H : Hp} : ∀ {zs : List (V × PyData)}, (∀ z ∈ zs, Dq K H z.1 z.2) → DqAll K H (zs.map (·.1)) (zs.map (·.2))
  | [], _ => .nil
  | z :: zs, h => .cons (h z (List.mem_cons_self ..)) (dq_zip fun y hy => h y (List.mem_cons_of_mem _ hy))
section
variable {X : Cx}
theorem cr_sortD (hu : X.A.units + 65 < cLine) : CallR X (.builtin "sorted") (rSortD X.K) := by
  intro pins s σ H vs us Q I r h
  obtain ⟨a, xs, ds, rfl, hs, hd, hal, hk, hz, q⟩ := h
  rw [Vals.ref1 r]
  obtain ⟨its, rv, pl, hz2⟩ := I.list hs
  have e := zip_each rv hd
  have er : PySem.W.EachIs (fun v b => ∃ as, Reads s.heap v ((fun b : V × PyData => b.2) b) as) its (xs.zip ds) := e.mono fun v b h => Dp.reads I b.2 b.1 v (Dq.dp _ h.2) h.1
  have es : (xs.zip ds).map (fun b : V × PyData => b.2) = ds := zip_snd hd
  refine PySem.W.sorted_data (enc := fun b : V × PyData => b.2) pl.isList e er (by rw [es]; exact hal) (by rw [es]; exact hk) ?_ (fun b hb => ?_) fun out ho eo => ?_
  · rw [← e.length, ← rv.length]
    exact hz2
  · have := hz b.2 (by rw [← es]; exact List.mem_map_of_mem hb)
    omega
  · obtain ⟨n, hn⟩ := sortedAll_at s.heap its out.toArray
    have hv := each_vals eo
    have pm : ((xs.zip ds).mergeSort (PySem.W.dataLe false fun b : V × PyData => b.2)).Perm (xs.zip ds) := List.mergeSort_perm ..
    refine ⟨.ref (s.heap.objs.size + 1), upd H (s.heap.objs.size + 1) (.lst (((xs.zip ds).mergeSort (PySem.W.dataLe false fun b : V × PyData => b.2)).map (·.1))), I.laid (t' := s.toks) (fun b o e => sortedAll_old e) (Nat.le_succ _) ⟨?_, out, n, hv, hn⟩, rfl, q _ _ pm ?_ (I.hok.fresh (Nat.le_succ _))⟩
    · rw [List.length_map, pm.length_eq, ← e.length, ← rv.length]
      exact hz2
    · refine (List.map_mergeSort (r := PySem.W.dataLe false fun b : V × PyData => b.2) (s := PySem.W.dataLe false id) (f := fun b : V × PyData => b.2) (fun x _ y _ => rfl)).trans ?_
      rw [es]
end
section
variable {Γ : Gx} {X : Cx} {W : WX} {e e1 : Expr} {a : EE}
def lSortD (a : EE) : LL := fun ρ R Xx => a ρ (fun x ρ1 => dL x fun ds => PySem.W.AllAlike ds ∧ PySem.W.Sortable ds ∧ (∀ d ∈ ds, d.depth ≤ 60) ∧ R (ds.mergeSort (PySem.W.dataLe false id)) ρ1) Xx
theorem dl_sortD (hpe : ∀ {ta : TE}, PE X e1 ta → PE X e (tCB (rSortD Γ.K) (tCons ta tNil))) {ta : TE} (h1 : DE Γ X W e1 ta a) : DL Γ X W e (tCB (rSortD Γ.K) (tCons ta tNil)) (lSortD a) := by
  obtain ⟨p1, d1⟩ := h1
  refine ⟨hpe p1, fun f F H σ ρ Q R Xx E q o ox => ?_⟩
  refine d1 f F H σ ρ _ _ Xx E q (fun x ρ1 F1 H1 v1 q1 E1 s1 r1 => ?_) ox
  obtain ⟨ds, rfl, q2⟩ := dL_of q1
  obtain ⟨hal, hk, hz, q2⟩ := q2
  cases r1 with
  | lst hs ha =>
    refine ⟨_, _, ds, rfl, .of (E1.s1 _ _ hs), DqAll.same E1.s1 ds ha, hal, hk, hz, fun zs p pm es np => ?_⟩
    rw [← es] at q2
    exact o _ _ _ _ _ _ q2 (E1.raw np) s1 (own_new E1 (dq_zip fun z hz => zip_dq ha z (pm.mem_iff.mp hz)) np)
theorem y_sortD {ρ : List Sl} {R : List PyData → List Sl → Prop} {Xx : XX} : lSortD a ρ R Xx ↔ a ρ (fun x ρ1 => dL x fun ds => PySem.W.AllAlike ds ∧ PySem.W.Sortable ds ∧ (∀ d ∈ ds, d.depth ≤ 60) ∧ R (ds.mergeSort (PySem.W.dataLe false id)) ρ1) Xx := Iff.rfl
end
section
variable {Γ : Gx} {P : Program} {w : World} {mg : Str → Option Value} {base : Heap} {k : Nat} {x : Str} {st : Stmt} {N ps : List Str} {φ ψ : Phi} {rg : Bool}
/-- the promise of a def with two readings, by keyword too -/
theorem mkPPX2K (T : Tx Γ.K mg x st) (S : FnScope N ps (defScope st))
    (len : ∀ n xs R Xx, φ n xs R Xx ∨ ψ n xs R Xx → (if rg = true then 1 else 0) + xs.length = ps.length)
    (hb : ∀ (f : Addr) (cdv : Value) (A : Around) (outer : List Env) (s : Shared) (H : Hp) (E : XK), A.guards = some [] → Room k (A.deeper (envOfC x (defScope st) s.heap.objs.size f cdv)) →
      ∃ t κ, DSs Γ (cxOf (L2N.CX P w) P w Γ.K mg base N x (defScope st) f cdv A outer s H E) (fun cls dx _ H => E cls dx H) (defBody st) t κ ∧ ∀ n xs R Xx, φ n xs R Xx → κ (initS rg n N xs) (endsX rg R Xx))
    (hb2 : ∀ (f : Addr) (cdv : Value) (A : Around) (outer : List Env) (s : Shared) (H : Hp) (E : XK), A.guards = some [] → Room k (A.deeper (envOfC x (defScope st) s.heap.objs.size f cdv)) →
      ∃ t κ, DSs Γ (cxOf (L2N.CX P w) P w Γ.K mg base N x (defScope st) f cdv A outer s H E) (fun cls dx _ H => E cls dx H) (defBody st) t κ ∧ ∀ n xs R Xx, ψ n xs R Xx → κ (initS rg n N xs) (endsX rg R Xx)) :
    PrK P w Γ.K mg base (L2N.CX P w) (k + 1) x st ps (spP Γ rg fun n xs R Xx => φ n xs R Xx ∨ ψ n xs R Xx) :=
  mkKX T S (sp_len len) fun f cdv A outer s H vs Q E hG hr h => by
    rcases sp_or h with h | h
    · obtain ⟨t, κ, d, q⟩ := hb f cdv A outer s H E hG hr
      exact ⟨t, d.1, bodyX h d.2 q⟩
    · obtain ⟨t, κ, d, q⟩ := hb2 f cdv A outer s H E hG hr
      exact ⟨t, d.1, bodyX h d.2 q⟩
end
/-! three names at once: an own list and two values -/
section
variable {Γ : Gx} {X : Cx} {W : WX} {st : Stmt} {e1 e2 e3 : Expr} {i j k : Nat} {l : LL} {a b : EE}
def sPar3c (i j k : Nat) (l : LL) (b a : EE) : SS := fun ρ P => l ρ (fun ds ρ1 => b ρ1 (fun y ρ2 => a ρ2 (fun x ρ3 => P.nx (((ρ3.set i (.own ds)).set j (.a y)).set k (.a x))) P.ex) P.ex) P.ex
theorem ds_par3c (hpe : ∀ {t u s : TE}, PE X e1 t → PE X e2 u → PE X e3 s → PS X st (tPar3 i j k (tCons t (tCons u (tCons s tNil))))) {t : TE} (h : DL Γ X W e1 t l) {u : TE} (h' : DE Γ X W e2 u b) {s : TE} (h'' : DE Γ X W e3 s a) :
    DS Γ X W st (tPar3 i j k (tCons t (tCons u (tCons s tNil)))) (sPar3c i j k l b a) := by
  obtain ⟨p, dn⟩ := h
  obtain ⟨p', dn'⟩ := h'
  obtain ⟨p'', dn''⟩ := h''
  refine ⟨hpe p p' p'', fun f F H σ ρ P D E q o => ?_⟩
  refine dn f F H σ ρ _ _ P.ex E q (fun ds ρ1 F1 H1 b xs q1 E1 s1 w => ?_) (o.ex σ)
  have f0 := w.f0 E1
  have E1' := E1.keep w
  refine dn' _ F1 H1 σ ρ1 _ _ P.ex E1' q1 (fun y ρ2 F2 H2 v q2 E2 s2 r2 => ?_) ((o.ex σ).keep w.h0 E1.ml f0)
  refine dn'' _ F2 H2 σ ρ2 _ _ P.ex E2 q2 (fun x ρ3 F3 H3 z q3 E3 s3 r3 => ?_) ((o.ex σ).keep w.h0 E1.ml f0)
  obtain ⟨E5, b1, b2', b3, b4⟩ := E3.back w.h0 E1.ml f0
  have E6 := E5.setO (i := i) b1 (DqAll.same (s2.trans s3) ds w.hD) b2' (.inl w.h0) b3 b4
  exact ⟨_, _, _, rfl, o.nx _ _ _ _ q3 ((E6.setA (i := j) (r2.same s3)).setA (i := k) r3) ((s1.trans s2).trans s3)⟩
theorem y_par3c {ρ : List Sl} {P : EndsP} : sPar3c i j k l b a ρ P ↔ l ρ (fun ds ρ1 => b ρ1 (fun y ρ2 => a ρ2 (fun x ρ3 => P.nx (((ρ3.set i (.own ds)).set j (.a y)).set k (.a x))) P.ex) P.ex) P.ex := Iff.rfl
end
end Cc

set_option Elab.async false
set_option linter.all false
set_option maxRecDepth 100000
set_option maxHeartbeats 4000000
/-! max and min of a tuple of ints, tuple(range(n)). -/
namespace Cc
open PySem PySem.Spec PyProof.Rows L2
def rMaxT (K : PySem.W.Frag) : List V → Hp → VK → Prop := fun vs H Q => ∃ (a : Addr) (n : Int) (ns : List Int), vs = [V.ref a] ∧ SqT K H a ((n :: ns).map V.int) ∧ Q (.int (ns.foldl max n)) H
def rMinT (K : PySem.W.Frag) : List V → Hp → VK → Prop := fun vs H Q => ∃ (a : Addr) (n : Int) (ns : List Int), vs = [V.ref a] ∧ SqT K H a ((n :: ns).map V.int) ∧ Q (.int (ns.foldl min n)) H
theorem reads_ints {h : Heap} : ∀ {its : List Value} {ns : List Int}, Vals (ns.map V.int) its → ∃ as, ReadsAll h its (ns.map PyData.int) as
  | _, [], h => by cases h; exact ⟨_, .nil⟩
  | _, n :: ns, h => by
    rw [List.map_cons] at h
    cases h with
    | cons r t =>
      obtain ⟨k, rfl⟩ := r
      obtain ⟨as, r2⟩ := reads_ints (h := _) t
      exact ⟨_, .cons (.int n k) r2⟩
theorem alike_ints (ns : List Int) : PySem.W.AlikeAll (ns.map PyData.int) := by
  constructor
  · intro x hx y hy
    obtain ⟨a, _, rfl⟩ := List.mem_map.mp hx
    obtain ⟨b, _, rfl⟩ := List.mem_map.mp hy
    rfl
  · intro x hx
    obtain ⟨a, _, rfl⟩ := List.mem_map.mp hx
    exact fun z => nomatch z
theorem depth_ints : ∀ ns : List Int, PyData.depthAll (ns.map PyData.int) ≤ 1
  | [] => by simp [PyData.depthAll]
  | n :: ns => by
    have := depth_ints ns
    simp only [List.map_cons, PyData.depthAll, PyData.depth]
    omega
section
variable {X : Cx}
theorem cr_maxT (hc : X.calm = true) (hu : X.A.units + 65 < cLine) : CallR X (.builtin "max") (rMaxT X.K) := by
  intro pins s σ H vs us Q I r h
  obtain ⟨a, n, ns, rfl, hs, q⟩ := h
  obtain ⟨its, rv, pl, hz⟩ := I.tuple hs
  rw [Vals.ref1 r]
  obtain ⟨as, hr⟩ := reads_ints (h := s.heap) rv
  refine PySem.W.max_tuple_data (vs := its.toArray) (x := .int n) (xs := ns.map PyData.int) (I.ok.hd hc) pl hr (alike_ints (n :: ns)) (by have := depth_ints (n :: ns); rw [List.map_cons] at this; omega) fun i v h' tk bs hv rd hk => ?_
  rw [PySem.W.maxD_ints] at rd
  cases rd
  exact ⟨.int _, H, I.kept hk, ⟨_, rfl⟩, q⟩
theorem cr_minT (hc : X.calm = true) (hu : X.A.units + 65 < cLine) : CallR X (.builtin "min") (rMinT X.K) := by
  intro pins s σ H vs us Q I r h
  obtain ⟨a, n, ns, rfl, hs, q⟩ := h
  obtain ⟨its, rv, pl, hz⟩ := I.tuple hs
  rw [Vals.ref1 r]
  obtain ⟨as, hr⟩ := reads_ints (h := s.heap) rv
  refine PySem.W.min_tuple_data (vs := its.toArray) (x := .int n) (xs := ns.map PyData.int) (I.ok.hd hc) pl hr (alike_ints (n :: ns)) (by have := depth_ints (n :: ns); rw [List.map_cons] at this; omega) fun i v h' tk bs hv rd hk => ?_
  rw [PySem.W.minD_ints] at rd
  cases rd
  exact ⟨.int _, H, I.kept hk, ⟨_, rfl⟩, q⟩
end
def pMaxT : PL
  | [.d (.tuple ds)], Q => ∃ n ns, ds = (n :: ns).map PyData.int ∧ Q (.int (ns.foldl max n))
  | _, _ => False
def pMinT : PL
  | [.d (.tuple ds)], Q => ∃ n ns, ds = (n :: ns).map PyData.int ∧ Q (.int (ns.foldl min n))
  | _, _ => False
section
variable {Γ : Gx} {X : Cx} {W : WX} {e e1 : Expr} {a : EE}
theorem cd_maxT : CallD Γ (rMaxT Γ.K) pMaxT := fun f F H σ ρ vs xs Q R E r p o => by
  unfold pMaxT at p
  split at p
  · obtain ⟨u, rfl, r1⟩ := rp1 r
    obtain ⟨n, ns, rfl, p⟩ := p
    cases r1 with
    | tup hs ha =>
      have e := ha.ints (ns := n :: ns)
      subst e
      exact ⟨_, n, ns, rfl, Same.tup E.s1 hs, o _ _ _ _ p E (Same.refl _) (.int _)⟩
  · exact p.elim
theorem cd_minT : CallD Γ (rMinT Γ.K) pMinT := fun f F H σ ρ vs xs Q R E r p o => by
  unfold pMinT at p
  split at p
  · obtain ⟨u, rfl, r1⟩ := rp1 r
    obtain ⟨n, ns, rfl, p⟩ := p
    cases r1 with
    | tup hs ha =>
      have e := ha.ints (ns := n :: ns)
      subst e
      exact ⟨_, n, ns, rfl, Same.tup E.s1 hs, o _ _ _ _ p E (Same.refl _) (.int _)⟩
  · exact p.elim
theorem y_maxT {ds : List PyData} {Q : PyData → Prop} : pMaxT [.d (.tuple ds)] Q ↔ ∃ n ns, ds = (n :: ns).map PyData.int ∧ Q (.int (ns.foldl max n)) := Iff.rfl
theorem y_minT {ds : List PyData} {Q : PyData → Prop} : pMinT [.d (.tuple ds)] Q ↔ ∃ n ns, ds = (n :: ns).map PyData.int ∧ Q (.int (ns.foldl min n)) := Iff.rfl
def eTupRg (a : EE) : EE := fun ρ R Xx => a ρ (fun x ρ1 => dI x fun n => (0 ≤ n ∧ n ≤ 16777216) ∧ R (.d (.tuple (((List.range n.toNat).map fun i => ((i : Nat) : Int)).map PyData.int))) ρ1) Xx
theorem de_tupRg (hpe : ∀ {ta : TE}, PE X e1 ta → PE X e (tTupRg (tRg1 ta))) {ta : TE} (h1 : DE Γ X W e1 ta a) : DE Γ X W e (tTupRg (tRg1 ta)) (eTupRg a) := by
  obtain ⟨p1, d1⟩ := h1
  refine ⟨hpe p1, fun f F H σ ρ Q R Xx E q o ox => ?_⟩
  refine d1 f F H σ ρ _ _ Xx E q (fun x ρ1 F1 H1 v1 q1 E1 s1 r1 => ?_) ox
  obtain ⟨n, rfl, ⟨n0, n1⟩, q1'⟩ := dI_of q1
  cases r1
  refine ⟨n, rfl, RgOk.of_le (Int.le_refl _) n1 (by omega) n0, fun l nl => ?_⟩
  have e : rgV 0 n = ((List.range n.toNat).map fun i => ((i : Nat) : Int)).map V.int := by
    unfold rgV
    rw [Int.sub_zero, List.map_map]
    exact List.map_congr_left fun i _ => by show V.int (0 + (i : Int)) = V.int i; rw [Int.zero_add]
  rw [e]
  have nF := E1.fnone nl
  exact o _ _ _ _ _ q1' (E1.alloc nl) (s1.trans (same_updF nF)) (.tup (.of upd_same) (dqA_ints _))
theorem y_tupRg {ρ : List Sl} {R : Cc.A → List Sl → Prop} {Xx : XX} : eTupRg a ρ R Xx ↔ a ρ (fun x ρ1 => dI x fun n => (0 ≤ n ∧ n ≤ 16777216) ∧ R (.d (.tuple (((List.range n.toNat).map fun i => ((i : Nat) : Int)).map PyData.int))) ρ1) Xx := Iff.rfl
end
end Cc



set_option Elab.async false
set_option linter.all false
set_option maxRecDepth 100000
set_option maxHeartbeats 4000000
namespace Cc
open PySem PySem.Spec PyProof.Rows L2
def topS (i : Nat) : Stmt := PySem.Challenge.pw_castchains_k19_functions_counted_by_tryi.main.body.getD i (.Pass ⟨0, 0, 0, 0⟩)
def nameOf (_ : Nat) : Str := "InvalidForm"
/-- the seven classes with their __init__s, and CastError -/
structure Cls (P : Program) (w : World) (K : PySem.W.Frag) (mg : Str → Option Value) (base : Heap) (C fI : Nat → Addr) (fd : Nat → FuncData) (C0 : Addr) : Prop where
  cls : ∀ i : Nat, XC K mg (nameOf i) (C i) (fI i)
  ini : ∀ i : Nat, FnOk P w K mg base CX0 1 (fI i) (fd i) ["self", "value"] (spInit K (C i))
  bi : ∀ i : Nat, Binds K (fd i) ["self", "value"] []
  kw : ∀ i : Nat, ∀ (s : Shared) (u v : Value), BindsTo s (fd i) ⟨[u], [("value", v)]⟩ [("self", u), ("value", v)]
  g0 : mg "CastError" = some (.ref C0)
  kit : ∀ i j : Nat, i < 1 → j < 1 → PySem.W.kitOne K (.ref (C i)) (.ref (C j)) = some (decide (i = j))
  kit0 : ∀ i : Nat, i < 1 → PySem.W.kitOne K (.ref (C i)) (.ref C0) = some true
  kitV : ∀ i : Nat, i < 1 → PySem.W.kitOne K (.ref (C i)) (.type "ValueError") = some true
section
variable {P : Program} {w : World} {K : PySem.W.Frag} {mg : Str → Option Value} {base : Heap} {C fI : Nat → Addr} {fd : Nat → FuncData} {C0 : Addr}
def ErrAt (K : PySem.W.Frag) (H : Hp) (a C : Addr) (v : V) : Prop := ∃ d, H a = some (exT a (.ref C) (some d)) ∧ H d = some (.xd [("value", v)])
theorem ErrAt.same {H H' : Hp} {a C : Addr} {v : V} (e : Same H H') (h : ErrAt K H a C v) : ErrAt K H' a C v := by
  obtain ⟨d, h1, h2⟩ := h
  exact ⟨d, e _ _ h1, e _ _ h2⟩
theorem x_isX {H : Hp} {Q : VK} {a c : Addr} {v : V} {b : Bool} (Y : Cls P w K mg base C fI fd C0) {i : Nat} (h : ErrAt K H a (C i) v) (k : PySem.W.kitOne K (.ref (C i)) (.ref c) = some b) (q : Q (.bl b) H) : rIsX K [.ref a, .ref c] H Q := by
  obtain ⟨d, h1, h2⟩ := h
  exact ⟨a, C i, d, _, .ref c, .ref c, b, rfl, h1, h2, (Y.cls i).I, .own c, k, q⟩
theorem x_isV {H : Hp} {Q : VK} {a : Addr} {v : V} {b : Bool} {n : String} (Y : Cls P w K mg base C fI fd C0) {i : Nat} (h : ErrAt K H a (C i) v) (k : PySem.W.kitOne K (.ref (C i)) (.type n) = some b) (q : Q (.bl b) H) : rIsX K [.ref a, .ty n] H Q := by
  obtain ⟨d, h1, h2⟩ := h
  exact ⟨a, C i, d, _, .ty n, .type n, b, rfl, h1, h2, (Y.cls i).I, .ty n, k, q⟩
end

end Cc

set_option Elab.async false
set_option linter.all false
set_option maxRecDepth 100000
set_option maxHeartbeats 4000000
namespace Cc
open PySem PySem.Spec PyProof.Rows L2
abbrev s_law_power : Stmt := topS 8
theorem sc_law_power : FnScope ["many"] ["many"] (defScope s_law_power) := ⟨rfl, rfl, rfl, by decide +kernel, rfl, by decide +kernel, by decide +kernel⟩
abbrev s_law_behind : Stmt := topS 10
theorem sc_law_behind : FnScope ["found", "wide", "size", "more", "results", "amount", "one"] ["found", "wide"] (defScope s_law_behind) := ⟨rfl, rfl, rfl, by decide +kernel, rfl, by decide +kernel, by decide +kernel⟩
section
variable {σ : L2.St} {H : Hp} {Q : VK} {td ty tv : TE} {D : Ends}
theorem x_dput : sDPut td ty tv D σ H ↔ tv σ H fun v H1 => td σ H1 fun x H2 => ty σ H2 fun y H3 => ∃ a H4, x = .ref a ∧ DPut H3 a y v H4 ∧ D.nx σ H4 := Iff.rfl
theorem x_dnewT : tDNewT σ H Q ↔ ∀ p, H p = none → Q (.ref p) (upd H p (.dT [])) := Iff.rfl
end
section
/-- a key in its place, or at the end -/
def putL (acc : List (List Int)) (k : List Int) : List (List Int) := if k ∈ acc then acc else acc ++ [k]
def shT (n : Nat) (k : List Int) (i : Nat) : List Int := k.map fun x => (x + (i : Nat)) % (n : Int)
def behK (n : Nat) (acc : List (List Int)) (k : List Int) : List (List Int) := (List.range n).foldl (fun acc i => putL acc (shT n k i)) acc
def beh (n : Nat) (ks : List (List Int)) : List (List Int) := ks.foldl (behK n) []
def keyL (k : List Int) : List Key := k.map Sum.inl
theorem keyL_V (k : List Int) : (keyL k).map kV = k.map V.int := by unfold keyL; rw [List.map_map]; rfl
theorem keyL_inj {a b : List Int} (h : keyL a = keyL b) : a = b := by
  unfold keyL at h
  exact (List.map_inj_right fun x y e => Sum.inl.inj e).mp h
theorem put_fst {kvs : List (List Key × V)} {acc : List (List Int)} {k : List Int} {v : V} (h : kvs.map (·.1) = acc.map keyL) : (putK kvs (keyL k) v).map (·.1) = (putL acc k).map keyL := by
  have e : (kvs.any fun kv => decide (kv.1 = keyL k)) = decide (k ∈ acc) := by
    rw [Bool.eq_iff_iff, List.any_eq_true, decide_eq_true_eq]
    constructor
    · rintro ⟨kv, hkv, hk⟩
      have hk := of_decide_eq_true hk
      have : kv.1 ∈ acc.map keyL := by rw [← h]; exact List.mem_map.mpr ⟨kv, hkv, rfl⟩
      obtain ⟨j, hj, ej⟩ := List.mem_map.mp this
      rw [← keyL_inj (ej.trans hk)]
      exact hj
    · intro hk
      have : keyL k ∈ kvs.map (·.1) := by rw [h]; exact List.mem_map.mpr ⟨k, hk, rfl⟩
      obtain ⟨kv, hkv, ek⟩ := List.mem_map.mp this
      exact ⟨kv, hkv, decide_eq_true ek⟩
  unfold putK putL
  rw [e]
  by_cases hk : k ∈ acc
  · rw [decide_eq_true hk, if_pos rfl, if_pos hk, ← h, List.map_map]
    refine List.map_congr_left fun kv _ => ?_
    show (if kv.1 = keyL k then (kv.1, v) else kv).1 = kv.1
    split <;> rfl
  · rw [decide_eq_false hk, if_neg (by decide), if_neg hk, List.map_append, List.map_append, h]
    rfl
theorem putL_len (acc : List (List Int)) (k : List Int) : (putL acc k).length ≤ acc.length + 1 := by
  unfold putL
  split
  · omega
  · rw [List.length_append]
    exact Nat.le_refl _
variable {P : Program} {w : World} {K : PySem.W.Frag} {mg : Str → Option Value} {base : Heap}
def spPow : Sp := fun vs H Q _ => ∃ m : Int, vs = [.int m] ∧ 0 ≤ m ∧ m ≤ 5000 ∧ Q (.int (2 ^ m.toNat)) H
theorem p_power (T : Tx K mg "_law_power" s_law_power) : Pr P w K mg base CX0 1 "_law_power" ["many"] spPow := by
  refine mkP T sc_law_power (fun _ _ _ _ _ _ us hl => match us, hl with | [_], _ => rfl) (fun vs H Q E h => ?_) (fun f cdv A outer s H vs Q E hG hr h => ?_)
  · obtain ⟨_, rfl, _⟩ := h
    rfl
  · obtain ⟨m, rfl, h0, h1, q⟩ := h
    have nd := sc_law_power.nd
    refine ⟨_, (pss_one (ps_ret (pe_op op_shl pe_int (pv 0)))), ?_⟩
    show (tRet _) _ [some (V.int m)] H
    (try simp only [x_asg, x_lcT, x_dput, x_dnewT, x_mkV, x_value, x_lcR1, x_lcL, List.map_cons, List.map_nil, x_yes, x_wipe0, x_wipeS, x_rs, x_callS, x_callKS, x_retN, x_name, x_sub, x_ret, x_next, x_ifS, x_ite, x_iteN, x_T, x_F, x_tT, x_tF, x_op, x_un, x_var0, x_varS, x_c, x_I0, x_I, x_rU, x_nil, x_cons, x_test, x_B, x_bl, x_call, x_CB, x_tup, x_lst, x_not, x_Eq, x_Ne, x_eqII, x_eqSS, x_eqBB,  x_and, x_or, x_andV, x_orV, x_notV, x_if, x_par, x_two, x_drop, x_BM, x_set0, x_setS, x_gcons, x_gnil, x_forL, x_forT, x_forR1, x_forR2, x_forE, x_ref, x_int1, x_oneI, x_oneB, x_noBI, x_twoI, false_or, x_sl, x_noP, x_part, true_and, List.append_nil, cxK, cxKn]; try simp only [V.str.injEq, V.int.injEq, V.bl.injEq])
    refine ⟨⟨h0, by omega, by decide⟩, ?_⟩
    rw [Int.one_mul]
    exact q
/-- what stands at a list of tuples -/
def TupsAt (K : PySem.W.Frag) (H : Hp) (xs : List V) (ks : List (List Int)) : Prop := ∃ ps : List (Addr × List Int), xs = ps.map (fun p => V.ref p.1) ∧ ps.map (·.2) = ks ∧ ∀ p ∈ ps, SqT K H p.1 (p.2.map V.int)
theorem TupsAt.same {H H' : Hp} {xs : List V} {ks : List (List Int)} (h : TupsAt K H xs ks) (s : Same H H') : TupsAt K H' xs ks := by
  obtain ⟨ps, h1, h2, h3⟩ := h
  exact ⟨ps, h1, h2, fun p hp => Same.tup s (h3 p hp)⟩
theorem tups_keys : ∀ {kvs : List (List Key × V)} {bs : List Addr} {acc : List (List Int)} {H : Hp}, IsKeys H kvs bs → kvs.map (·.1) = acc.map keyL → TupsAt K H (bs.map V.ref) acc
  | [], bs, acc, H, h, e => by
    unfold IsKeys at h
    cases h
    cases acc with
    | nil => exact ⟨[], rfl, rfl, fun _ z => nomatch z⟩
    | cons => cases e
  | kv :: kvs, bs, acc, H, h, e => by
    unfold IsKeys at h
    cases h with
    | @cons _ b _ bs h1 h2 =>
      cases acc with
      | nil => cases e
      | cons k acc =>
        rw [List.map_cons, List.map_cons] at e
        injection e with e1 e2
        obtain ⟨ps, g1, g2, g3⟩ := tups_keys (H := H) h2 e2
        refine ⟨(b, k) :: ps, by rw [List.map_cons, List.map_cons, g1], by rw [List.map_cons, g2], fun p hp => ?_⟩
        rcases List.mem_cons.mp hp with rfl | hp
        · refine .of ?_
          show H b = some (.tup (k.map V.int))
          rw [h1, e1, keyL_V]
        · exact g3 p hp
def spBeh (K : PySem.W.Frag) : Sp := fun vs H Q _ => ∃ (a : Addr) (xs : List V) (ks : List (List Int)) (wd : Int), vs = [.ref a, .int wd] ∧ SqL K H a xs ∧ TupsAt K H xs ks ∧ 0 ≤ wd ∧ wd ≤ 10 ∧ (∀ k ∈ ks, k.length ≤ 1000) ∧ ks.length ≤ 1000 ∧
  ∀ p ys H', Same H H' → H' p = some (.lst ys) → TupsAt K H' ys (beh (2 ^ wd.toNat) ks) → Q (.ref p) H'
theorem p_behind (T : Tx K mg "_law_behind" s_law_behind) (m_range : mg "range" = none) (m_tuple : mg "tuple" = none) (m_list : mg "list" = none) (h__law_power : Pr P w K mg base CX0 1 "_law_power" ["many"] spPow) : Pr P w K mg base CX0 2 "_law_behind" ["found", "wide"] (spBeh K) := by
  refine mkP T sc_law_behind (fun _ _ _ _ _ _ us hl => match us, hl with | [_, _], _ => rfl) (fun vs H Q E h => ?_) (fun f cdv A outer s H vs Q E hG hr h => ?_)
  · obtain ⟨_, _, _, _, rfl, _⟩ := h
    rfl
  · obtain ⟨a, xs, ks, wd, rfl, hS, ⟨ps, rfl, rfl, hps⟩, w0, w1, hb, hl, q⟩ := h
    have nd := sc_law_behind.nd
    refine ⟨_, (pss_cons (ps_asg (pe_tup (pa_cons (pe_P h__law_power hr hG (by rfl) (pa_cons (pv 1) pa_nil)) (pa_cons pe_dnewT pa_nil))) (pg_tup rfl (pgs_cons (pg_name (i := 2) nd rfl (.inr rfl)) (pgs_cons (pg_name (i := 3) nd rfl (.inl rfl)) pgs_nil)))) (pss_cons (ps_for PassesOwn.never rfl (pi_list (pv 0)) (pg_name (i := 4) nd rfl (.inl rfl)) (pss_one (ps_for PassesOwn.never rfl (pi_range1 rfl m_range (pa_cons (pv 2) pa_nil)) (pg_name (i := 5) nd rfl (.inr rfl)) (pss_one (ps_dput (Nat.lt_of_le_of_lt (Nat.add_le_add_left (by decide : 1 ≤ 64) _) hr.units) (pv 3) (pe_callTy call_tuple_of (by rfl) m_tuple (by decide +kernel) (pa_cons (pe_lc (own := [("one", 6)]) (g := gName 6) (by rfl) nd (pi_tup (pv 4)) (blkOk_by (own := [("one", 6)]) (N := ["found", "wide", "size", "more", "results", "amount", "one"]) (sc := defScope s_law_behind) (by decide +kernel)) (fun _ _ _ _ _ => (pg_name (i := 6) nd rfl (.inl rfl))) (fun _ _ _ _ _ => pts_nil) (fun _ _ _ _ _ => (pe_op op_mod (pe_op op_add (pv 6) (pv 5)) (pv 2)))) pa_nil)) pe_bl rfl))))) (pss_one (ps_ret (pe_callTy (call_list_dT rfl) (by rfl) m_list (by decide +kernel) (pa_cons (pv 3) pa_nil)))))), ?_⟩
    show (tSeq _ _) _ [some (V.ref a), some (V.int wd), none, none, none, none, none] H
    refine x_seq.mpr ?_
    (try simp only [x_asg, x_lcT, x_dput, x_dnewT, x_mkV, x_value, x_lcR1, x_lcL, List.map_cons, List.map_nil, x_yes, x_wipe0, x_wipeS, x_rs, x_callS, x_callKS, x_retN, x_name, x_sub, x_ret, x_next, x_ifS, x_ite, x_iteN, x_T, x_F, x_tT, x_tF, x_op, x_un, x_var0, x_varS, x_c, x_I0, x_I, x_rU, x_nil, x_cons, x_test, x_B, x_bl, x_call, x_CB, x_tup, x_lst, x_not, x_Eq, x_Ne, x_eqII, x_eqSS, x_eqBB,  x_and, x_or, x_andV, x_orV, x_notV, x_if, x_par, x_two, x_drop, x_BM, x_set0, x_setS, x_gcons, x_gnil, x_forL, x_forT, x_forR1, x_forR2, x_forE, x_ref, x_int1, x_oneI, x_oneB, x_noBI, x_twoI, false_or, x_sl, x_noP, x_part, true_and, List.append_nil, cxK, cxKn]; try simp only [V.str.injEq, V.int.injEq, V.bl.injEq])
    refine ⟨wd, rfl, w0, by omega, fun p hp => ⟨(by show (2:Nat) ≤ sizeLine; rw [sizeLine_eq]; decide), fun r hr => ?_⟩⟩
    refine x_gtup (SqT.of upd_same) rfl ?_
    (try simp only [x_asg, x_lcT, x_dput, x_dnewT, x_mkV, x_value, x_lcR1, x_lcL, List.map_cons, List.map_nil, x_yes, x_wipe0, x_wipeS, x_rs, x_callS, x_callKS, x_retN, x_name, x_sub, x_ret, x_next, x_ifS, x_ite, x_iteN, x_T, x_F, x_tT, x_tF, x_op, x_un, x_var0, x_varS, x_c, x_I0, x_I, x_rU, x_nil, x_cons, x_test, x_B, x_bl, x_call, x_CB, x_tup, x_lst, x_not, x_Eq, x_Ne, x_eqII, x_eqSS, x_eqBB,  x_and, x_or, x_andV, x_orV, x_notV, x_if, x_par, x_two, x_drop, x_BM, x_set0, x_setS, x_gcons, x_gnil, x_forL, x_forT, x_forR1, x_forR2, x_forE, x_ref, x_int1, x_oneI, x_oneB, x_noBI, x_twoI, false_or, x_sl, x_noP, x_part, true_and, List.append_nil, cxK, cxKn]; try simp only [V.str.injEq, V.int.injEq, V.bl.injEq])
    generalize hn : (2:Nat) ^ wd.toNat = n at q
    have hN : (2:Int) ^ wd.toNat = (n:Int) := by rw [← hn]; exact (Int.natCast_pow 2 wd.toNat).symm
    have n1 : n ≤ 1024 := by rw [← hn]; exact Nat.le_trans (Nat.pow_le_pow_right (by decide) (show wd.toNat ≤ 10 by omega)) (by decide)
    have n0 : 0 < n := by rw [← hn]; exact Nat.pow_pos (by decide)
    rw [hN]
    have hrp : p ≠ r := fun z => by rw [z, upd_same] at hr; cases hr
    have S3 : Same H (upd (upd H p (HO.dT [])) r (HO.tup [V.int (n:Int), V.ref p])) := same_mut (same_new hp) (by rw [upd_ne (Ne.symm hrp)] at hr; exact hr)
    have hD3 : upd (upd H p (HO.dT [])) r (HO.tup [V.int (n:Int), V.ref p]) p = some (.dT []) := by rw [upd_ne hrp]; exact upd_same
    generalize upd (upd H p (HO.dT [])) r (HO.tup [V.int (n:Int), V.ref p]) = H3 at S3 hD3 ⊢
    refine x_seq.mpr ?_
    (try simp only [x_asg, x_lcT, x_dput, x_dnewT, x_mkV, x_value, x_lcR1, x_lcL, List.map_cons, List.map_nil, x_yes, x_wipe0, x_wipeS, x_rs, x_callS, x_callKS, x_retN, x_name, x_sub, x_ret, x_next, x_ifS, x_ite, x_iteN, x_T, x_F, x_tT, x_tF, x_op, x_un, x_var0, x_varS, x_c, x_I0, x_I, x_rU, x_nil, x_cons, x_test, x_B, x_bl, x_call, x_CB, x_tup, x_lst, x_not, x_Eq, x_Ne, x_eqII, x_eqSS, x_eqBB,  x_and, x_or, x_andV, x_orV, x_notV, x_if, x_par, x_two, x_drop, x_BM, x_set0, x_setS, x_gcons, x_gnil, x_forL, x_forT, x_forR1, x_forR2, x_forE, x_ref, x_int1, x_oneI, x_oneB, x_noBI, x_twoI, false_or, x_sl, x_noP, x_part, true_and, List.append_nil, cxK, cxKn]; try simp only [V.str.injEq, V.int.injEq, V.bl.injEq])
    refine ⟨⟨_, Same.seq S3 hS⟩, lpL (xs := ps.map fun p => V.ref p.1) (fun i σ1 H1 => ∃ u v kvs, σ1 = [some (V.ref a), some (V.int wd), some (V.int (n:Int)), some (V.ref p), u, v, none] ∧ Same H H1 ∧ H1 p = some (.dT kvs) ∧ kvs.map (·.1) = (((ps.map (·.2)).take i).foldl (behK n) []).map keyL ∧ kvs.length ≤ i * n) ⟨none, none, [], rfl, S3, hD3, rfl, Nat.zero_le _⟩ (fun i σ1 H1 _ ⟨_, _, _, _, s1, _⟩ => Same.seq s1 hS) (fun i x σ1 H1 hx ⟨u, v, kvs, e, s1, hd, hk, hl1⟩ => ?step) (fun σ1 H1 ⟨u, v, kvs, e, s1, hd, hk, hl1⟩ => ?done)⟩
    case step =>
      subst e
      rw [List.getElem?_map] at hx
      obtain ⟨c, hc, rfl⟩ := Option.map_eq_some_iff.mp hx
      have hin := List.mem_of_getElem? hc
      (try simp only [x_asg, x_lcT, x_dput, x_dnewT, x_mkV, x_value, x_lcR1, x_lcL, List.map_cons, List.map_nil, x_yes, x_wipe0, x_wipeS, x_rs, x_callS, x_callKS, x_retN, x_name, x_sub, x_ret, x_next, x_ifS, x_ite, x_iteN, x_T, x_F, x_tT, x_tF, x_op, x_un, x_var0, x_varS, x_c, x_I0, x_I, x_rU, x_nil, x_cons, x_test, x_B, x_bl, x_call, x_CB, x_tup, x_lst, x_not, x_Eq, x_Ne, x_eqII, x_eqSS, x_eqBB,  x_and, x_or, x_andV, x_orV, x_notV, x_if, x_par, x_two, x_drop, x_BM, x_set0, x_setS, x_gcons, x_gnil, x_forL, x_forT, x_forR1, x_forR2, x_forE, x_ref, x_int1, x_oneI, x_oneB, x_noBI, x_twoI, false_or, x_sl, x_noP, x_part, true_and, List.append_nil, cxK, cxKn]; try simp only [V.str.injEq, V.int.injEq, V.bl.injEq])
      refine ⟨by omega, by omega, ?_⟩
      rw [Int.toNat_natCast]
      refine lpR (fun j σ2 H2 => ∃ v kvs', σ2 = [some (V.ref a), some (V.int wd), some (V.int (n:Int)), some (V.ref p), some (V.ref c.1), v, none] ∧ Same H H2 ∧ H2 p = some (.dT kvs') ∧ kvs'.map (·.1) = ((List.range j).foldl (fun acc i => putL acc (shT n c.2 i)) (((ps.map (·.2)).take i).foldl (behK n) [])).map keyL ∧ kvs'.length ≤ i * n + j) ⟨v, kvs, rfl, s1, hd, hk, hl1⟩ (fun j σ2 H2 hj ⟨v2, kv2, e, s2, hd2, hk2, hl2⟩ => ?inn) (fun σ2 H2 ⟨v2, kv2, e, s2, hd2, hk2, hl2⟩ => ?out)
      case inn =>
        subst e
        (try simp only [x_asg, x_lcT, x_dput, x_dnewT, x_mkV, x_value, x_lcR1, x_lcL, List.map_cons, List.map_nil, x_yes, x_wipe0, x_wipeS, x_rs, x_callS, x_callKS, x_retN, x_name, x_sub, x_ret, x_next, x_ifS, x_ite, x_iteN, x_T, x_F, x_tT, x_tF, x_op, x_un, x_var0, x_varS, x_c, x_I0, x_I, x_rU, x_nil, x_cons, x_test, x_B, x_bl, x_call, x_CB, x_tup, x_lst, x_not, x_Eq, x_Ne, x_eqII, x_eqSS, x_eqBB,  x_and, x_or, x_andV, x_orV, x_notV, x_if, x_par, x_two, x_drop, x_BM, x_set0, x_setS, x_gcons, x_gnil, x_forL, x_forT, x_forR1, x_forR2, x_forE, x_ref, x_int1, x_oneI, x_oneB, x_noBI, x_twoI, false_or, x_sl, x_noP, x_part, true_and, List.append_nil, cxK, cxKn]; try simp only [V.str.injEq, V.int.injEq, V.bl.injEq])
        have hT : SqT K H2 c.1 (c.2.map V.int) := Same.tup s2 (hps c hin)
        refine ⟨⟨_, hT⟩, fun D hD => ?_⟩
        have hDp : p ≠ D := fun z => by rw [← z, hd2] at hD; cases hD
        refine lcT (xs := c.2.map V.int) (fun m H5 => H5 D = some (.lst (((shT n c.2 j).take m).map V.int)) ∧ Same H2 H5) ⟨upd_same, same_new hD⟩ (fun m H5 g => Same.tup g.2 hT) (fun m x H5 hx ⟨g1, g2⟩ => ?cell) (fun H5 ⟨g1, g2⟩ => ?fin)
        case cell =>
          rw [List.getElem?_map] at hx
          obtain ⟨y, hy, rfl⟩ := Option.map_eq_some_iff.mp hx
          (try simp only [x_asg, x_lcT, x_dput, x_dnewT, x_mkV, x_value, x_lcR1, x_lcL, List.map_cons, List.map_nil, x_yes, x_wipe0, x_wipeS, x_rs, x_callS, x_callKS, x_retN, x_name, x_sub, x_ret, x_next, x_ifS, x_ite, x_iteN, x_T, x_F, x_tT, x_tF, x_op, x_un, x_var0, x_varS, x_c, x_I0, x_I, x_rU, x_nil, x_cons, x_test, x_B, x_bl, x_call, x_CB, x_tup, x_lst, x_not, x_Eq, x_Ne, x_eqII, x_eqSS, x_eqBB,  x_and, x_or, x_andV, x_orV, x_notV, x_if, x_par, x_two, x_drop, x_BM, x_set0, x_setS, x_gcons, x_gnil, x_forL, x_forT, x_forR1, x_forR2, x_forE, x_ref, x_int1, x_oneI, x_oneB, x_noBI, x_twoI, false_or, x_sl, x_noP, x_part, true_and, List.append_nil, cxK, cxKn]; try simp only [V.str.injEq, V.int.injEq, V.bl.injEq])
          have hm : m < c.2.length := (List.getElem?_eq_some_iff.mp hy).1
          have hc1 : c.2.length ≤ 1000 := hb c.2 (List.mem_map.mpr ⟨c, hin, rfl⟩)
          rw [if_pos True.intro]
          refine ⟨by omega, _, g1, by rw [List.length_map, List.length_take, sizeLine_eq]; omega, ?_, same_mut g2 hD⟩
          rw [upd_same, List.take_succ, show (shT n c.2 j)[m]? = some ((y + (j:Nat)) % (n:Int)) from by unfold shT; rw [List.getElem?_map, hy]; rfl, Option.toList_some, List.map_append, Int.zero_add]
          rfl
        case fin =>
          rw [List.length_map, show c.2.length = (shT n c.2 j).length from (List.length_map _).symm, List.take_length] at g1
          have hi : i < ps.length := (List.getElem?_eq_some_iff.mp hc).1
          have hl0 : ps.length ≤ 1000 := by rw [List.length_map] at hl; exact hl
          have hm : i * n ≤ 1000 * 1024 := Nat.mul_le_mul (by omega) n1
          refine ⟨D, _, rfl, .inl ⟨.of g1, fun l hl => ⟨p, _, rfl, DPut.t (k := keyL (shT n c.2 j)) (by rw [upd_ne (fun z => by rw [← z, g2 p _ hd2] at hl; cases hl)]; exact g2 p _ hd2) (by rw [upd_same, keyL_V]) (by rw [sizeLine_eq]; omega), ?_⟩⟩⟩
          refine ⟨_, _, rfl, same_mut (same_mut (s2.trans g2) ((s2.trans g2).free hl)) hp, upd_same, ?_, Nat.le_trans (length_putK _ _ _) (by omega)⟩
          rw [put_fst hk2, List.range_succ, List.foldl_append]
          rfl
      case out =>
        subst e
        refine ⟨_, v2, kv2, rfl, s2, hd2, ?_, by rw [Nat.succ_mul]; exact hl2⟩
        rw [hk2, List.take_succ, List.getElem?_map, hc, Option.map_some, Option.toList_some, List.foldl_append]
        rfl
    case done =>
      subst e
      (try simp only [x_asg, x_lcT, x_dput, x_dnewT, x_mkV, x_value, x_lcR1, x_lcL, List.map_cons, List.map_nil, x_yes, x_wipe0, x_wipeS, x_rs, x_callS, x_callKS, x_retN, x_name, x_sub, x_ret, x_next, x_ifS, x_ite, x_iteN, x_T, x_F, x_tT, x_tF, x_op, x_un, x_var0, x_varS, x_c, x_I0, x_I, x_rU, x_nil, x_cons, x_test, x_B, x_bl, x_call, x_CB, x_tup, x_lst, x_not, x_Eq, x_Ne, x_eqII, x_eqSS, x_eqBB,  x_and, x_or, x_andV, x_orV, x_notV, x_if, x_par, x_two, x_drop, x_BM, x_set0, x_setS, x_gcons, x_gnil, x_forL, x_forT, x_forR1, x_forR2, x_forE, x_ref, x_int1, x_oneI, x_oneB, x_noBI, x_twoI, false_or, x_sl, x_noP, x_part, true_and, List.append_nil, cxK, cxKn]; try simp only [V.str.injEq, V.int.injEq, V.bl.injEq])
      refine ⟨p, kvs, rfl, .of hd, fun y bs hy hk2 => ?_⟩
      refine q y _ _ (same_mut s1 (s1.free hy)) upd_same ((tups_keys hk2 ?_).same (same_new hy))
      rw [hk]
      unfold beh
      rw [List.take_of_length_le (by rw [List.length_map, List.length_map]; exact Nat.le_refl _)]
end

end Cc

set_option Elab.async false
set_option linter.all false
set_option maxRecDepth 100000
set_option maxHeartbeats 4000000
namespace Cc
open PySem PySem.Spec PyProof.Rows L2
abbrev s_are_widths : Stmt := topS 4
theorem sc_are_widths : FnScope ["widths", "low", "high"] ["widths"] (defScope s_are_widths) := ⟨rfl, rfl, rfl, by decide +kernel, rfl, by decide +kernel, by decide +kernel⟩
abbrev s_count_functions : Stmt := topS 6
theorem sc_count_functions : FnScope ["widths", "period", "count", "_"] ["widths"] (defScope s_count_functions) := ⟨rfl, rfl, rfl, by decide +kernel, rfl, by decide +kernel, by decide +kernel⟩
section
variable {P : Program} {w : World} {Γ : Gx} {mg : Str → Option Value} {base : Heap} {fI : Nat → Addr} {fd : Nat → FuncData} {C0 : Addr}
def ascW (ws : List Int) : Bool := (List.zip (0 :: ws) ws).all fun p => decide (p.1 < p.2)
def phAreT : Phi := fun _ xs R _ => ∃ ws : List Int, xs = [.d (.tuple (ws.map PyData.int))] ∧ ws.length ≤ 1000 ∧ R (.d (.bool (ascW ws))) 0
def phAreL : Phi := fun _ xs R _ => ∃ ws : List Int, xs = [.d (.list (ws.map PyData.int))] ∧ ws.length ≤ 1000 ∧ R (.d (.bool (ascW ws))) 0
theorem zipA_ints (us ws : List Int) : zipA (us.map PyData.int) (ws.map PyData.int) = (List.zip us ws).map fun p => Cc.A.d (.tuple [.int p.1, .int p.2]) := by
  unfold zipA
  rw [List.zip_map, List.map_map]
  rfl
theorem are_go {R : Cc.A → Nat → Prop} {ws : List Int} {s0 : Sl} (hz : ws.length ≤ 1000) (q : R (Cc.A.d (PyData.bool (ascW ws))) 0) : dAll (List.map Cc.A.d (List.map PyData.int ws) ++ []) fun ds =>
    szL (ds.length + 1) ∧ LcP (zipA (PyData.int 0 :: ds) (List.map PyData.int ws)) (gTp 2 (gsCons (gNm 1) (gsCons (gNm 2) gsNil))) bYes (eOp (pI0 fun i j => PyData.bool (decide (i < j))) (eVar 1) (eVar 2)) [1, 2]
      (fun ds ρ1 => ∃ bs, ds = List.map PyData.bool bs ∧ R (Cc.A.d (PyData.bool (bs.all id))) 0) [s0, Sl.un, Sl.un] := by
  rw [List.append_nil]
  have hsz : szL ((ws.map PyData.int).length + 1) := by
    have h1 : (ws.map PyData.int).length + 1 ≤ 1001 := by
      rw [List.length_map]
      omega
    unfold szL
    rw [sizeLine_eq]
    omega
  refine dAll_map.mpr ⟨hsz, ?_⟩
  rw [show PyData.int 0 :: ws.map PyData.int = (0 :: ws).map PyData.int from rfl, zipA_ints]
  refine compF (xs := List.zip (0 :: ws) ws) (enc := fun p => Cc.A.d (.tuple [.int p.1, .int p.2])) (fun p => some (.bool (decide (p.1 < p.2)))) (fun v hv => by simp only [List.mem_cons, List.not_mem_nil, or_false] at hv; first | (subst hv; exact trivial) | (rcases hv with rfl | rfl <;> exact trivial) | (rcases hv with rfl | rfl | rfl <;> exact trivial)) (by rw [List.length_zip, List.length_cons, sizeLine_eq]; omega) (fun p hp acc K hz hK => ?_) ?_
  · (try simp only [y_var, y_c, y_op, y_un, y_and, y_or, y_not, y_if, y_isN, y_notN, y_bOf, y_bTru, y_bNot, y_bYes, y_aNil, y_aCons, y_aStar, y_tup, y_disp, y_fz, y_cb, y_cat, y_of, y_sl, y_dO0, y_dO1, y_ixN, y_lenN, y_chain, y_call0, y_call, y_callR0, y_next, y_brk, y_cnt, y_asg, y_setO, y_gNm, y_gTp, y_gsNil, y_gsCons, y_subO, y_par, y_aug, y_expr, y_app, y_ext, y_ifS, y_ret, y_retN, y_for, y_while, y_iSeq, y_iTp, y_iR1, y_iR2, y_iEn, y_iZp, y_lc, y_raise, y_un1, y_call, endsX, outX, y_iZpM, y_dT, y_slT, y_divmod, y_aStar, y_par10, y_par01, y_cmpO, Bool.true_eq_false, reduceCtorEq, decide_true, decide_false, ix2_0, ix2_1, ix3_0, ix3_1, ix3_2, LcRun, LpRun, wipeP, restP, noX, dite_true, List.nil_append, List.cons_append, Option.getD_some, Option.getD_none, y_repr, y_tupleL, y_tupleT, y_sum, y_all, y_any, y_eqD, y_neD, y_rev, y_dn, y_orT, y_notT, y_ins, y_bits, y_bAnd, y_bOr, y_rt0, y_rtR, y_nx0, y_rtX, y_nxX, y_exX, inV2, inV3, flatD, vOf, List.all_cons, List.all_nil, Bool.and_self, sz_iff, Nat.reduceAdd, Nat.reduceLeDiff, Nat.zero_add, y_dD, y_dB, y_dI, y_dL, y_dSl, y_dSt, y_dAll0, y_dAllS, dAll_map, y_I0, y_I, y_eqI, y_eqS, y_eqB, y_neI, y_neS, y_neB, y_neg, y_ixL, y_ixT, y_min, y_max, y_abs, y_lenL, y_lenT, y_lenS, y_lenB, y_truL, y_truT, y_inL, y_inT, y_ex1, y_exO, y_exR, at0, at1, at2, at3, isNon, List.getElem?_cons_succ, List.getElem?_cons_zero, List.set_cons_succ, List.set_cons_zero, List.length_cons, List.length_nil, List.map_cons, List.map_nil, true_and, and_true, decide_eq_true_eq, Bool.not_eq_true', Bool.not_true, Bool.not_false, if_true, if_false, Bool.false_eq_true, ite_true, ite_false])
    exact ⟨hz, hK⟩
  · refine ⟨(List.zip (0 :: ws) ws).map fun p => decide (p.1 < p.2), ?_, ?_⟩
    · rw [fm_some, List.map_map]
      rfl
    · unfold ascW at q
      rw [List.all_map]
      exact q
theorem q_are (T : Tx Γ.K mg "are_widths" s_are_widths) (m_all : mg "all" = none) (m_zip : mg "zip" = none) : Pr P w Γ.K mg base CX0 1 "are_widths" ["widths"] (spP Γ false fun n xs R Xx => phAreT n xs R Xx ∨ phAreL n xs R Xx) := by
  refine mkPP2 T sc_are_widths (fun _ _ _ _ _ _ us hl => match us, hl with | [_], _ => rfl) (fun n xs R Xx h => ?_) (fun n xs R Xx h => h) (fun n xs R Xx h => h) (fun f cdv A outer s H E hG hr => ?_) (fun f cdv A outer s H E hG hr => ?_)
  · rcases h with ⟨_, rfl, _⟩ | ⟨_, rfl, _⟩ <;> rfl
  · have nd := sc_are_widths.nd
    refine ⟨_, _, (dss_one (fun h => pss_one h) (ds_ret (fun h => ps_ret h) (de_cb cd_all (fun h => pe_callB (cr_all rfl) (by rfl) m_all (by decide +kernel) h) (da_cons (fun h t => pa_cons h t) (de_fz (dl_comp (own := [("low", 1), ("high", 2)])  rfl nd (di_zp (fun h h' => RZ.pi_zipA (by rfl) m_zip (pa_cons h (pa_cons h' pa_nil))) (de_tup (fun h => pe_tup h) (da_cons (fun h t => pa_cons h t) (de_c pe_int (fun _ => .int _)) (da_star (fun h t => StX.pa_star h t) (de_var (pv 0)) (da_nil pa_nil)))) (de_var (pv 0))) (blkOk_by (own := [("low", 1), ("high", 2)]) (N := ["widths", "low", "high"]) (sc := defScope s_are_widths) (by decide +kernel)) (fun _ _ _ _ _ => (dg_tup (n := 2) (fun h => pg_tup rfl h) (dgs_cons (fun g h => pgs_cons g h) (dg_name (pg_name (i := 1) nd rfl (.inl rfl))) (dgs_cons (fun g h => pgs_cons g h) (dg_name (pg_name (i := 2) nd rfl (.inl rfl))) (dgs_nil pgs_nil))))) (fun _ _ _ _ _ => dts_nil) (fun _ _ _ _ _ => (de_op opd_bl0 (fun h h' => pe_cmpR op_lt h h' (nomark _)) (de_var (pv 1)) (de_var (pv 2)))))) (da_nil pa_nil))))), fun n xs R h => ?_⟩
    obtain ⟨ws, rfl, hz, q⟩ := h
    show (sRet _) [.a (.d (.tuple (ws.map PyData.int))), .un, .un] _
    (try simp only [y_var, y_c, y_op, y_un, y_and, y_or, y_not, y_if, y_isN, y_notN, y_bOf, y_bTru, y_bNot, y_bYes, y_aNil, y_aCons, y_aStar, y_tup, y_disp, y_fz, y_cb, y_cat, y_of, y_sl, y_dO0, y_dO1, y_ixN, y_lenN, y_chain, y_call0, y_call, y_callR0, y_next, y_brk, y_cnt, y_asg, y_setO, y_gNm, y_gTp, y_gsNil, y_gsCons, y_subO, y_par, y_aug, y_expr, y_app, y_ext, y_ifS, y_ret, y_retN, y_for, y_while, y_iSeq, y_iTp, y_iR1, y_iR2, y_iEn, y_iZp, y_lc, y_raise, y_un1, y_call, endsX, outX, y_iZpM, y_dT, y_slT, y_divmod, y_aStar, y_par10, y_par01, y_cmpO, Bool.true_eq_false, reduceCtorEq, decide_true, decide_false, ix2_0, ix2_1, ix3_0, ix3_1, ix3_2, LcRun, LpRun, wipeP, restP, noX, dite_true, List.nil_append, List.cons_append, Option.getD_some, Option.getD_none, y_repr, y_tupleL, y_tupleT, y_sum, y_all, y_any, y_eqD, y_neD, y_rev, y_dn, y_orT, y_notT, y_ins, y_bits, y_bAnd, y_bOr, y_rt0, y_rtR, y_nx0, y_rtX, y_nxX, y_exX, inV2, inV3, flatD, vOf, List.all_cons, List.all_nil, Bool.and_self, sz_iff, Nat.reduceAdd, Nat.reduceLeDiff, Nat.zero_add, y_dD, y_dB, y_dI, y_dL, y_dSl, y_dSt, y_dAll0, y_dAllS, dAll_map, y_I0, y_I, y_eqI, y_eqS, y_eqB, y_neI, y_neS, y_neB, y_neg, y_ixL, y_ixT, y_min, y_max, y_abs, y_lenL, y_lenT, y_lenS, y_lenB, y_truL, y_truT, y_inL, y_inT, y_ex1, y_exO, y_exR, at0, at1, at2, at3, isNon, List.getElem?_cons_succ, List.getElem?_cons_zero, List.set_cons_succ, List.set_cons_zero, List.length_cons, List.length_nil, List.map_cons, List.map_nil, true_and, and_true, decide_eq_true_eq, Bool.not_eq_true', Bool.not_true, Bool.not_false, if_true, if_false, Bool.false_eq_true, ite_true, ite_false])
    exact are_go hz q
  · have nd := sc_are_widths.nd
    refine ⟨_, _, (dss_one (fun h => pss_one h) (ds_ret (fun h => ps_ret h) (de_cb cd_all (fun h => pe_callB (cr_all rfl) (by rfl) m_all (by decide +kernel) h) (da_cons (fun h t => pa_cons h t) (de_fz (dl_comp (own := [("low", 1), ("high", 2)])  rfl nd (di_zpM (by exact fun h h' => pi_zipM (by rfl) m_zip (pa_cons h (pa_cons h' pa_nil))) (de_tup (fun h => pe_tup h) (da_cons (fun h t => pa_cons h t) (de_c pe_int (fun _ => .int _)) (da_star (fun h t => StX.pa_star h t) (de_var (pv 0)) (da_nil pa_nil)))) (de_var (pv 0))) (blkOk_by (own := [("low", 1), ("high", 2)]) (N := ["widths", "low", "high"]) (sc := defScope s_are_widths) (by decide +kernel)) (fun _ _ _ _ _ => (dg_tup (n := 2) (fun h => pg_tup rfl h) (dgs_cons (fun g h => pgs_cons g h) (dg_name (pg_name (i := 1) nd rfl (.inl rfl))) (dgs_cons (fun g h => pgs_cons g h) (dg_name (pg_name (i := 2) nd rfl (.inl rfl))) (dgs_nil pgs_nil))))) (fun _ _ _ _ _ => dts_nil) (fun _ _ _ _ _ => (de_op opd_bl0 (fun h h' => pe_cmpR op_lt h h' (nomark _)) (de_var (pv 1)) (de_var (pv 2)))))) (da_nil pa_nil))))), fun n xs R h => ?_⟩
    obtain ⟨ws, rfl, hz, q⟩ := h
    show (sRet _) [.a (.d (.list (ws.map PyData.int))), .un, .un] _
    (try simp only [y_var, y_c, y_op, y_un, y_and, y_or, y_not, y_if, y_isN, y_notN, y_bOf, y_bTru, y_bNot, y_bYes, y_aNil, y_aCons, y_aStar, y_tup, y_disp, y_fz, y_cb, y_cat, y_of, y_sl, y_dO0, y_dO1, y_ixN, y_lenN, y_chain, y_call0, y_call, y_callR0, y_next, y_brk, y_cnt, y_asg, y_setO, y_gNm, y_gTp, y_gsNil, y_gsCons, y_subO, y_par, y_aug, y_expr, y_app, y_ext, y_ifS, y_ret, y_retN, y_for, y_while, y_iSeq, y_iTp, y_iR1, y_iR2, y_iEn, y_iZp, y_lc, y_raise, y_un1, y_call, endsX, outX, y_iZpM, y_dT, y_slT, y_divmod, y_aStar, y_par10, y_par01, y_cmpO, Bool.true_eq_false, reduceCtorEq, decide_true, decide_false, ix2_0, ix2_1, ix3_0, ix3_1, ix3_2, LcRun, LpRun, wipeP, restP, noX, dite_true, List.nil_append, List.cons_append, Option.getD_some, Option.getD_none, y_repr, y_tupleL, y_tupleT, y_sum, y_all, y_any, y_eqD, y_neD, y_rev, y_dn, y_orT, y_notT, y_ins, y_bits, y_bAnd, y_bOr, y_rt0, y_rtR, y_nx0, y_rtX, y_nxX, y_exX, inV2, inV3, flatD, vOf, List.all_cons, List.all_nil, Bool.and_self, sz_iff, Nat.reduceAdd, Nat.reduceLeDiff, Nat.zero_add, y_dD, y_dB, y_dI, y_dL, y_dSl, y_dSt, y_dAll0, y_dAllS, dAll_map, y_I0, y_I, y_eqI, y_eqS, y_eqB, y_neI, y_neS, y_neB, y_neg, y_ixL, y_ixT, y_min, y_max, y_abs, y_lenL, y_lenT, y_lenS, y_lenB, y_truL, y_truT, y_inL, y_inT, y_ex1, y_exO, y_exR, at0, at1, at2, at3, isNon, List.getElem?_cons_succ, List.getElem?_cons_zero, List.set_cons_succ, List.set_cons_zero, List.length_cons, List.length_nil, List.map_cons, List.map_nil, true_and, and_true, decide_eq_true_eq, Bool.not_eq_true', Bool.not_true, Bool.not_false, if_true, if_false, Bool.false_eq_true, ite_true, ite_false])
    exact are_go hz q
theorem asc_head {u : Int} {ws : List Int} (h : ascW (u :: ws) = true) : 1 ≤ u := by
  unfold ascW at h
  rw [List.zip_cons_cons, List.all_cons, Bool.and_eq_true] at h
  have := of_decide_eq_true h.1
  show 1 ≤ u
  have h2 : (0 : Int) < u := this
  omega
theorem pow_cnt {u : Int} (h0 : 0 ≤ u) (h1 : u ≤ 1000) : CPow 1 u := ⟨h0, by omega, by decide⟩
def cntW : List Int → Int
  | [] => 0
  | u :: r => 2 ^ u.toNat * (2 ^ u.toNat - 1) ^ r.length
theorem cut1 {x : PyData} {xs : List PyData} : cutA (x :: xs) (some 1) none = xs := by
  unfold cutA
  simp [HT.sIx]
theorem one_lt2 {u : Int} (h : 1 ≤ u) : (2 : Int) ≤ 2 ^ u.toNat := by
  have := two_mono' (show 1 ≤ u.toNat by omega)
  rwa [Int.pow_one] at this
theorem cnt_bound {u : Int} (h0 : 1 ≤ u) (h1 : u ≤ 1000) : ∀ i : Nat, 0 ≤ (2 : Int) ^ u.toNat * (2 ^ u.toNat - 1) ^ i ∧ (2 : Int) ^ u.toNat * (2 ^ u.toNat - 1) ^ i ≤ 2 ^ (1000 * (i + 1))
  | 0 => by
    have p := two_pos u.toNat
    rw [Int.pow_zero, Int.mul_one]
    exact ⟨by omega, two_mono' (by omega)⟩
  | i + 1 => by
    obtain ⟨a, b⟩ := cnt_bound h0 h1 i
    have p := one_lt2 h0
    have m : (2 : Int) ^ u.toNat ≤ 2 ^ 1000 := two_mono' (by omega)
    rw [Int.pow_succ, ← Int.mul_assoc]
    refine ⟨Int.mul_nonneg a (by omega), ?_⟩
    refine Int.le_trans (Int.mul_le_mul b (show (2 : Int) ^ u.toNat - 1 ≤ 2 ^ 1000 by omega) (by omega) (Int.le_of_lt (two_pos _))) ?_
    rw [← Int.pow_add]
    exact two_mono' (by omega)
theorem abs_lt {x : Int} {n : Nat} (h0 : 0 ≤ x) (h : x ≤ 2 ^ n) : x.natAbs < 2 ^ (n + 1) := by
  have e : ((2 ^ n : Nat) : Int) = 2 ^ n := by norm_cast
  have p : 2 ^ n < 2 ^ (n + 1) := Nat.pow_lt_pow_right (by decide) (by omega)
  omega
theorem cnt_go {R : Cc.A → Nat → Prop} {Xx : Nat → PyData → Nat → Prop} {u : Int} {ws : List Int} {s0 : Sl} (h0 : 1 ≤ u) (h1 : u ≤ 1000) (hl : ws.length ≤ 200) (q : ∀ y3 : Sl, R (Cc.A.d (PyData.int (2 ^ u.toNat * (2 ^ u.toNat - 1) ^ ws.length))) 0) :
    LoopP (List.map Cc.A.d (List.map PyData.int ws)) (gNm 3) (sAsg (eOp (pI CMulW fun i j => PyData.int (i * j)) (eVar 2) (eOp (pI0 fun i j => PyData.int (i - j)) (eVar 1) (eC (PyData.int 1)))) (gNm 2))
      { nx := fun ρ1 =>
          match ρ1[2]? with
          | some (Sl.a x) => outR false R x ρ1
          | some (Sl.own ds) => outR false R (Cc.A.d (PyData.list ds)) (ρ1.set 2 (Sl.a (Cc.A.d (PyData.list ds))))
          | x => False,
        rt := outR false R, bk := fun x => False, ct := fun x => False, ex := outX false Xx }
      [s0, Sl.a (Cc.A.d (PyData.int (2 ^ u.toNat))), Sl.a (Cc.A.d (PyData.int (2 ^ u.toNat))), Sl.un] := by
  refine loop (fun i ρ => ∃ y3, ρ = [s0, .a (.d (.int (2 ^ u.toNat))), .a (.d (.int (2 ^ u.toNat * (2 ^ u.toNat - 1) ^ i))), y3]) ⟨_, by rw [Int.pow_zero, Int.mul_one]⟩ (fun i x ρ hx h => ?_) (fun ρ h => ?_)
  · obtain ⟨y3, rfl⟩ := h
    have hi := (List.getElem?_eq_some_iff.mp hx).1
    rw [List.length_map, List.length_map] at hi
    obtain ⟨a, b⟩ := cnt_bound h0 h1 i
    have p := one_lt2 h0
    have m : (2 : Int) ^ u.toNat ≤ 2 ^ 1000 := two_mono' (by omega)
    (try simp only [y_var, y_c, y_op, y_un, y_and, y_or, y_not, y_if, y_isN, y_notN, y_bOf, y_bTru, y_bNot, y_bYes, y_aNil, y_aCons, y_aStar, y_tup, y_disp, y_fz, y_cb, y_cat, y_of, y_sl, y_dO0, y_dO1, y_ixN, y_lenN, y_chain, y_call0, y_call, y_callR0, y_next, y_brk, y_cnt, y_asg, y_setO, y_gNm, y_gTp, y_gsNil, y_gsCons, y_subO, y_par, y_aug, y_expr, y_app, y_ext, y_ifS, y_ret, y_retN, y_for, y_while, y_iSeq, y_iTp, y_iR1, y_iR2, y_iEn, y_iZp, y_lc, y_raise, y_un1, y_call, endsX, outX, y_iZpM, y_dT, y_slT, y_divmod, y_aStar, y_par10, y_par01, y_cmpO, Bool.true_eq_false, reduceCtorEq, decide_true, decide_false, ix2_0, ix2_1, ix3_0, ix3_1, ix3_2, LcRun, LpRun, wipeP, restP, noX, dite_true, List.nil_append, List.cons_append, Option.getD_some, Option.getD_none, y_repr, y_tupleL, y_tupleT, y_sum, y_all, y_any, y_eqD, y_neD, y_rev, y_dn, y_orT, y_notT, y_ins, y_bits, y_bAnd, y_bOr, y_rt0, y_rtR, y_nx0, y_rtX, y_nxX, y_exX, inV2, inV3, flatD, vOf, List.all_cons, List.all_nil, Bool.and_self, sz_iff, Nat.reduceAdd, Nat.reduceLeDiff, Nat.zero_add, y_dD, y_dB, y_dI, y_dL, y_dSl, y_dSt, y_dAll0, y_dAllS, dAll_map, y_I0, y_I, y_eqI, y_eqS, y_eqB, y_neI, y_neS, y_neB, y_neg, y_ixL, y_ixT, y_min, y_max, y_abs, y_lenL, y_lenT, y_lenS, y_lenB, y_truL, y_truT, y_inL, y_inT, y_ex1, y_exO, y_exR, at0, at1, at2, at3, isNon, List.getElem?_cons_succ, List.getElem?_cons_zero, List.set_cons_succ, List.set_cons_zero, List.length_cons, List.length_nil, List.map_cons, List.map_nil, true_and, and_true, decide_eq_true_eq, Bool.not_eq_true', Bool.not_true, Bool.not_false, if_true, if_false, Bool.false_eq_true, ite_true, ite_false])
    refine ⟨wide_mul (a := 1000 * (i + 1) + 1) (b := 1001) (abs_lt a b) (abs_lt (by omega) (by omega)) (by omega) (by omega) (by omega), .a x, ?_⟩
    rw [Int.mul_assoc, ← Int.pow_succ]
  · obtain ⟨y3, rfl⟩ := h
    rw [List.length_map, List.length_map]
    exact q y3
def phCntT : Phi := fun _ xs R Xx => ∃ ws : List Int, xs = [.d (.tuple (ws.map PyData.int))] ∧ ws.length ≤ 200 ∧ (∀ n ∈ ws, n ≤ 1000) ∧ (ws ≠ [] → ascW ws = true → R (.d (.int (cntW ws))) 0) ∧ (ws = [] ∨ ascW ws = false → Xx 1 .none 0)
def phCntL : Phi := fun _ xs R Xx => ∃ ws : List Int, xs = [.d (.list (ws.map PyData.int))] ∧ ws.length ≤ 200 ∧ (∀ n ∈ ws, n ≤ 1000) ∧ (ws ≠ [] → ascW ws = true → R (.d (.int (cntW ws))) 0) ∧ (ws = [] ∨ ascW ws = false → Xx 1 .none 0)
theorem full1 (n : Nat) : fullSl (n + 1) (some 1) none ↔ False := by
  unfold fullSl HT.sIx
  simp
theorem k_count (T : Tx Γ.K mg "count_functions" s_count_functions) (Y : Cls P w Γ.K mg base Γ.C fI fd C0) (h_are_widths : Pr P w Γ.K mg base CX0 1 "are_widths" ["widths"] (spP Γ false fun n xs R Xx => phAreT n xs R Xx ∨ phAreL n xs R Xx)) :
    PrK P w Γ.K mg base (L2N.CX P w) 3 "count_functions" s_count_functions ["widths"] (spP Γ false fun n xs R Xx => phCntT n xs R Xx ∨ phCntL n xs R Xx) := by
  refine mkPPX2K T sc_count_functions (fun n xs R Xx h => ?_) (fun f cdv A outer s H E hG hr => ?_) (fun f cdv A outer s H E hG hr => ?_)
  · rcases h with ⟨_, rfl, _⟩ | ⟨_, rfl, _⟩ <;> rfl
  · have nd := sc_count_functions.nd
    refine ⟨_, _, (dss_cons (fun h h' => pss_cons h h') (ds_if (fun h a b => ps_if h a b) (dt_pw (fun h => PW.pt h) (dw_or (fun h h' => pw_or h h') (dt_not (fun h => pt_not h) (dt_tru (fun h => pt_truth h (by intro _; rfl)) (de_var (pv 0)))) (dw_or1 (fun h => pw_or1 h) (dt_not (fun h => pt_not h) (dt_val (fun h => pt_val h) (de_call0 (fun h => pe_P h_are_widths hr hG (by rfl) h) (da_cons (fun h t => pa_cons h t) (de_var (pv 0)) (da_nil pa_nil)))))))) (dss_one (fun h => pss_one h) (ds_raise (c := 1) (fun h => ps_rs rfl (L2N.takes_of rfl rfl rfl rfl) (pmk_ex (Y.cls 1) (Y.ini 1) (hr.mono (by decide)) (Y.bi 1) (by rfl) (pa_cons h pa_nil))) (de_c pe_non (fun _ => .non)))) (dss_nil pss_nil)) (dss_cons (fun h h' => pss_cons h h') (ds_set (i := 1) (fun h => ps_set nd rfl (.inl rfl) h) (de_op opd_int (fun h h' => pe_op op_shl h h') (de_c pe_int (fun _ => .int _)) (de_ixN (fun h => pe_ix (ixSK rfl) (pv 0) h (fun _ _ => rfl)) (de_c pe_int (fun _ => .int _))))) (dss_cons (fun h h' => pss_cons h h') (ds_set (i := 2) (fun h => ps_set nd rfl (.inl rfl) h) (de_var (pv 1))) (dss_cons (fun h h' => pss_cons h h') (ds_for (fun hi hg hb => ps_for (passes_of rfl) rfl hi hg hb) (di_tup (fun h => pi_tup h) (de_slT (fun h l u => pe_slice (slTK rfl) h l u) (de_var (pv 0)) (do_some (fun h => po_some h) (de_c pe_int (fun _ => .int _))) (do_none po_none))) (dg_name (pg_name (i := 3) nd rfl (.inl rfl))) (dss_one (fun h => pss_one h) (ds_set (i := 2) (fun h => ps_set nd rfl (.inl rfl) h) (de_op opd_int (fun h h' => pe_op op_mulW h h') (de_var (pv 2)) (de_op opd_int0 (fun h h' => pe_op op_sub h h') (de_var (pv 1)) (de_c pe_int (fun _ => .int _))))))) (dss_one (fun h => pss_one h) (ds_ret (fun h => ps_ret h) (de_var (pv 2)))))))), fun n xs R Xx h => ?_⟩
    obtain ⟨ws, rfl, hz, hb, q, qx⟩ := h
    show (sSeq _ _) [.a (.d (.tuple (ws.map PyData.int))), .un, .un, .un] _
    refine y_cut fun NX hNX => ?_
    (try simp only [y_var, y_c, y_op, y_un, y_and, y_or, y_not, y_if, y_isN, y_notN, y_bOf, y_bTru, y_bNot, y_bYes, y_aNil, y_aCons, y_aStar, y_tup, y_disp, y_fz, y_cb, y_cat, y_of, y_sl, y_dO0, y_dO1, y_ixN, y_lenN, y_chain, y_call0, y_call, y_callR0, y_next, y_brk, y_cnt, y_asg, y_setO, y_gNm, y_gTp, y_gsNil, y_gsCons, y_subO, y_par, y_aug, y_expr, y_app, y_ext, y_ifS, y_ret, y_retN, y_for, y_while, y_iSeq, y_iTp, y_iR1, y_iR2, y_iEn, y_iZp, y_lc, y_raise, y_un1, y_call, endsX, outX, y_iZpM, y_dT, y_slT, y_divmod, y_aStar, y_par10, y_par01, y_cmpO, Bool.true_eq_false, reduceCtorEq, decide_true, decide_false, ix2_0, ix2_1, ix3_0, ix3_1, ix3_2, LcRun, LpRun, wipeP, restP, noX, dite_true, List.nil_append, List.cons_append, Option.getD_some, Option.getD_none, y_repr, y_tupleL, y_tupleT, y_sum, y_all, y_any, y_eqD, y_neD, y_rev, y_dn, y_orT, y_notT, y_ins, y_bits, y_bAnd, y_bOr, y_rt0, y_rtR, y_nx0, y_rtX, y_nxX, y_exX, inV2, inV3, flatD, vOf, List.all_cons, List.all_nil, Bool.and_self, sz_iff, Nat.reduceAdd, Nat.reduceLeDiff, Nat.zero_add, y_dD, y_dB, y_dI, y_dL, y_dSl, y_dSt, y_dAll0, y_dAllS, dAll_map, y_I0, y_I, y_eqI, y_eqS, y_eqB, y_neI, y_neS, y_neB, y_neg, y_ixL, y_ixT, y_min, y_max, y_abs, y_lenL, y_lenT, y_lenS, y_lenB, y_truL, y_truT, y_inL, y_inT, y_ex1, y_exO, y_exR, at0, at1, at2, at3, isNon, List.getElem?_cons_succ, List.getElem?_cons_zero, List.set_cons_succ, List.set_cons_zero, List.length_cons, List.length_nil, List.map_cons, List.map_nil, true_and, and_true, decide_eq_true_eq, Bool.not_eq_true', Bool.not_true, Bool.not_false, if_true, if_false, Bool.false_eq_true, ite_true, ite_false])
    cases ws with
    | nil => exact qx (.inl rfl)
    | cons u ws =>
      rw [if_neg (by simp)]
      refine .inl ⟨u :: ws, rfl, by omega, ?_⟩
      (try simp only [y_var, y_c, y_op, y_un, y_and, y_or, y_not, y_if, y_isN, y_notN, y_bOf, y_bTru, y_bNot, y_bYes, y_aNil, y_aCons, y_aStar, y_tup, y_disp, y_fz, y_cb, y_cat, y_of, y_sl, y_dO0, y_dO1, y_ixN, y_lenN, y_chain, y_call0, y_call, y_callR0, y_next, y_brk, y_cnt, y_asg, y_setO, y_gNm, y_gTp, y_gsNil, y_gsCons, y_subO, y_par, y_aug, y_expr, y_app, y_ext, y_ifS, y_ret, y_retN, y_for, y_while, y_iSeq, y_iTp, y_iR1, y_iR2, y_iEn, y_iZp, y_lc, y_raise, y_un1, y_call, endsX, outX, y_iZpM, y_dT, y_slT, y_divmod, y_aStar, y_par10, y_par01, y_cmpO, Bool.true_eq_false, reduceCtorEq, decide_true, decide_false, ix2_0, ix2_1, ix3_0, ix3_1, ix3_2, LcRun, LpRun, wipeP, restP, noX, dite_true, List.nil_append, List.cons_append, Option.getD_some, Option.getD_none, y_repr, y_tupleL, y_tupleT, y_sum, y_all, y_any, y_eqD, y_neD, y_rev, y_dn, y_orT, y_notT, y_ins, y_bits, y_bAnd, y_bOr, y_rt0, y_rtR, y_nx0, y_rtX, y_nxX, y_exX, inV2, inV3, flatD, vOf, List.all_cons, List.all_nil, Bool.and_self, sz_iff, Nat.reduceAdd, Nat.reduceLeDiff, Nat.zero_add, y_dD, y_dB, y_dI, y_dL, y_dSl, y_dSt, y_dAll0, y_dAllS, dAll_map, y_I0, y_I, y_eqI, y_eqS, y_eqB, y_neI, y_neS, y_neB, y_neg, y_ixL, y_ixT, y_min, y_max, y_abs, y_lenL, y_lenT, y_lenS, y_lenB, y_truL, y_truT, y_inL, y_inT, y_ex1, y_exO, y_exR, at0, at1, at2, at3, isNon, List.getElem?_cons_succ, List.getElem?_cons_zero, List.set_cons_succ, List.set_cons_zero, List.length_cons, List.length_nil, List.map_cons, List.map_nil, true_and, and_true, decide_eq_true_eq, Bool.not_eq_true', Bool.not_true, Bool.not_false, if_true, if_false, Bool.false_eq_true, ite_true, ite_false])
      cases hA : ascW (u :: ws) with
      | false => exact qx (.inr hA)
      | true =>
        rw [if_neg (by decide)]
        have q := q (by simp) hA
        have hu := asc_head hA
        have hu2 := hb u (List.mem_cons_self ..)
        refine hNX _ ?_
        clear hNX NX qx
        refine y_seq.mpr ?_
        (try simp only [y_var, y_c, y_op, y_un, y_and, y_or, y_not, y_if, y_isN, y_notN, y_bOf, y_bTru, y_bNot, y_bYes, y_aNil, y_aCons, y_aStar, y_tup, y_disp, y_fz, y_cb, y_cat, y_of, y_sl, y_dO0, y_dO1, y_ixN, y_lenN, y_chain, y_call0, y_call, y_callR0, y_next, y_brk, y_cnt, y_asg, y_setO, y_gNm, y_gTp, y_gsNil, y_gsCons, y_subO, y_par, y_aug, y_expr, y_app, y_ext, y_ifS, y_ret, y_retN, y_for, y_while, y_iSeq, y_iTp, y_iR1, y_iR2, y_iEn, y_iZp, y_lc, y_raise, y_un1, y_call, endsX, outX, y_iZpM, y_dT, y_slT, y_divmod, y_aStar, y_par10, y_par01, y_cmpO, Bool.true_eq_false, reduceCtorEq, decide_true, decide_false, ix2_0, ix2_1, ix3_0, ix3_1, ix3_2, LcRun, LpRun, wipeP, restP, noX, dite_true, List.nil_append, List.cons_append, Option.getD_some, Option.getD_none, y_repr, y_tupleL, y_tupleT, y_sum, y_all, y_any, y_eqD, y_neD, y_rev, y_dn, y_orT, y_notT, y_ins, y_bits, y_bAnd, y_bOr, y_rt0, y_rtR, y_nx0, y_rtX, y_nxX, y_exX, inV2, inV3, flatD, vOf, List.all_cons, List.all_nil, Bool.and_self, sz_iff, Nat.reduceAdd, Nat.reduceLeDiff, Nat.zero_add, y_dD, y_dB, y_dI, y_dL, y_dSl, y_dSt, y_dAll0, y_dAllS, dAll_map, y_I0, y_I, y_eqI, y_eqS, y_eqB, y_neI, y_neS, y_neB, y_neg, y_ixL, y_ixT, y_min, y_max, y_abs, y_lenL, y_lenT, y_lenS, y_lenB, y_truL, y_truT, y_inL, y_inT, y_ex1, y_exO, y_exR, at0, at1, at2, at3, isNon, List.getElem?_cons_succ, List.getElem?_cons_zero, List.set_cons_succ, List.set_cons_zero, List.length_cons, List.length_nil, List.map_cons, List.map_nil, true_and, and_true, decide_eq_true_eq, Bool.not_eq_true', Bool.not_true, Bool.not_false, if_true, if_false, Bool.false_eq_true, ite_true, ite_false])
        refine ⟨pow_cnt (by omega) hu2, ?_⟩
        rw [Int.one_mul]
        refine y_seq.mpr ?_
        (try simp only [y_var, y_c, y_op, y_un, y_and, y_or, y_not, y_if, y_isN, y_notN, y_bOf, y_bTru, y_bNot, y_bYes, y_aNil, y_aCons, y_aStar, y_tup, y_disp, y_fz, y_cb, y_cat, y_of, y_sl, y_dO0, y_dO1, y_ixN, y_lenN, y_chain, y_call0, y_call, y_callR0, y_next, y_brk, y_cnt, y_asg, y_setO, y_gNm, y_gTp, y_gsNil, y_gsCons, y_subO, y_par, y_aug, y_expr, y_app, y_ext, y_ifS, y_ret, y_retN, y_for, y_while, y_iSeq, y_iTp, y_iR1, y_iR2, y_iEn, y_iZp, y_lc, y_raise, y_un1, y_call, endsX, outX, y_iZpM, y_dT, y_slT, y_divmod, y_aStar, y_par10, y_par01, y_cmpO, Bool.true_eq_false, reduceCtorEq, decide_true, decide_false, ix2_0, ix2_1, ix3_0, ix3_1, ix3_2, LcRun, LpRun, wipeP, restP, noX, dite_true, List.nil_append, List.cons_append, Option.getD_some, Option.getD_none, y_repr, y_tupleL, y_tupleT, y_sum, y_all, y_any, y_eqD, y_neD, y_rev, y_dn, y_orT, y_notT, y_ins, y_bits, y_bAnd, y_bOr, y_rt0, y_rtR, y_nx0, y_rtX, y_nxX, y_exX, inV2, inV3, flatD, vOf, List.all_cons, List.all_nil, Bool.and_self, sz_iff, Nat.reduceAdd, Nat.reduceLeDiff, Nat.zero_add, y_dD, y_dB, y_dI, y_dL, y_dSl, y_dSt, y_dAll0, y_dAllS, dAll_map, y_I0, y_I, y_eqI, y_eqS, y_eqB, y_neI, y_neS, y_neB, y_neg, y_ixL, y_ixT, y_min, y_max, y_abs, y_lenL, y_lenT, y_lenS, y_lenB, y_truL, y_truT, y_inL, y_inT, y_ex1, y_exO, y_exR, at0, at1, at2, at3, isNon, List.getElem?_cons_succ, List.getElem?_cons_zero, List.set_cons_succ, List.set_cons_zero, List.length_cons, List.length_nil, List.map_cons, List.map_nil, true_and, and_true, decide_eq_true_eq, Bool.not_eq_true', Bool.not_true, Bool.not_false, if_true, if_false, Bool.false_eq_true, ite_true, ite_false])
        refine y_seq.mpr ?_
        (try simp only [y_var, y_c, y_op, y_un, y_and, y_or, y_not, y_if, y_isN, y_notN, y_bOf, y_bTru, y_bNot, y_bYes, y_aNil, y_aCons, y_aStar, y_tup, y_disp, y_fz, y_cb, y_cat, y_of, y_sl, y_dO0, y_dO1, y_ixN, y_lenN, y_chain, y_call0, y_call, y_callR0, y_next, y_brk, y_cnt, y_asg, y_setO, y_gNm, y_gTp, y_gsNil, y_gsCons, y_subO, y_par, y_aug, y_expr, y_app, y_ext, y_ifS, y_ret, y_retN, y_for, y_while, y_iSeq, y_iTp, y_iR1, y_iR2, y_iEn, y_iZp, y_lc, y_raise, y_un1, y_call, endsX, outX, y_iZpM, y_dT, y_slT, y_divmod, y_aStar, y_par10, y_par01, y_cmpO, Bool.true_eq_false, reduceCtorEq, decide_true, decide_false, ix2_0, ix2_1, ix3_0, ix3_1, ix3_2, LcRun, LpRun, wipeP, restP, noX, dite_true, List.nil_append, List.cons_append, Option.getD_some, Option.getD_none, y_repr, y_tupleL, y_tupleT, y_sum, y_all, y_any, y_eqD, y_neD, y_rev, y_dn, y_orT, y_notT, y_ins, y_bits, y_bAnd, y_bOr, y_rt0, y_rtR, y_nx0, y_rtX, y_nxX, y_exX, inV2, inV3, flatD, vOf, List.all_cons, List.all_nil, Bool.and_self, sz_iff, Nat.reduceAdd, Nat.reduceLeDiff, Nat.zero_add, y_dD, y_dB, y_dI, y_dL, y_dSl, y_dSt, y_dAll0, y_dAllS, dAll_map, y_I0, y_I, y_eqI, y_eqS, y_eqB, y_neI, y_neS, y_neB, y_neg, y_ixL, y_ixT, y_min, y_max, y_abs, y_lenL, y_lenT, y_lenS, y_lenB, y_truL, y_truT, y_inL, y_inT, y_ex1, y_exO, y_exR, at0, at1, at2, at3, isNon, List.getElem?_cons_succ, List.getElem?_cons_zero, List.set_cons_succ, List.set_cons_zero, List.length_cons, List.length_nil, List.map_cons, List.map_nil, true_and, and_true, decide_eq_true_eq, Bool.not_eq_true', Bool.not_true, Bool.not_false, if_true, if_false, Bool.false_eq_true, ite_true, ite_false])
        refine ⟨by rw [show ∀ n : Nat, fullSl (n + 1) (some 1) none ↔ False from full1]; exact id, ?_⟩
        rw [cut1]
        exact cnt_go (by omega) hu2 (by rw [List.length_cons] at hz; omega) fun y3 => q
  · have nd := sc_count_functions.nd
    refine ⟨_, _, (dss_cons (fun h h' => pss_cons h h') (ds_if (fun h a b => ps_if h a b) (dt_pw (fun h => PW.pt h) (dw_or (fun h h' => pw_or h h') (dt_not (fun h => pt_not h) (dt_tru (fun h => pt_truth h (by intro _; rfl)) (de_var (pv 0)))) (dw_or1 (fun h => pw_or1 h) (dt_not (fun h => pt_not h) (dt_val (fun h => pt_val h) (de_call0 (fun h => pe_P h_are_widths hr hG (by rfl) h) (da_cons (fun h t => pa_cons h t) (de_var (pv 0)) (da_nil pa_nil)))))))) (dss_one (fun h => pss_one h) (ds_raise (c := 1) (fun h => ps_rs rfl (L2N.takes_of rfl rfl rfl rfl) (pmk_ex (Y.cls 1) (Y.ini 1) (hr.mono (by decide)) (Y.bi 1) (by rfl) (pa_cons h pa_nil))) (de_c pe_non (fun _ => .non)))) (dss_nil pss_nil)) (dss_cons (fun h h' => pss_cons h h') (ds_set (i := 1) (fun h => ps_set nd rfl (.inl rfl) h) (de_op opd_int (fun h h' => pe_op op_shl h h') (de_c pe_int (fun _ => .int _)) (de_ixN (fun h => pe_ix (ixSK rfl) (pv 0) h (fun _ _ => rfl)) (de_c pe_int (fun _ => .int _))))) (dss_cons (fun h h' => pss_cons h h') (ds_set (i := 2) (fun h => ps_set nd rfl (.inl rfl) h) (de_var (pv 1))) (dss_cons (fun h h' => pss_cons h h') (ds_for (fun hi hg hb => ps_for (passes_of rfl) rfl hi hg hb) (di_list (fun h => pi_list h) (de_fz (dl_sl (fun h l u => pe_slice (slLK rfl) h l u) (de_var (pv 0)) (do_some (fun h => po_some h) (de_c pe_int (fun _ => .int _))) (do_none po_none)))) (dg_name (pg_name (i := 3) nd rfl (.inl rfl))) (dss_one (fun h => pss_one h) (ds_set (i := 2) (fun h => ps_set nd rfl (.inl rfl) h) (de_op opd_int (fun h h' => pe_op op_mulW h h') (de_var (pv 2)) (de_op opd_int0 (fun h h' => pe_op op_sub h h') (de_var (pv 1)) (de_c pe_int (fun _ => .int _))))))) (dss_one (fun h => pss_one h) (ds_ret (fun h => ps_ret h) (de_var (pv 2)))))))), fun n xs R Xx h => ?_⟩
    obtain ⟨ws, rfl, hz, hb, q, qx⟩ := h
    show (sSeq _ _) [.a (.d (.list (ws.map PyData.int))), .un, .un, .un] _
    refine y_cut fun NX hNX => ?_
    (try simp only [y_var, y_c, y_op, y_un, y_and, y_or, y_not, y_if, y_isN, y_notN, y_bOf, y_bTru, y_bNot, y_bYes, y_aNil, y_aCons, y_aStar, y_tup, y_disp, y_fz, y_cb, y_cat, y_of, y_sl, y_dO0, y_dO1, y_ixN, y_lenN, y_chain, y_call0, y_call, y_callR0, y_next, y_brk, y_cnt, y_asg, y_setO, y_gNm, y_gTp, y_gsNil, y_gsCons, y_subO, y_par, y_aug, y_expr, y_app, y_ext, y_ifS, y_ret, y_retN, y_for, y_while, y_iSeq, y_iTp, y_iR1, y_iR2, y_iEn, y_iZp, y_lc, y_raise, y_un1, y_call, endsX, outX, y_iZpM, y_dT, y_slT, y_divmod, y_aStar, y_par10, y_par01, y_cmpO, Bool.true_eq_false, reduceCtorEq, decide_true, decide_false, ix2_0, ix2_1, ix3_0, ix3_1, ix3_2, LcRun, LpRun, wipeP, restP, noX, dite_true, List.nil_append, List.cons_append, Option.getD_some, Option.getD_none, y_repr, y_tupleL, y_tupleT, y_sum, y_all, y_any, y_eqD, y_neD, y_rev, y_dn, y_orT, y_notT, y_ins, y_bits, y_bAnd, y_bOr, y_rt0, y_rtR, y_nx0, y_rtX, y_nxX, y_exX, inV2, inV3, flatD, vOf, List.all_cons, List.all_nil, Bool.and_self, sz_iff, Nat.reduceAdd, Nat.reduceLeDiff, Nat.zero_add, y_dD, y_dB, y_dI, y_dL, y_dSl, y_dSt, y_dAll0, y_dAllS, dAll_map, y_I0, y_I, y_eqI, y_eqS, y_eqB, y_neI, y_neS, y_neB, y_neg, y_ixL, y_ixT, y_min, y_max, y_abs, y_lenL, y_lenT, y_lenS, y_lenB, y_truL, y_truT, y_inL, y_inT, y_ex1, y_exO, y_exR, at0, at1, at2, at3, isNon, List.getElem?_cons_succ, List.getElem?_cons_zero, List.set_cons_succ, List.set_cons_zero, List.length_cons, List.length_nil, List.map_cons, List.map_nil, true_and, and_true, decide_eq_true_eq, Bool.not_eq_true', Bool.not_true, Bool.not_false, if_true, if_false, Bool.false_eq_true, ite_true, ite_false])
    cases ws with
    | nil => exact qx (.inl rfl)
    | cons u ws =>
      rw [if_neg (by simp)]
      refine .inr ⟨u :: ws, rfl, by omega, ?_⟩
      (try simp only [y_var, y_c, y_op, y_un, y_and, y_or, y_not, y_if, y_isN, y_notN, y_bOf, y_bTru, y_bNot, y_bYes, y_aNil, y_aCons, y_aStar, y_tup, y_disp, y_fz, y_cb, y_cat, y_of, y_sl, y_dO0, y_dO1, y_ixN, y_lenN, y_chain, y_call0, y_call, y_callR0, y_next, y_brk, y_cnt, y_asg, y_setO, y_gNm, y_gTp, y_gsNil, y_gsCons, y_subO, y_par, y_aug, y_expr, y_app, y_ext, y_ifS, y_ret, y_retN, y_for, y_while, y_iSeq, y_iTp, y_iR1, y_iR2, y_iEn, y_iZp, y_lc, y_raise, y_un1, y_call, endsX, outX, y_iZpM, y_dT, y_slT, y_divmod, y_aStar, y_par10, y_par01, y_cmpO, Bool.true_eq_false, reduceCtorEq, decide_true, decide_false, ix2_0, ix2_1, ix3_0, ix3_1, ix3_2, LcRun, LpRun, wipeP, restP, noX, dite_true, List.nil_append, List.cons_append, Option.getD_some, Option.getD_none, y_repr, y_tupleL, y_tupleT, y_sum, y_all, y_any, y_eqD, y_neD, y_rev, y_dn, y_orT, y_notT, y_ins, y_bits, y_bAnd, y_bOr, y_rt0, y_rtR, y_nx0, y_rtX, y_nxX, y_exX, inV2, inV3, flatD, vOf, List.all_cons, List.all_nil, Bool.and_self, sz_iff, Nat.reduceAdd, Nat.reduceLeDiff, Nat.zero_add, y_dD, y_dB, y_dI, y_dL, y_dSl, y_dSt, y_dAll0, y_dAllS, dAll_map, y_I0, y_I, y_eqI, y_eqS, y_eqB, y_neI, y_neS, y_neB, y_neg, y_ixL, y_ixT, y_min, y_max, y_abs, y_lenL, y_lenT, y_lenS, y_lenB, y_truL, y_truT, y_inL, y_inT, y_ex1, y_exO, y_exR, at0, at1, at2, at3, isNon, List.getElem?_cons_succ, List.getElem?_cons_zero, List.set_cons_succ, List.set_cons_zero, List.length_cons, List.length_nil, List.map_cons, List.map_nil, true_and, and_true, decide_eq_true_eq, Bool.not_eq_true', Bool.not_true, Bool.not_false, if_true, if_false, Bool.false_eq_true, ite_true, ite_false])
      cases hA : ascW (u :: ws) with
      | false => exact qx (.inr hA)
      | true =>
        rw [if_neg (by decide)]
        have q := q (by simp) hA
        have hu := asc_head hA
        have hu2 := hb u (List.mem_cons_self ..)
        refine hNX _ ?_
        clear hNX NX qx
        refine y_seq.mpr ?_
        (try simp only [y_var, y_c, y_op, y_un, y_and, y_or, y_not, y_if, y_isN, y_notN, y_bOf, y_bTru, y_bNot, y_bYes, y_aNil, y_aCons, y_aStar, y_tup, y_disp, y_fz, y_cb, y_cat, y_of, y_sl, y_dO0, y_dO1, y_ixN, y_lenN, y_chain, y_call0, y_call, y_callR0, y_next, y_brk, y_cnt, y_asg, y_setO, y_gNm, y_gTp, y_gsNil, y_gsCons, y_subO, y_par, y_aug, y_expr, y_app, y_ext, y_ifS, y_ret, y_retN, y_for, y_while, y_iSeq, y_iTp, y_iR1, y_iR2, y_iEn, y_iZp, y_lc, y_raise, y_un1, y_call, endsX, outX, y_iZpM, y_dT, y_slT, y_divmod, y_aStar, y_par10, y_par01, y_cmpO, Bool.true_eq_false, reduceCtorEq, decide_true, decide_false, ix2_0, ix2_1, ix3_0, ix3_1, ix3_2, LcRun, LpRun, wipeP, restP, noX, dite_true, List.nil_append, List.cons_append, Option.getD_some, Option.getD_none, y_repr, y_tupleL, y_tupleT, y_sum, y_all, y_any, y_eqD, y_neD, y_rev, y_dn, y_orT, y_notT, y_ins, y_bits, y_bAnd, y_bOr, y_rt0, y_rtR, y_nx0, y_rtX, y_nxX, y_exX, inV2, inV3, flatD, vOf, List.all_cons, List.all_nil, Bool.and_self, sz_iff, Nat.reduceAdd, Nat.reduceLeDiff, Nat.zero_add, y_dD, y_dB, y_dI, y_dL, y_dSl, y_dSt, y_dAll0, y_dAllS, dAll_map, y_I0, y_I, y_eqI, y_eqS, y_eqB, y_neI, y_neS, y_neB, y_neg, y_ixL, y_ixT, y_min, y_max, y_abs, y_lenL, y_lenT, y_lenS, y_lenB, y_truL, y_truT, y_inL, y_inT, y_ex1, y_exO, y_exR, at0, at1, at2, at3, isNon, List.getElem?_cons_succ, List.getElem?_cons_zero, List.set_cons_succ, List.set_cons_zero, List.length_cons, List.length_nil, List.map_cons, List.map_nil, true_and, and_true, decide_eq_true_eq, Bool.not_eq_true', Bool.not_true, Bool.not_false, if_true, if_false, Bool.false_eq_true, ite_true, ite_false])
        refine ⟨pow_cnt (by omega) hu2, ?_⟩
        rw [Int.one_mul]
        refine y_seq.mpr ?_
        (try simp only [y_var, y_c, y_op, y_un, y_and, y_or, y_not, y_if, y_isN, y_notN, y_bOf, y_bTru, y_bNot, y_bYes, y_aNil, y_aCons, y_aStar, y_tup, y_disp, y_fz, y_cb, y_cat, y_of, y_sl, y_dO0, y_dO1, y_ixN, y_lenN, y_chain, y_call0, y_call, y_callR0, y_next, y_brk, y_cnt, y_asg, y_setO, y_gNm, y_gTp, y_gsNil, y_gsCons, y_subO, y_par, y_aug, y_expr, y_app, y_ext, y_ifS, y_ret, y_retN, y_for, y_while, y_iSeq, y_iTp, y_iR1, y_iR2, y_iEn, y_iZp, y_lc, y_raise, y_un1, y_call, endsX, outX, y_iZpM, y_dT, y_slT, y_divmod, y_aStar, y_par10, y_par01, y_cmpO, Bool.true_eq_false, reduceCtorEq, decide_true, decide_false, ix2_0, ix2_1, ix3_0, ix3_1, ix3_2, LcRun, LpRun, wipeP, restP, noX, dite_true, List.nil_append, List.cons_append, Option.getD_some, Option.getD_none, y_repr, y_tupleL, y_tupleT, y_sum, y_all, y_any, y_eqD, y_neD, y_rev, y_dn, y_orT, y_notT, y_ins, y_bits, y_bAnd, y_bOr, y_rt0, y_rtR, y_nx0, y_rtX, y_nxX, y_exX, inV2, inV3, flatD, vOf, List.all_cons, List.all_nil, Bool.and_self, sz_iff, Nat.reduceAdd, Nat.reduceLeDiff, Nat.zero_add, y_dD, y_dB, y_dI, y_dL, y_dSl, y_dSt, y_dAll0, y_dAllS, dAll_map, y_I0, y_I, y_eqI, y_eqS, y_eqB, y_neI, y_neS, y_neB, y_neg, y_ixL, y_ixT, y_min, y_max, y_abs, y_lenL, y_lenT, y_lenS, y_lenB, y_truL, y_truT, y_inL, y_inT, y_ex1, y_exO, y_exR, at0, at1, at2, at3, isNon, List.getElem?_cons_succ, List.getElem?_cons_zero, List.set_cons_succ, List.set_cons_zero, List.length_cons, List.length_nil, List.map_cons, List.map_nil, true_and, and_true, decide_eq_true_eq, Bool.not_eq_true', Bool.not_true, Bool.not_false, if_true, if_false, Bool.false_eq_true, ite_true, ite_false])
        refine y_seq.mpr ?_
        (try simp only [y_var, y_c, y_op, y_un, y_and, y_or, y_not, y_if, y_isN, y_notN, y_bOf, y_bTru, y_bNot, y_bYes, y_aNil, y_aCons, y_aStar, y_tup, y_disp, y_fz, y_cb, y_cat, y_of, y_sl, y_dO0, y_dO1, y_ixN, y_lenN, y_chain, y_call0, y_call, y_callR0, y_next, y_brk, y_cnt, y_asg, y_setO, y_gNm, y_gTp, y_gsNil, y_gsCons, y_subO, y_par, y_aug, y_expr, y_app, y_ext, y_ifS, y_ret, y_retN, y_for, y_while, y_iSeq, y_iTp, y_iR1, y_iR2, y_iEn, y_iZp, y_lc, y_raise, y_un1, y_call, endsX, outX, y_iZpM, y_dT, y_slT, y_divmod, y_aStar, y_par10, y_par01, y_cmpO, Bool.true_eq_false, reduceCtorEq, decide_true, decide_false, ix2_0, ix2_1, ix3_0, ix3_1, ix3_2, LcRun, LpRun, wipeP, restP, noX, dite_true, List.nil_append, List.cons_append, Option.getD_some, Option.getD_none, y_repr, y_tupleL, y_tupleT, y_sum, y_all, y_any, y_eqD, y_neD, y_rev, y_dn, y_orT, y_notT, y_ins, y_bits, y_bAnd, y_bOr, y_rt0, y_rtR, y_nx0, y_rtX, y_nxX, y_exX, inV2, inV3, flatD, vOf, List.all_cons, List.all_nil, Bool.and_self, sz_iff, Nat.reduceAdd, Nat.reduceLeDiff, Nat.zero_add, y_dD, y_dB, y_dI, y_dL, y_dSl, y_dSt, y_dAll0, y_dAllS, dAll_map, y_I0, y_I, y_eqI, y_eqS, y_eqB, y_neI, y_neS, y_neB, y_neg, y_ixL, y_ixT, y_min, y_max, y_abs, y_lenL, y_lenT, y_lenS, y_lenB, y_truL, y_truT, y_inL, y_inT, y_ex1, y_exO, y_exR, at0, at1, at2, at3, isNon, List.getElem?_cons_succ, List.getElem?_cons_zero, List.set_cons_succ, List.set_cons_zero, List.length_cons, List.length_nil, List.map_cons, List.map_nil, true_and, and_true, decide_eq_true_eq, Bool.not_eq_true', Bool.not_true, Bool.not_false, if_true, if_false, Bool.false_eq_true, ite_true, ite_false])
        rw [cut1]
        exact cnt_go (by omega) hu2 (by rw [List.length_cons] at hz; omega) fun y3 => q
end

end Cc

set_option Elab.async false
set_option linter.all false
set_option maxRecDepth 100000
set_option maxHeartbeats 4000000
namespace Cc
open PySem PySem.Spec PyProof.Rows L2
abbrev s_law_bits : Stmt := topS 9
theorem sc_law_bits : FnScope ["amount", "found"] ["amount"] (defScope s_law_bits) := ⟨rfl, rfl, rfl, by decide +kernel, rfl, by decide +kernel, by decide +kernel⟩
abbrev s_law_number : Stmt := topS 11
theorem sc_law_number : FnScope ["sizes", "period", "found", "wide", "one", "results"] ["sizes"] (defScope s_law_number) := ⟨rfl, rfl, rfl, by decide +kernel, rfl, by decide +kernel, by decide +kernel⟩
section
variable {P : Program} {w : World} {Γ : Gx} {mg : Str → Option Value} {base : Heap}
def phPow : Phi := fun _ xs R _ => ∃ m : Int, xs = [.d (.int m)] ∧ 0 ≤ m ∧ m ≤ 5000 ∧ R (.d (.int (2 ^ m.toNat))) 0
theorem q_power (h : Pr P w Γ.K mg base CX0 1 "_law_power" ["many"] spPow) : Pr P w Γ.K mg base CX0 1 "_law_power" ["many"] (spP Γ false phPow) := by
  refine Pr.pure0 (Γ := Γ) h fun n us xs F RR Xx Q E hr q o => ?_
  obtain ⟨m, rfl, m0, m1, q⟩ := q
  obtain ⟨u, rfl, r1⟩ := rp1 hr
  cases r1
  exact ⟨m, rfl, m0, m1, o _ _ _ (Same.refl _) q (.int _) trivial⟩
def phBeh : Phi := fun _ xs R _ => ∃ (ks : List (List Int)) (wd : Int), xs = [.d (.list (ks.map tupI)), .d (.int wd)] ∧ 0 ≤ wd ∧ wd ≤ 10 ∧ (∀ k ∈ ks, k.length ≤ 1000) ∧ ks.length ≤ 1000 ∧ R (.d (.list ((beh (2 ^ wd.toNat) ks).map tupI))) 0
theorem tups_dq {K : PySem.W.Frag} {H : Hp} {xs : List V} {ks : List (List Int)} (h : TupsAt K H xs ks) : DqAll K H xs (ks.map tupI) := by
  obtain ⟨ps, rfl, rfl, h⟩ := h
  induction ps with
  | nil => exact .nil
  | cons p ps ih => exact .cons (.tup (h p (List.mem_cons_self ..)) (dqA_ints _)) (ih fun q hq => h q (List.mem_cons_of_mem _ hq))
theorem q_behind (h : Pr P w Γ.K mg base CX0 2 "_law_behind" ["found", "wide"] (spBeh Γ.K)) : Pr P w Γ.K mg base CX0 2 "_law_behind" ["found", "wide"] (spP Γ false phBeh) := by
  refine Pr.pure0 (Γ := Γ) h fun n us xs F RR Xx Q E hr q o => ?_
  obtain ⟨ks, wd, rfl, w0, w1, hk, hl, q⟩ := q
  match us, hr with
  | [u1, u2], ⟨r1, r2, _⟩ =>
    cases r2
    cases r1 with
    | lst hs ha =>
      obtain ⟨ps, rfl, rfl, ht⟩ := dq_tups ha
      exact ⟨_, _, _, wd, rfl, .of hs, ⟨ps, rfl, rfl, ht⟩, w0, w1, hk, hl, fun p ys H' s hp ht' => o _ _ _ s q (.lst hp (tups_dq ht')) trivial⟩
/-- the bit length, with fuel -/
def blF : Nat → Nat → Nat
  | 0, _ => 0
  | f + 1, m => if m = 0 then 0 else 1 + blF f (m / 2)
theorem blF_zero : ∀ f, blF f 0 = 0
  | 0 => rfl
  | _ + 1 => rfl
def phBits : Phi := fun _ xs R _ => ∃ n : Nat, xs = [.d (.int (n : Nat))] ∧ n < 2 ^ 64 ∧ R (.d (.int (blF 64 n : Nat))) 0
theorem q_bits (T : Tx Γ.K mg "_law_bits" s_law_bits) : Pr P w Γ.K mg base CX0 1 "_law_bits" ["amount"] (spP Γ false phBits) := by
  refine mkPP T sc_law_bits (fun _ _ _ _ _ _ us hl => match us, hl with | [_], _ => rfl) (fun n xs R Xx h => ?_) (fun n xs R Xx h => h) (fun f cdv A outer s H E hG hr => ?_)
  · obtain ⟨_, rfl, _⟩ := h
    rfl
  · have nd := sc_law_bits.nd
    refine ⟨_, _, (dss_cons (fun h h' => pss_cons h h') (ds_set (i := 1) (fun h => ps_set nd rfl (.inl rfl) h) (de_c pe_int (fun _ => .int _))) (dss_cons (fun h h' => pss_cons h h') (ds_while (fun h hb => ps_while PassesOwn.never h hb) (dt_cmp opd_bl0 (fun h h' => pt_cmpR op_gt h h' (nomark _)) (de_var (pv 0)) (de_c pe_int (fun _ => .int _))) (dss_one (fun h => pss_one h) (ds_par (i := 1) (j := 0) (fun h => ps_par (by rfl) nd rfl rfl (by decide) rfl rfl h (by rfl)) (da_cons (fun h t => pa_cons h t) (de_op opd_int0 (fun h h' => pe_op op_add h h') (de_var (pv 1)) (de_c pe_int (fun _ => .int _))) (da_cons (fun h t => pa_cons h t) (de_op opd_int (fun h h' => pe_op op_fdivW h h') (de_var (pv 0)) (de_c pe_int (fun _ => .int _))) (da_nil pa_nil)))))) (dss_one (fun h => pss_one h) (ds_ret (fun h => ps_ret h) (de_var (pv 1)))))), fun n xs R h => ?_⟩
    obtain ⟨m, rfl, hm, q⟩ := h
    show (sSeq _ _) [.a (.d (.int (m : Nat))), .un] _
    refine y_seq.mpr ?_
    (try simp only [y_var, y_c, y_op, y_un, y_and, y_or, y_not, y_if, y_isN, y_notN, y_bOf, y_bTru, y_bNot, y_bYes, y_aNil, y_aCons, y_aStar, y_tup, y_disp, y_fz, y_cb, y_cat, y_of, y_sl, y_dO0, y_dO1, y_ixN, y_lenN, y_chain, y_call0, y_call, y_callR0, y_next, y_brk, y_cnt, y_asg, y_setO, y_gNm, y_gTp, y_gsNil, y_gsCons, y_subO, y_par, y_aug, y_expr, y_app, y_ext, y_ifS, y_ret, y_retN, y_for, y_while, y_iSeq, y_iTp, y_iR1, y_iR2, y_iEn, y_iZp, y_lc, y_raise, y_un1, y_maxT, y_minT, y_tupRg, y_lenSet, y_call, endsX, outX, y_iZpM, y_dT, y_slT, y_divmod, y_aStar, y_par10, y_par01, y_cmpO, Bool.true_eq_false, reduceCtorEq, decide_true, decide_false, ix2_0, ix2_1, ix3_0, ix3_1, ix3_2, LcRun, LpRun, wipeP, restP, noX, dite_true, List.nil_append, List.cons_append, Option.getD_some, Option.getD_none, y_repr, y_tupleL, y_tupleT, y_sum, y_all, y_any, y_eqD, y_neD, y_rev, y_dn, y_orT, y_notT, y_ins, y_bits, y_bAnd, y_bOr, y_rt0, y_rtR, y_nx0, y_rtX, y_nxX, y_exX, inV2, inV3, flatD, vOf, List.all_cons, List.all_nil, Bool.and_self, sz_iff, Nat.reduceAdd, Nat.reduceLeDiff, Nat.zero_add, y_dD, y_dB, y_dI, y_dL, y_dSl, y_dSt, y_dAll0, y_dAllS, dAll_map, y_I0, y_I, y_eqI, y_eqS, y_eqB, y_neI, y_neS, y_neB, y_neg, y_ixL, y_ixT, y_min, y_max, y_abs, y_lenL, y_lenT, y_lenS, y_lenB, y_truL, y_truT, y_inL, y_inT, y_ex1, y_exO, y_exR, at0, at1, at2, at3, isNon, List.getElem?_cons_succ, List.getElem?_cons_zero, List.set_cons_succ, List.set_cons_zero, List.length_cons, List.length_nil, List.map_cons, List.map_nil, true_and, and_true, decide_eq_true_eq, Bool.not_eq_true', Bool.not_true, Bool.not_false, if_true, if_false, Bool.false_eq_true, ite_true, ite_false])
    refine y_seq.mpr ?_
    refine y_while.mpr ⟨fun f ρ => ∃ a c : Nat, ρ = [.a (.d (.int (a : Nat))), .a (.d (.int (c : Nat)))] ∧ a < 2 ^ f ∧ c + blF f a = blF 64 m, ⟨64, m, 0, rfl, hm, by rw [Nat.zero_add]⟩, ?_⟩
    rintro f ρ ⟨a, c, rfl, ha, hc⟩
    (try simp only [y_var, y_c, y_op, y_un, y_and, y_or, y_not, y_if, y_isN, y_notN, y_bOf, y_bTru, y_bNot, y_bYes, y_aNil, y_aCons, y_aStar, y_tup, y_disp, y_fz, y_cb, y_cat, y_of, y_sl, y_dO0, y_dO1, y_ixN, y_lenN, y_chain, y_call0, y_call, y_callR0, y_next, y_brk, y_cnt, y_asg, y_setO, y_gNm, y_gTp, y_gsNil, y_gsCons, y_subO, y_par, y_aug, y_expr, y_app, y_ext, y_ifS, y_ret, y_retN, y_for, y_while, y_iSeq, y_iTp, y_iR1, y_iR2, y_iEn, y_iZp, y_lc, y_raise, y_un1, y_maxT, y_minT, y_tupRg, y_lenSet, y_call, endsX, outX, y_iZpM, y_dT, y_slT, y_divmod, y_aStar, y_par10, y_par01, y_cmpO, Bool.true_eq_false, reduceCtorEq, decide_true, decide_false, ix2_0, ix2_1, ix3_0, ix3_1, ix3_2, LcRun, LpRun, wipeP, restP, noX, dite_true, List.nil_append, List.cons_append, Option.getD_some, Option.getD_none, y_repr, y_tupleL, y_tupleT, y_sum, y_all, y_any, y_eqD, y_neD, y_rev, y_dn, y_orT, y_notT, y_ins, y_bits, y_bAnd, y_bOr, y_rt0, y_rtR, y_nx0, y_rtX, y_nxX, y_exX, inV2, inV3, flatD, vOf, List.all_cons, List.all_nil, Bool.and_self, sz_iff, Nat.reduceAdd, Nat.reduceLeDiff, Nat.zero_add, y_dD, y_dB, y_dI, y_dL, y_dSl, y_dSt, y_dAll0, y_dAllS, dAll_map, y_I0, y_I, y_eqI, y_eqS, y_eqB, y_neI, y_neS, y_neB, y_neg, y_ixL, y_ixT, y_min, y_max, y_abs, y_lenL, y_lenT, y_lenS, y_lenB, y_truL, y_truT, y_inL, y_inT, y_ex1, y_exO, y_exR, at0, at1, at2, at3, isNon, List.getElem?_cons_succ, List.getElem?_cons_zero, List.set_cons_succ, List.set_cons_zero, List.length_cons, List.length_nil, List.map_cons, List.map_nil, true_and, and_true, decide_eq_true_eq, Bool.not_eq_true', Bool.not_true, Bool.not_false, if_true, if_false, Bool.false_eq_true, ite_true, ite_false])
    by_cases h0 : 0 < (a : Int)
    · rw [if_pos h0]
      cases f with
      | zero => exfalso; rw [Nat.pow_zero] at ha; omega
      | succ f =>
        refine ⟨⟨by decide, by decide⟩, f, Nat.lt_succ_self _, a / 2, c + 1, rfl, ?_, ?_⟩
        · rw [Nat.pow_succ] at ha
          omega
        · rw [← hc]
          show _ = c + (if a = 0 then 0 else 1 + blF f (a / 2))
          rw [if_neg (by omega)]
          omega
    · rw [if_neg h0]
      have : a = 0 := by omega
      subst this
      rw [blF_zero, Nat.add_zero] at hc
      rw [hc]
      exact q
end
section
variable {P : Program} {w : World} {Γ : Gx} {mg : Str → Option Value} {base : Heap}
def tMax : List Int → Int
  | [] => 0
  | n :: ns => ns.foldl max n
def tMin : List Int → Int
  | [] => 0
  | n :: ns => ns.foldl min n
def rngT (k : List Int) : Nat := (tMax k - tMin k).toNat
def wideOk (wd : Int) (k : List Int) : Bool := decide ((blF 64 (rngT k) : Int) = wd)
def stepV (f : List (List Int)) (wd : Int) : List (List Int) := (beh (2 ^ wd.toNat) f).filter (wideOk wd)
def okT (k : List Int) : Bool := !k.isEmpty && decide (k.length ≤ 1000) && decide (tMin k ≤ tMax k) && decide (rngT k < 2 ^ 64)
def okK (f : List (List Int)) (wd : Int) : Bool := decide (0 ≤ wd) && decide (wd ≤ 10) && f.all (fun k => decide (k.length ≤ 1000)) && decide (f.length ≤ 1000)
def okStep (f : List (List Int)) (wd : Int) : Bool := okK f wd && (beh (2 ^ wd.toNat) f).all okT && decide ((beh (2 ^ wd.toNat) f).length ≤ 1000)
def okRun : List Int → List (List Int) → Bool
  | [], f => f.all okT && decide (f.length ≤ 1000)
  | wd :: r, f => okStep f wd && okRun r (stepV f wd)
def range0 (n : Nat) : List Int := (List.range n).map fun i => ((i : Nat) : Int)
def first0 (u : Int) : List (List Int) := beh (2 ^ u.toNat) [range0 (2 ^ u.toNat)]
def lowerT (k : List Int) : List Int := k.map fun x => x - tMin k
def ddup (ks : List (List Int)) : List (List Int) := ks.foldl putL []
def numV : List Int → Int
  | [] => 0
  | u :: r => ((ddup ((r.foldl stepV (first0 u)).map lowerT)).length : Nat)
def numOk : List Int → Bool
  | [] => false
  | u :: r => okK [range0 (2 ^ u.toNat)] u && okRun r (first0 u) && decide ((ddup ((r.foldl stepV (first0 u)).map lowerT)).length + 1 < 64)
theorem fmF {α β : Type} {p : α → Bool} {f : α → β} : ∀ {l : List α}, (l.filterMap fun k => if p k = true then some (f k) else none) = (l.filter p).map f
  | [] => rfl
  | a :: l => by
    rw [List.filterMap_cons, List.filter_cons]
    cases p a with
    | true => simp only [if_pos, List.map_cons]; rw [← fmF]
    | false => simp only [Bool.false_eq_true, if_false]; exact fmF
theorem nodup_le {α : Type} [DecidableEq α] : ∀ {L D : List α}, L.Nodup → (∀ x ∈ L, x ∈ D) → L.length ≤ D.length
  | [], _, _, _ => Nat.zero_le _
  | a :: l, D, hn, hs => by
    obtain ⟨h1, h2⟩ := List.nodup_cons.mp hn
    have i := nodup_le (D := D.erase a) h2 fun x hx => (List.mem_erase_of_ne fun e => h1 (by rw [← e]; exact hx)).mpr (hs x (List.mem_cons_of_mem _ hx))
    have ha := hs a (List.mem_cons_self ..)
    have hp := List.length_pos_of_mem ha
    rw [List.length_erase_of_mem ha] at i
    rw [List.length_cons]
    omega
theorem putL_mem {acc : List (List Int)} {k x : List Int} : x ∈ putL acc k ↔ x ∈ acc ∨ x = k := by
  unfold putL
  split
  · rename_i h
    exact ⟨.inl, fun q => q.elim id fun e => by rw [e]; exact h⟩
  · rw [List.mem_append, List.mem_singleton]
theorem putL_nd {acc : List (List Int)} {k : List Int} (h : acc.Nodup) : (putL acc k).Nodup := by
  unfold putL
  split
  · exact h
  · rename_i hk
    rw [List.nodup_append]
    refine ⟨h, by simp, fun a ha b hb e => hk ?_⟩
    rw [List.mem_singleton] at hb
    rw [← hb, ← e]
    exact ha
theorem fold_mem {x : List Int} : ∀ {ks acc : List (List Int)}, x ∈ ks.foldl putL acc ↔ x ∈ acc ∨ x ∈ ks
  | [], acc => by simp
  | k :: ks, acc => by rw [List.foldl_cons, fold_mem, putL_mem, List.mem_cons, or_assoc]
theorem ddup_mem {x : List Int} {ks : List (List Int)} : x ∈ ddup ks ↔ x ∈ ks := by
  unfold ddup
  rw [fold_mem]
  simp
theorem fold_nd : ∀ {ks acc : List (List Int)}, acc.Nodup → (ks.foldl putL acc).Nodup
  | [], _, h => h
  | k :: ks, _, h => fold_nd (ks := ks) (putL_nd h)
theorem ddup_nd {ks : List (List Int)} : (ddup ks).Nodup := fold_nd List.nodup_nil
theorem okK_to {f : List (List Int)} {wd : Int} (h : okK f wd = true) : 0 ≤ wd ∧ wd ≤ 10 ∧ (∀ k ∈ f, k.length ≤ 1000) ∧ f.length ≤ 1000 := by
  unfold okK at h
  simp only [Bool.and_eq_true, decide_eq_true_eq, List.all_eq_true] at h
  exact ⟨h.1.1.1, h.1.1.2, h.1.2, h.2⟩
theorem okT_to {k : List Int} (h : okT k = true) : (∃ n ns, k = n :: ns) ∧ ((rngT k : Nat) : Int) = tMax k - tMin k ∧ rngT k < 2 ^ 64 := by
  unfold okT at h
  simp only [Bool.and_eq_true, decide_eq_true_eq] at h
  obtain ⟨⟨⟨h1, _⟩, h2⟩, h3⟩ := h
  refine ⟨?_, ?_, h3⟩
  · cases k with
    | nil => cases h1
    | cons n ns => exact ⟨n, ns, rfl⟩
  · unfold rngT
    omega
theorem hlen (k : List Int) (h : okT k = true) : k.length ≤ sizeLine := by
  unfold okT at h
  simp only [Bool.and_eq_true, decide_eq_true_eq] at h
  rw [sizeLine_eq]
  have := h.1.1.2
  omega
def phNum : Phi := fun _ xs R _ => ∃ ws : List Int, xs = [.d (.list (ws.map PyData.int))] ∧ ws.length ≤ 10 ∧ numOk ws = true ∧ R (.d (.int (numV ws))) 0
theorem q_number (T : Tx Γ.K mg "_law_number" s_law_number) (m_range : mg "range" = none) (m_tuple : mg "tuple" = none) (m_len : mg "len" = none) (m_max : mg "max" = none) (m_min : mg "min" = none) (m_set : mg "set" = none) (h__law_power : Pr P w Γ.K mg base CX0 1 "_law_power" ["many"] (spP Γ false phPow)) (h__law_behind : Pr P w Γ.K mg base CX0 2 "_law_behind" ["found", "wide"] (spP Γ false phBeh))
    (h__law_bits : Pr P w Γ.K mg base CX0 1 "_law_bits" ["amount"] (spP Γ false phBits)) : Pr P w Γ.K mg base CX0 3 "_law_number" ["sizes"] (spP Γ false phNum) := by
  refine mkPP T sc_law_number (fun _ _ _ _ _ _ us hl => match us, hl with | [_], _ => rfl) (fun n xs R Xx h => ?_) (fun n xs R Xx h => h) (fun f cdv A outer s H E hG hr => ?_)
  · obtain ⟨_, rfl, _⟩ := h
    rfl
  · have nd := sc_law_number.nd
    refine ⟨_, _, (dss_cons (fun h h' => pss_cons h h') (ds_set (i := 1) (fun h => ps_set nd rfl (.inl rfl) h) (de_call0 (fun h => pe_P h__law_power hr hG (by rfl) h) (da_cons (fun h t => pa_cons h t) (de_ixN (fun h => pe_ix (ixSK rfl) (pv 0) h (fun _ _ => rfl)) (de_c pe_int (fun _ => .int _))) (da_nil pa_nil)))) (dss_cons (fun h h' => pss_cons h h') (ds_set (i := 2) (fun h => ps_set nd rfl (.inl rfl) h) (de_call0 (fun h => pe_P h__law_behind hr hG (by rfl) h) (da_cons (fun h t => pa_cons h t) (de_fz (dl_disp (fun h => pe_lst h) (da_cons (fun h t => pa_cons h t) (de_tupRg (fun h => pe_tupRg rfl (by rfl) m_tuple (prg_1 (by rfl) m_range h)) (de_var (pv 1))) (da_nil pa_nil)))) (da_cons (fun h t => pa_cons h t) (de_ixN (fun h => pe_ix (ixSK rfl) (pv 0) h (fun _ _ => rfl)) (de_c pe_int (fun _ => .int _))) (da_nil pa_nil))))) (dss_cons (fun h h' => pss_cons h h') (ds_for (fun hi hg hb => ps_for PassesOwn.never rfl hi hg hb) (di_list (fun h => pi_list h) (de_fz (dl_sl (fun h l u => pe_slice (slLK rfl) h l u) (de_var (pv 0)) (do_some (fun h => po_some h) (de_c pe_int (fun _ => .int _))) (do_none po_none)))) (dg_name (pg_name (i := 3) nd rfl (.inr rfl))) (dss_one (fun h => pss_one h) (ds_setLc (own := [("one", 4)]) (i := 2) rfl nd rfl rfl (sw_true rfl rfl rfl (by decide +kernel)) (di_list (fun h => pi_list h) (de_call0 (fun h => pe_P h__law_behind hr hG (by rfl) h) (da_cons (fun h t => pa_cons h t) (de_var (pv 2)) (da_cons (fun h t => pa_cons h t) (de_var (pv 3)) (da_nil pa_nil))))) (blkOk_by (own := [("one", 4)]) (N := ["sizes", "period", "found", "wide", "one", "results"]) (sc := defScope s_law_number) (by decide +kernel)) (fun _ _ _ _ _ => (dg_name (pg_name (i := 4) nd rfl (.inl rfl)))) (fun _ _ _ _ _ => (dts_one (dt_cmp opd_eq (fun h h' => pt_cmpR op_eq h h' (nomark _)) (de_call0 (fun h => pe_P h__law_bits hr hG (by rfl) h) (da_cons (fun h t => pa_cons h t) (de_op opd_int0 (fun h h' => pe_op op_sub h h') (de_cb cd_maxT (fun h => pe_callB (cr_maxT rfl (room65 hr)) (by rfl) m_max (by decide +kernel) h) (da_cons (fun h t => pa_cons h t) (de_var (pv 4)) (da_nil pa_nil))) (de_cb cd_minT (fun h => pe_callB (cr_minT rfl (room65 hr)) (by rfl) m_min (by decide +kernel) h) (da_cons (fun h t => pa_cons h t) (de_var (pv 4)) (da_nil pa_nil)))) (da_nil pa_nil))) (de_var (pv 3))))) (fun _ _ _ _ _ => (de_var (pv 4)))))) (dss_one (fun h => pss_one h) (ds_ret (fun h => ps_ret h) (de_lenSet (fun h => pe_callB cr_lenF (by rfl) m_len (by decide +kernel) (pa_cons (pe_callTy (cr_setF rfl (Nat.lt_of_succ_lt (room65 hr))) (by rfl) m_set (by decide +kernel) (pa_cons h pa_nil)) pa_nil)) (de_fz (dl_comp (own := [("results", 5)])  rfl nd (di_list (fun h => pi_list h) (de_var (pv 2))) (blkOk_by (own := [("results", 5)]) (N := ["sizes", "period", "found", "wide", "one", "results"]) (sc := defScope s_law_number) (by decide +kernel)) (fun _ _ _ _ _ => (dg_name (pg_name (i := 5) nd rfl (.inr rfl)))) (fun _ _ _ _ _ => dts_nil) (fun _ _ _ _ _ => (de_cb cd_tuple (fun h => pe_callTy call_tuple_of (by rfl) m_tuple (by decide +kernel) h) (da_cons (fun h t => pa_cons h t) (de_fz (dl_comp (own := [("one", 4)])  rfl nd (di_tup (fun h => pi_tup h) (de_var (pv 5))) (blkOk_by (own := [("one", 4)]) (by rfl)) (fun _ _ _ _ _ => (dg_name (pg_name (i := 4) nd rfl (.inl rfl)))) (fun _ _ _ _ _ => dts_nil) (fun _ _ _ _ _ => (de_op opd_int0 (fun h h' => pe_op op_sub h h') (de_var (pv 4)) (de_cb cd_minT (fun h => pe_callB (cr_minT rfl (room65 hr)) (by rfl) m_min (by decide +kernel) h) (da_cons (fun h t => pa_cons h t) (de_var (pv 5)) (da_nil pa_nil))))))) (da_nil pa_nil)))))))))))), fun n xs R h => ?_⟩
    obtain ⟨ws, rfl, hl, hk, q⟩ := h
    show (sSeq _ _) [.a (.d (.list (ws.map PyData.int))), .un, .un, .un, .un, .un] _
    refine y_seq.mpr ?_
    (try simp only [y_var, y_c, y_op, y_un, y_and, y_or, y_not, y_if, y_isN, y_notN, y_bOf, y_bTru, y_bNot, y_bYes, y_aNil, y_aCons, y_aStar, y_tup, y_disp, y_fz, y_cb, y_cat, y_of, y_sl, y_dO0, y_dO1, y_ixN, y_lenN, y_chain, y_call0, y_call, y_callR0, y_next, y_brk, y_cnt, y_asg, y_setO, y_gNm, y_gTp, y_gsNil, y_gsCons, y_subO, y_par, y_aug, y_expr, y_app, y_ext, y_ifS, y_ret, y_retN, y_for, y_while, y_iSeq, y_iTp, y_iR1, y_iR2, y_iEn, y_iZp, y_lc, y_raise, y_un1, y_maxT, y_minT, y_tupRg, y_lenSet, y_call, endsX, outX, y_iZpM, y_dT, y_slT, y_divmod, y_aStar, y_par10, y_par01, y_cmpO, Bool.true_eq_false, reduceCtorEq, decide_true, decide_false, ix2_0, ix2_1, ix3_0, ix3_1, ix3_2, LcRun, LpRun, wipeP, restP, noX, dite_true, List.nil_append, List.cons_append, Option.getD_some, Option.getD_none, y_repr, y_tupleL, y_tupleT, y_sum, y_all, y_any, y_eqD, y_neD, y_rev, y_dn, y_orT, y_notT, y_ins, y_bits, y_bAnd, y_bOr, y_rt0, y_rtR, y_nx0, y_rtX, y_nxX, y_exX, inV2, inV3, flatD, vOf, List.all_cons, List.all_nil, Bool.and_self, sz_iff, Nat.reduceAdd, Nat.reduceLeDiff, Nat.zero_add, y_dD, y_dB, y_dI, y_dL, y_dSl, y_dSt, y_dAll0, y_dAllS, dAll_map, y_I0, y_I, y_eqI, y_eqS, y_eqB, y_neI, y_neS, y_neB, y_neg, y_ixL, y_ixT, y_min, y_max, y_abs, y_lenL, y_lenT, y_lenS, y_lenB, y_truL, y_truT, y_inL, y_inT, y_ex1, y_exO, y_exR, at0, at1, at2, at3, isNon, List.getElem?_cons_succ, List.getElem?_cons_zero, List.set_cons_succ, List.set_cons_zero, List.length_cons, List.length_nil, List.map_cons, List.map_nil, true_and, and_true, decide_eq_true_eq, Bool.not_eq_true', Bool.not_true, Bool.not_false, if_true, if_false, Bool.false_eq_true, ite_true, ite_false])
    match ws, hk with
    | u :: r, hk =>
    unfold numOk at hk
    simp only [Bool.and_eq_true] at hk
    obtain ⟨⟨k1, k2⟩, k3⟩ := hk
    have k3 := of_decide_eq_true k3
    obtain ⟨c1, c2, c3, c4⟩ := okK_to k1
    refine ⟨.int u, at0, u, rfl, c1, by omega, ?_⟩
    (try simp only [y_var, y_c, y_op, y_un, y_and, y_or, y_not, y_if, y_isN, y_notN, y_bOf, y_bTru, y_bNot, y_bYes, y_aNil, y_aCons, y_aStar, y_tup, y_disp, y_fz, y_cb, y_cat, y_of, y_sl, y_dO0, y_dO1, y_ixN, y_lenN, y_chain, y_call0, y_call, y_callR0, y_next, y_brk, y_cnt, y_asg, y_setO, y_gNm, y_gTp, y_gsNil, y_gsCons, y_subO, y_par, y_aug, y_expr, y_app, y_ext, y_ifS, y_ret, y_retN, y_for, y_while, y_iSeq, y_iTp, y_iR1, y_iR2, y_iEn, y_iZp, y_lc, y_raise, y_un1, y_maxT, y_minT, y_tupRg, y_lenSet, y_call, endsX, outX, y_iZpM, y_dT, y_slT, y_divmod, y_aStar, y_par10, y_par01, y_cmpO, Bool.true_eq_false, reduceCtorEq, decide_true, decide_false, ix2_0, ix2_1, ix3_0, ix3_1, ix3_2, LcRun, LpRun, wipeP, restP, noX, dite_true, List.nil_append, List.cons_append, Option.getD_some, Option.getD_none, y_repr, y_tupleL, y_tupleT, y_sum, y_all, y_any, y_eqD, y_neD, y_rev, y_dn, y_orT, y_notT, y_ins, y_bits, y_bAnd, y_bOr, y_rt0, y_rtR, y_nx0, y_rtX, y_nxX, y_exX, inV2, inV3, flatD, vOf, List.all_cons, List.all_nil, Bool.and_self, sz_iff, Nat.reduceAdd, Nat.reduceLeDiff, Nat.zero_add, y_dD, y_dB, y_dI, y_dL, y_dSl, y_dSt, y_dAll0, y_dAllS, dAll_map, y_I0, y_I, y_eqI, y_eqS, y_eqB, y_neI, y_neS, y_neB, y_neg, y_ixL, y_ixT, y_min, y_max, y_abs, y_lenL, y_lenT, y_lenS, y_lenB, y_truL, y_truT, y_inL, y_inT, y_ex1, y_exO, y_exR, at0, at1, at2, at3, isNon, List.getElem?_cons_succ, List.getElem?_cons_zero, List.set_cons_succ, List.set_cons_zero, List.length_cons, List.length_nil, List.map_cons, List.map_nil, true_and, and_true, decide_eq_true_eq, Bool.not_eq_true', Bool.not_true, Bool.not_false, if_true, if_false, Bool.false_eq_true, ite_true, ite_false])
    refine y_seq.mpr ?_
    (try simp only [y_var, y_c, y_op, y_un, y_and, y_or, y_not, y_if, y_isN, y_notN, y_bOf, y_bTru, y_bNot, y_bYes, y_aNil, y_aCons, y_aStar, y_tup, y_disp, y_fz, y_cb, y_cat, y_of, y_sl, y_dO0, y_dO1, y_ixN, y_lenN, y_chain, y_call0, y_call, y_callR0, y_next, y_brk, y_cnt, y_asg, y_setO, y_gNm, y_gTp, y_gsNil, y_gsCons, y_subO, y_par, y_aug, y_expr, y_app, y_ext, y_ifS, y_ret, y_retN, y_for, y_while, y_iSeq, y_iTp, y_iR1, y_iR2, y_iEn, y_iZp, y_lc, y_raise, y_un1, y_maxT, y_minT, y_tupRg, y_lenSet, y_call, endsX, outX, y_iZpM, y_dT, y_slT, y_divmod, y_aStar, y_par10, y_par01, y_cmpO, Bool.true_eq_false, reduceCtorEq, decide_true, decide_false, ix2_0, ix2_1, ix3_0, ix3_1, ix3_2, LcRun, LpRun, wipeP, restP, noX, dite_true, List.nil_append, List.cons_append, Option.getD_some, Option.getD_none, y_repr, y_tupleL, y_tupleT, y_sum, y_all, y_any, y_eqD, y_neD, y_rev, y_dn, y_orT, y_notT, y_ins, y_bits, y_bAnd, y_bOr, y_rt0, y_rtR, y_nx0, y_rtX, y_nxX, y_exX, inV2, inV3, flatD, vOf, List.all_cons, List.all_nil, Bool.and_self, sz_iff, Nat.reduceAdd, Nat.reduceLeDiff, Nat.zero_add, y_dD, y_dB, y_dI, y_dL, y_dSl, y_dSt, y_dAll0, y_dAllS, dAll_map, y_I0, y_I, y_eqI, y_eqS, y_eqB, y_neI, y_neS, y_neB, y_neg, y_ixL, y_ixT, y_min, y_max, y_abs, y_lenL, y_lenT, y_lenS, y_lenB, y_truL, y_truT, y_inL, y_inT, y_ex1, y_exO, y_exR, at0, at1, at2, at3, isNon, List.getElem?_cons_succ, List.getElem?_cons_zero, List.set_cons_succ, List.set_cons_zero, List.length_cons, List.length_nil, List.map_cons, List.map_nil, true_and, and_true, decide_eq_true_eq, Bool.not_eq_true', Bool.not_true, Bool.not_false, if_true, if_false, Bool.false_eq_true, ite_true, ite_false])
    have b0 : (2 : Int) ^ u.toNat = ((2 ^ u.toNat : Nat) : Int) := (Int.natCast_pow 2 u.toNat).symm
    have b1 : 2 ^ u.toNat ≤ 1024 := Nat.le_trans (Nat.pow_le_pow_right (by decide) (show u.toNat ≤ 10 by omega)) (by decide)
    rw [b0, Int.toNat_natCast]
    refine ⟨⟨Int.natCast_nonneg _, by have z := b1; generalize 2 ^ u.toNat = y at z ⊢; omega⟩, [range0 (2 ^ u.toNat)], u, rfl, c1, c2, c3, c4, ?_⟩
    have e0 : beh (2 ^ u.toNat) [range0 (2 ^ u.toNat)] = first0 u := rfl
    rw [e0]
    (try simp only [y_var, y_c, y_op, y_un, y_and, y_or, y_not, y_if, y_isN, y_notN, y_bOf, y_bTru, y_bNot, y_bYes, y_aNil, y_aCons, y_aStar, y_tup, y_disp, y_fz, y_cb, y_cat, y_of, y_sl, y_dO0, y_dO1, y_ixN, y_lenN, y_chain, y_call0, y_call, y_callR0, y_next, y_brk, y_cnt, y_asg, y_setO, y_gNm, y_gTp, y_gsNil, y_gsCons, y_subO, y_par, y_aug, y_expr, y_app, y_ext, y_ifS, y_ret, y_retN, y_for, y_while, y_iSeq, y_iTp, y_iR1, y_iR2, y_iEn, y_iZp, y_lc, y_raise, y_un1, y_maxT, y_minT, y_tupRg, y_lenSet, y_call, endsX, outX, y_iZpM, y_dT, y_slT, y_divmod, y_aStar, y_par10, y_par01, y_cmpO, Bool.true_eq_false, reduceCtorEq, decide_true, decide_false, ix2_0, ix2_1, ix3_0, ix3_1, ix3_2, LcRun, LpRun, wipeP, restP, noX, dite_true, List.nil_append, List.cons_append, Option.getD_some, Option.getD_none, y_repr, y_tupleL, y_tupleT, y_sum, y_all, y_any, y_eqD, y_neD, y_rev, y_dn, y_orT, y_notT, y_ins, y_bits, y_bAnd, y_bOr, y_rt0, y_rtR, y_nx0, y_rtX, y_nxX, y_exX, inV2, inV3, flatD, vOf, List.all_cons, List.all_nil, Bool.and_self, sz_iff, Nat.reduceAdd, Nat.reduceLeDiff, Nat.zero_add, y_dD, y_dB, y_dI, y_dL, y_dSl, y_dSt, y_dAll0, y_dAllS, dAll_map, y_I0, y_I, y_eqI, y_eqS, y_eqB, y_neI, y_neS, y_neB, y_neg, y_ixL, y_ixT, y_min, y_max, y_abs, y_lenL, y_lenT, y_lenS, y_lenB, y_truL, y_truT, y_inL, y_inT, y_ex1, y_exO, y_exR, at0, at1, at2, at3, isNon, List.getElem?_cons_succ, List.getElem?_cons_zero, List.set_cons_succ, List.set_cons_zero, List.length_cons, List.length_nil, List.map_cons, List.map_nil, true_and, and_true, decide_eq_true_eq, Bool.not_eq_true', Bool.not_true, Bool.not_false, if_true, if_false, Bool.false_eq_true, ite_true, ite_false])
    refine y_seq.mpr ?_
    (try simp only [y_var, y_c, y_op, y_un, y_and, y_or, y_not, y_if, y_isN, y_notN, y_bOf, y_bTru, y_bNot, y_bYes, y_aNil, y_aCons, y_aStar, y_tup, y_disp, y_fz, y_cb, y_cat, y_of, y_sl, y_dO0, y_dO1, y_ixN, y_lenN, y_chain, y_call0, y_call, y_callR0, y_next, y_brk, y_cnt, y_asg, y_setO, y_gNm, y_gTp, y_gsNil, y_gsCons, y_subO, y_par, y_aug, y_expr, y_app, y_ext, y_ifS, y_ret, y_retN, y_for, y_while, y_iSeq, y_iTp, y_iR1, y_iR2, y_iEn, y_iZp, y_lc, y_raise, y_un1, y_maxT, y_minT, y_tupRg, y_lenSet, y_call, endsX, outX, y_iZpM, y_dT, y_slT, y_divmod, y_aStar, y_par10, y_par01, y_cmpO, Bool.true_eq_false, reduceCtorEq, decide_true, decide_false, ix2_0, ix2_1, ix3_0, ix3_1, ix3_2, LcRun, LpRun, wipeP, restP, noX, dite_true, List.nil_append, List.cons_append, Option.getD_some, Option.getD_none, y_repr, y_tupleL, y_tupleT, y_sum, y_all, y_any, y_eqD, y_neD, y_rev, y_dn, y_orT, y_notT, y_ins, y_bits, y_bAnd, y_bOr, y_rt0, y_rtR, y_nx0, y_rtX, y_nxX, y_exX, inV2, inV3, flatD, vOf, List.all_cons, List.all_nil, Bool.and_self, sz_iff, Nat.reduceAdd, Nat.reduceLeDiff, Nat.zero_add, y_dD, y_dB, y_dI, y_dL, y_dSl, y_dSt, y_dAll0, y_dAllS, dAll_map, y_I0, y_I, y_eqI, y_eqS, y_eqB, y_neI, y_neS, y_neB, y_neg, y_ixL, y_ixT, y_min, y_max, y_abs, y_lenL, y_lenT, y_lenS, y_lenB, y_truL, y_truT, y_inL, y_inT, y_ex1, y_exO, y_exR, at0, at1, at2, at3, isNon, List.getElem?_cons_succ, List.getElem?_cons_zero, List.set_cons_succ, List.set_cons_zero, List.length_cons, List.length_nil, List.map_cons, List.map_nil, true_and, and_true, decide_eq_true_eq, Bool.not_eq_true', Bool.not_true, Bool.not_false, if_true, if_false, Bool.false_eq_true, ite_true, ite_false])
    rw [cut1]
    refine loop (fun i ρ => ∃ y3 : Sl, ρ = [.a (.d (.list ((u :: r).map PyData.int))), .a (.d (.int ((2 ^ u.toNat : Nat) : Int))), .a (.d (.list (((r.take i).foldl stepV (first0 u)).map tupI))), y3, .un, .un] ∧ okRun (r.drop i) ((r.take i).foldl stepV (first0 u)) = true) ⟨.un, rfl, k2⟩ (fun i x ρ hx h => ?_) (fun ρ h => ?_)
    · obtain ⟨y3, rfl, hr2⟩ := h
      rw [List.getElem?_map, List.getElem?_map] at hx
      obtain ⟨d, hd, rfl⟩ := Option.map_eq_some_iff.mp hx
      obtain ⟨wd, hwd, rfl⟩ := Option.map_eq_some_iff.mp hd
      have hi := (List.getElem?_eq_some_iff.mp hwd).1
      have hdr : r.drop i = wd :: r.drop (i + 1) := by rw [List.drop_eq_getElem_cons hi, (List.getElem?_eq_some_iff.mp hwd).2]
      have htk : (r.take (i + 1)).foldl stepV (first0 u) = stepV ((r.take i).foldl stepV (first0 u)) wd := by rw [List.take_add_one, hwd, Option.toList_some, List.foldl_append]; rfl
      rw [htk]
      rw [hdr] at hr2
      generalize (r.take i).foldl stepV (first0 u) = g at hr2 ⊢
      unfold okRun okStep at hr2
      simp only [Bool.and_eq_true] at hr2
      obtain ⟨⟨⟨o1, o2⟩, o3⟩, o4⟩ := hr2
      have o3 := of_decide_eq_true o3
      obtain ⟨a1, a2, a3, a4⟩ := okK_to o1
      (try simp only [y_var, y_c, y_op, y_un, y_and, y_or, y_not, y_if, y_isN, y_notN, y_bOf, y_bTru, y_bNot, y_bYes, y_aNil, y_aCons, y_aStar, y_tup, y_disp, y_fz, y_cb, y_cat, y_of, y_sl, y_dO0, y_dO1, y_ixN, y_lenN, y_chain, y_call0, y_call, y_callR0, y_next, y_brk, y_cnt, y_asg, y_setO, y_gNm, y_gTp, y_gsNil, y_gsCons, y_subO, y_par, y_aug, y_expr, y_app, y_ext, y_ifS, y_ret, y_retN, y_for, y_while, y_iSeq, y_iTp, y_iR1, y_iR2, y_iEn, y_iZp, y_lc, y_raise, y_un1, y_maxT, y_minT, y_tupRg, y_lenSet, y_call, endsX, outX, y_iZpM, y_dT, y_slT, y_divmod, y_aStar, y_par10, y_par01, y_cmpO, Bool.true_eq_false, reduceCtorEq, decide_true, decide_false, ix2_0, ix2_1, ix3_0, ix3_1, ix3_2, LcRun, LpRun, wipeP, restP, noX, dite_true, List.nil_append, List.cons_append, Option.getD_some, Option.getD_none, y_repr, y_tupleL, y_tupleT, y_sum, y_all, y_any, y_eqD, y_neD, y_rev, y_dn, y_orT, y_notT, y_ins, y_bits, y_bAnd, y_bOr, y_rt0, y_rtR, y_nx0, y_rtX, y_nxX, y_exX, inV2, inV3, flatD, vOf, List.all_cons, List.all_nil, Bool.and_self, sz_iff, Nat.reduceAdd, Nat.reduceLeDiff, Nat.zero_add, y_dD, y_dB, y_dI, y_dL, y_dSl, y_dSt, y_dAll0, y_dAllS, dAll_map, y_I0, y_I, y_eqI, y_eqS, y_eqB, y_neI, y_neS, y_neB, y_neg, y_ixL, y_ixT, y_min, y_max, y_abs, y_lenL, y_lenT, y_lenS, y_lenB, y_truL, y_truT, y_inL, y_inT, y_ex1, y_exO, y_exR, at0, at1, at2, at3, isNon, List.getElem?_cons_succ, List.getElem?_cons_zero, List.set_cons_succ, List.set_cons_zero, List.length_cons, List.length_nil, List.map_cons, List.map_nil, true_and, and_true, decide_eq_true_eq, Bool.not_eq_true', Bool.not_true, Bool.not_false, if_true, if_false, Bool.false_eq_true, ite_true, ite_false])
      refine ⟨g, wd, rfl, a1, a2, a3, a4, ?_⟩
      (try simp only [y_var, y_c, y_op, y_un, y_and, y_or, y_not, y_if, y_isN, y_notN, y_bOf, y_bTru, y_bNot, y_bYes, y_aNil, y_aCons, y_aStar, y_tup, y_disp, y_fz, y_cb, y_cat, y_of, y_sl, y_dO0, y_dO1, y_ixN, y_lenN, y_chain, y_call0, y_call, y_callR0, y_next, y_brk, y_cnt, y_asg, y_setO, y_gNm, y_gTp, y_gsNil, y_gsCons, y_subO, y_par, y_aug, y_expr, y_app, y_ext, y_ifS, y_ret, y_retN, y_for, y_while, y_iSeq, y_iTp, y_iR1, y_iR2, y_iEn, y_iZp, y_lc, y_raise, y_un1, y_maxT, y_minT, y_tupRg, y_lenSet, y_call, endsX, outX, y_iZpM, y_dT, y_slT, y_divmod, y_aStar, y_par10, y_par01, y_cmpO, Bool.true_eq_false, reduceCtorEq, decide_true, decide_false, ix2_0, ix2_1, ix3_0, ix3_1, ix3_2, LcRun, LpRun, wipeP, restP, noX, dite_true, List.nil_append, List.cons_append, Option.getD_some, Option.getD_none, y_repr, y_tupleL, y_tupleT, y_sum, y_all, y_any, y_eqD, y_neD, y_rev, y_dn, y_orT, y_notT, y_ins, y_bits, y_bAnd, y_bOr, y_rt0, y_rtR, y_nx0, y_rtX, y_nxX, y_exX, inV2, inV3, flatD, vOf, List.all_cons, List.all_nil, Bool.and_self, sz_iff, Nat.reduceAdd, Nat.reduceLeDiff, Nat.zero_add, y_dD, y_dB, y_dI, y_dL, y_dSl, y_dSt, y_dAll0, y_dAllS, dAll_map, y_I0, y_I, y_eqI, y_eqS, y_eqB, y_neI, y_neS, y_neB, y_neg, y_ixL, y_ixT, y_min, y_max, y_abs, y_lenL, y_lenT, y_lenS, y_lenB, y_truL, y_truT, y_inL, y_inT, y_ex1, y_exO, y_exR, at0, at1, at2, at3, isNon, List.getElem?_cons_succ, List.getElem?_cons_zero, List.set_cons_succ, List.set_cons_zero, List.length_cons, List.length_nil, List.map_cons, List.map_nil, true_and, and_true, decide_eq_true_eq, Bool.not_eq_true', Bool.not_true, Bool.not_false, if_true, if_false, Bool.false_eq_true, ite_true, ite_false])
      rw [List.map_map]
      refine compF (xs := beh (2 ^ wd.toNat) g) (enc := fun k => Cc.A.d (tupI k)) (fun k => if wideOk wd k = true then some (tupI k) else none) (fun v hv => by simp only [List.mem_cons, List.not_mem_nil, or_false] at hv; first | (subst hv; exact trivial) | (rcases hv with rfl | rfl <;> exact trivial) | (rcases hv with rfl | rfl | rfl <;> exact trivial)) (by rw [sizeLine_eq]; omega) (fun k hk acc K hz hK => ?_) ?_
      · obtain ⟨⟨v, vs, rfl⟩, t2, t3⟩ := okT_to (List.all_eq_true.mp o2 k hk)
        (try simp only [y_var, y_c, y_op, y_un, y_and, y_or, y_not, y_if, y_isN, y_notN, y_bOf, y_bTru, y_bNot, y_bYes, y_aNil, y_aCons, y_aStar, y_tup, y_disp, y_fz, y_cb, y_cat, y_of, y_sl, y_dO0, y_dO1, y_ixN, y_lenN, y_chain, y_call0, y_call, y_callR0, y_next, y_brk, y_cnt, y_asg, y_setO, y_gNm, y_gTp, y_gsNil, y_gsCons, y_subO, y_par, y_aug, y_expr, y_app, y_ext, y_ifS, y_ret, y_retN, y_for, y_while, y_iSeq, y_iTp, y_iR1, y_iR2, y_iEn, y_iZp, y_lc, y_raise, y_un1, y_maxT, y_minT, y_tupRg, y_lenSet, y_call, endsX, outX, y_iZpM, y_dT, y_slT, y_divmod, y_aStar, y_par10, y_par01, y_cmpO, Bool.true_eq_false, reduceCtorEq, decide_true, decide_false, ix2_0, ix2_1, ix3_0, ix3_1, ix3_2, LcRun, LpRun, wipeP, restP, noX, dite_true, List.nil_append, List.cons_append, Option.getD_some, Option.getD_none, y_repr, y_tupleL, y_tupleT, y_sum, y_all, y_any, y_eqD, y_neD, y_rev, y_dn, y_orT, y_notT, y_ins, y_bits, y_bAnd, y_bOr, y_rt0, y_rtR, y_nx0, y_rtX, y_nxX, y_exX, inV2, inV3, flatD, vOf, List.all_cons, List.all_nil, Bool.and_self, sz_iff, Nat.reduceAdd, Nat.reduceLeDiff, Nat.zero_add, y_dD, y_dB, y_dI, y_dL, y_dSl, y_dSt, y_dAll0, y_dAllS, dAll_map, y_I0, y_I, y_eqI, y_eqS, y_eqB, y_neI, y_neS, y_neB, y_neg, y_ixL, y_ixT, y_min, y_max, y_abs, y_lenL, y_lenT, y_lenS, y_lenB, y_truL, y_truT, y_inL, y_inT, y_ex1, y_exO, y_exR, at0, at1, at2, at3, isNon, List.getElem?_cons_succ, List.getElem?_cons_zero, List.set_cons_succ, List.set_cons_zero, List.length_cons, List.length_nil, List.map_cons, List.map_nil, true_and, and_true, decide_eq_true_eq, Bool.not_eq_true', Bool.not_true, Bool.not_false, if_true, if_false, Bool.false_eq_true, ite_true, ite_false])
        refine ⟨v, vs, rfl, ?_⟩
        (try simp only [y_var, y_c, y_op, y_un, y_and, y_or, y_not, y_if, y_isN, y_notN, y_bOf, y_bTru, y_bNot, y_bYes, y_aNil, y_aCons, y_aStar, y_tup, y_disp, y_fz, y_cb, y_cat, y_of, y_sl, y_dO0, y_dO1, y_ixN, y_lenN, y_chain, y_call0, y_call, y_callR0, y_next, y_brk, y_cnt, y_asg, y_setO, y_gNm, y_gTp, y_gsNil, y_gsCons, y_subO, y_par, y_aug, y_expr, y_app, y_ext, y_ifS, y_ret, y_retN, y_for, y_while, y_iSeq, y_iTp, y_iR1, y_iR2, y_iEn, y_iZp, y_lc, y_raise, y_un1, y_maxT, y_minT, y_tupRg, y_lenSet, y_call, endsX, outX, y_iZpM, y_dT, y_slT, y_divmod, y_aStar, y_par10, y_par01, y_cmpO, Bool.true_eq_false, reduceCtorEq, decide_true, decide_false, ix2_0, ix2_1, ix3_0, ix3_1, ix3_2, LcRun, LpRun, wipeP, restP, noX, dite_true, List.nil_append, List.cons_append, Option.getD_some, Option.getD_none, y_repr, y_tupleL, y_tupleT, y_sum, y_all, y_any, y_eqD, y_neD, y_rev, y_dn, y_orT, y_notT, y_ins, y_bits, y_bAnd, y_bOr, y_rt0, y_rtR, y_nx0, y_rtX, y_nxX, y_exX, inV2, inV3, flatD, vOf, List.all_cons, List.all_nil, Bool.and_self, sz_iff, Nat.reduceAdd, Nat.reduceLeDiff, Nat.zero_add, y_dD, y_dB, y_dI, y_dL, y_dSl, y_dSt, y_dAll0, y_dAllS, dAll_map, y_I0, y_I, y_eqI, y_eqS, y_eqB, y_neI, y_neS, y_neB, y_neg, y_ixL, y_ixT, y_min, y_max, y_abs, y_lenL, y_lenT, y_lenS, y_lenB, y_truL, y_truT, y_inL, y_inT, y_ex1, y_exO, y_exR, at0, at1, at2, at3, isNon, List.getElem?_cons_succ, List.getElem?_cons_zero, List.set_cons_succ, List.set_cons_zero, List.length_cons, List.length_nil, List.map_cons, List.map_nil, true_and, and_true, decide_eq_true_eq, Bool.not_eq_true', Bool.not_true, Bool.not_false, if_true, if_false, Bool.false_eq_true, ite_true, ite_false])
        refine ⟨v, vs, rfl, ?_⟩
        (try simp only [y_var, y_c, y_op, y_un, y_and, y_or, y_not, y_if, y_isN, y_notN, y_bOf, y_bTru, y_bNot, y_bYes, y_aNil, y_aCons, y_aStar, y_tup, y_disp, y_fz, y_cb, y_cat, y_of, y_sl, y_dO0, y_dO1, y_ixN, y_lenN, y_chain, y_call0, y_call, y_callR0, y_next, y_brk, y_cnt, y_asg, y_setO, y_gNm, y_gTp, y_gsNil, y_gsCons, y_subO, y_par, y_aug, y_expr, y_app, y_ext, y_ifS, y_ret, y_retN, y_for, y_while, y_iSeq, y_iTp, y_iR1, y_iR2, y_iEn, y_iZp, y_lc, y_raise, y_un1, y_maxT, y_minT, y_tupRg, y_lenSet, y_call, endsX, outX, y_iZpM, y_dT, y_slT, y_divmod, y_aStar, y_par10, y_par01, y_cmpO, Bool.true_eq_false, reduceCtorEq, decide_true, decide_false, ix2_0, ix2_1, ix3_0, ix3_1, ix3_2, LcRun, LpRun, wipeP, restP, noX, dite_true, List.nil_append, List.cons_append, Option.getD_some, Option.getD_none, y_repr, y_tupleL, y_tupleT, y_sum, y_all, y_any, y_eqD, y_neD, y_rev, y_dn, y_orT, y_notT, y_ins, y_bits, y_bAnd, y_bOr, y_rt0, y_rtR, y_nx0, y_rtX, y_nxX, y_exX, inV2, inV3, flatD, vOf, List.all_cons, List.all_nil, Bool.and_self, sz_iff, Nat.reduceAdd, Nat.reduceLeDiff, Nat.zero_add, y_dD, y_dB, y_dI, y_dL, y_dSl, y_dSt, y_dAll0, y_dAllS, dAll_map, y_I0, y_I, y_eqI, y_eqS, y_eqB, y_neI, y_neS, y_neB, y_neg, y_ixL, y_ixT, y_min, y_max, y_abs, y_lenL, y_lenT, y_lenS, y_lenB, y_truL, y_truT, y_inL, y_inT, y_ex1, y_exO, y_exR, at0, at1, at2, at3, isNon, List.getElem?_cons_succ, List.getElem?_cons_zero, List.set_cons_succ, List.set_cons_zero, List.length_cons, List.length_nil, List.map_cons, List.map_nil, true_and, and_true, decide_eq_true_eq, Bool.not_eq_true', Bool.not_true, Bool.not_false, if_true, if_false, Bool.false_eq_true, ite_true, ite_false])
        refine ⟨rngT (v :: vs), by rw [t2]; rfl, t3, ?_⟩
        (try simp only [y_var, y_c, y_op, y_un, y_and, y_or, y_not, y_if, y_isN, y_notN, y_bOf, y_bTru, y_bNot, y_bYes, y_aNil, y_aCons, y_aStar, y_tup, y_disp, y_fz, y_cb, y_cat, y_of, y_sl, y_dO0, y_dO1, y_ixN, y_lenN, y_chain, y_call0, y_call, y_callR0, y_next, y_brk, y_cnt, y_asg, y_setO, y_gNm, y_gTp, y_gsNil, y_gsCons, y_subO, y_par, y_aug, y_expr, y_app, y_ext, y_ifS, y_ret, y_retN, y_for, y_while, y_iSeq, y_iTp, y_iR1, y_iR2, y_iEn, y_iZp, y_lc, y_raise, y_un1, y_maxT, y_minT, y_tupRg, y_lenSet, y_call, endsX, outX, y_iZpM, y_dT, y_slT, y_divmod, y_aStar, y_par10, y_par01, y_cmpO, Bool.true_eq_false, reduceCtorEq, decide_true, decide_false, ix2_0, ix2_1, ix3_0, ix3_1, ix3_2, LcRun, LpRun, wipeP, restP, noX, dite_true, List.nil_append, List.cons_append, Option.getD_some, Option.getD_none, y_repr, y_tupleL, y_tupleT, y_sum, y_all, y_any, y_eqD, y_neD, y_rev, y_dn, y_orT, y_notT, y_ins, y_bits, y_bAnd, y_bOr, y_rt0, y_rtR, y_nx0, y_rtX, y_nxX, y_exX, inV2, inV3, flatD, vOf, List.all_cons, List.all_nil, Bool.and_self, sz_iff, Nat.reduceAdd, Nat.reduceLeDiff, Nat.zero_add, y_dD, y_dB, y_dI, y_dL, y_dSl, y_dSt, y_dAll0, y_dAllS, dAll_map, y_I0, y_I, y_eqI, y_eqS, y_eqB, y_neI, y_neS, y_neB, y_neg, y_ixL, y_ixT, y_min, y_max, y_abs, y_lenL, y_lenT, y_lenS, y_lenB, y_truL, y_truT, y_inL, y_inT, y_ex1, y_exO, y_exR, at0, at1, at2, at3, isNon, List.getElem?_cons_succ, List.getElem?_cons_zero, List.set_cons_succ, List.set_cons_zero, List.length_cons, List.length_nil, List.map_cons, List.map_nil, true_and, and_true, decide_eq_true_eq, Bool.not_eq_true', Bool.not_true, Bool.not_false, if_true, if_false, Bool.false_eq_true, ite_true, ite_false])
        unfold wideOk at hK
        by_cases c : ((blF 64 (rngT (v :: vs)) : Nat) : Int) = wd
        · rw [if_pos c]
          rw [decide_eq_true c] at hK
          exact ⟨hz, hK⟩
        · rw [if_neg c]
          rw [decide_eq_false c] at hK
          exact hK
      · rw [fmF]
        exact ⟨_, rfl, o4⟩
    · obtain ⟨y3, rfl, hr2⟩ := h
      rw [List.length_map, List.length_map, List.take_length]
      rw [List.length_map, List.length_map, List.take_length, List.drop_length] at hr2
      (try simp only [y_var, y_c, y_op, y_un, y_and, y_or, y_not, y_if, y_isN, y_notN, y_bOf, y_bTru, y_bNot, y_bYes, y_aNil, y_aCons, y_aStar, y_tup, y_disp, y_fz, y_cb, y_cat, y_of, y_sl, y_dO0, y_dO1, y_ixN, y_lenN, y_chain, y_call0, y_call, y_callR0, y_next, y_brk, y_cnt, y_asg, y_setO, y_gNm, y_gTp, y_gsNil, y_gsCons, y_subO, y_par, y_aug, y_expr, y_app, y_ext, y_ifS, y_ret, y_retN, y_for, y_while, y_iSeq, y_iTp, y_iR1, y_iR2, y_iEn, y_iZp, y_lc, y_raise, y_un1, y_maxT, y_minT, y_tupRg, y_lenSet, y_call, endsX, outX, y_iZpM, y_dT, y_slT, y_divmod, y_aStar, y_par10, y_par01, y_cmpO, Bool.true_eq_false, reduceCtorEq, decide_true, decide_false, ix2_0, ix2_1, ix3_0, ix3_1, ix3_2, LcRun, LpRun, wipeP, restP, noX, dite_true, List.nil_append, List.cons_append, Option.getD_some, Option.getD_none, y_repr, y_tupleL, y_tupleT, y_sum, y_all, y_any, y_eqD, y_neD, y_rev, y_dn, y_orT, y_notT, y_ins, y_bits, y_bAnd, y_bOr, y_rt0, y_rtR, y_nx0, y_rtX, y_nxX, y_exX, inV2, inV3, flatD, vOf, List.all_cons, List.all_nil, Bool.and_self, sz_iff, Nat.reduceAdd, Nat.reduceLeDiff, Nat.zero_add, y_dD, y_dB, y_dI, y_dL, y_dSl, y_dSt, y_dAll0, y_dAllS, dAll_map, y_I0, y_I, y_eqI, y_eqS, y_eqB, y_neI, y_neS, y_neB, y_neg, y_ixL, y_ixT, y_min, y_max, y_abs, y_lenL, y_lenT, y_lenS, y_lenB, y_truL, y_truT, y_inL, y_inT, y_ex1, y_exO, y_exR, at0, at1, at2, at3, isNon, List.getElem?_cons_succ, List.getElem?_cons_zero, List.set_cons_succ, List.set_cons_zero, List.length_cons, List.length_nil, List.map_cons, List.map_nil, true_and, and_true, decide_eq_true_eq, Bool.not_eq_true', Bool.not_true, Bool.not_false, if_true, if_false, Bool.false_eq_true, ite_true, ite_false])
      unfold okRun at hr2
      simp only [Bool.and_eq_true, decide_eq_true_eq] at hr2
      have q : R (Cc.A.d (PyData.int ((ddup ((r.foldl stepV (first0 u)).map lowerT)).length : Nat))) 0 := q
      generalize r.foldl stepV (first0 u) = g at hr2 k3 q ⊢
      rw [List.map_map]
      refine compF (xs := g) (enc := fun k => Cc.A.d (tupI k)) (fun k => some (tupI (lowerT k))) (fun v hv => by simp only [List.mem_cons, List.not_mem_nil, or_false] at hv; first | (subst hv; exact trivial) | (rcases hv with rfl | rfl <;> exact trivial) | (rcases hv with rfl | rfl | rfl <;> exact trivial)) (by rw [sizeLine_eq]; omega) (fun k hk acc K hz hK => ?_) ?_
      · obtain ⟨⟨v, vs, rfl⟩, t2, t3⟩ := okT_to (List.all_eq_true.mp hr2.1 k hk)
        dsimp only [tupI]
        (try simp only [y_var, y_c, y_op, y_un, y_and, y_or, y_not, y_if, y_isN, y_notN, y_bOf, y_bTru, y_bNot, y_bYes, y_aNil, y_aCons, y_aStar, y_tup, y_disp, y_fz, y_cb, y_cat, y_of, y_sl, y_dO0, y_dO1, y_ixN, y_lenN, y_chain, y_call0, y_call, y_callR0, y_next, y_brk, y_cnt, y_asg, y_setO, y_gNm, y_gTp, y_gsNil, y_gsCons, y_subO, y_par, y_aug, y_expr, y_app, y_ext, y_ifS, y_ret, y_retN, y_for, y_while, y_iSeq, y_iTp, y_iR1, y_iR2, y_iEn, y_iZp, y_lc, y_raise, y_un1, y_maxT, y_minT, y_tupRg, y_lenSet, y_call, endsX, outX, y_iZpM, y_dT, y_slT, y_divmod, y_aStar, y_par10, y_par01, y_cmpO, Bool.true_eq_false, reduceCtorEq, decide_true, decide_false, ix2_0, ix2_1, ix3_0, ix3_1, ix3_2, LcRun, LpRun, wipeP, restP, noX, dite_true, List.nil_append, List.cons_append, Option.getD_some, Option.getD_none, y_repr, y_tupleL, y_tupleT, y_sum, y_all, y_any, y_eqD, y_neD, y_rev, y_dn, y_orT, y_notT, y_ins, y_bits, y_bAnd, y_bOr, y_rt0, y_rtR, y_nx0, y_rtX, y_nxX, y_exX, inV2, inV3, flatD, vOf, List.all_cons, List.all_nil, Bool.and_self, sz_iff, Nat.reduceAdd, Nat.reduceLeDiff, Nat.zero_add, y_dD, y_dB, y_dI, y_dL, y_dSl, y_dSt, y_dAll0, y_dAllS, dAll_map, y_I0, y_I, y_eqI, y_eqS, y_eqB, y_neI, y_neS, y_neB, y_neg, y_ixL, y_ixT, y_min, y_max, y_abs, y_lenL, y_lenT, y_lenS, y_lenB, y_truL, y_truT, y_inL, y_inT, y_ex1, y_exO, y_exR, at0, at1, at2, at3, isNon, List.getElem?_cons_succ, List.getElem?_cons_zero, List.set_cons_succ, List.set_cons_zero, List.length_cons, List.length_nil, List.map_cons, List.map_nil, true_and, and_true, decide_eq_true_eq, Bool.not_eq_true', Bool.not_true, Bool.not_false, if_true, if_false, Bool.false_eq_true, ite_true, ite_false])
        rw [show Cc.A.d (PyData.int v) :: List.map Cc.A.d (List.map PyData.int vs) = (v :: vs).map (fun x => Cc.A.d (PyData.int x)) from by rw [List.map_map]; rfl]
        have len := (hlen (v :: vs) (List.all_eq_true.mp hr2.1 (v :: vs) hk))
        refine compF (xs := v :: vs) (enc := fun x => Cc.A.d (PyData.int x)) (fun x => some (PyData.int (x - tMin (v :: vs)))) (fun v hv => by simp only [List.mem_cons, List.not_mem_nil, or_false] at hv; first | (subst hv; exact trivial) | (rcases hv with rfl | rfl <;> exact trivial) | (rcases hv with rfl | rfl | rfl <;> exact trivial)) len (fun x hx acc2 K2 hz2 hK2 => ?_) ?_
        · (try simp only [y_var, y_c, y_op, y_un, y_and, y_or, y_not, y_if, y_isN, y_notN, y_bOf, y_bTru, y_bNot, y_bYes, y_aNil, y_aCons, y_aStar, y_tup, y_disp, y_fz, y_cb, y_cat, y_of, y_sl, y_dO0, y_dO1, y_ixN, y_lenN, y_chain, y_call0, y_call, y_callR0, y_next, y_brk, y_cnt, y_asg, y_setO, y_gNm, y_gTp, y_gsNil, y_gsCons, y_subO, y_par, y_aug, y_expr, y_app, y_ext, y_ifS, y_ret, y_retN, y_for, y_while, y_iSeq, y_iTp, y_iR1, y_iR2, y_iEn, y_iZp, y_lc, y_raise, y_un1, y_maxT, y_minT, y_tupRg, y_lenSet, y_call, endsX, outX, y_iZpM, y_dT, y_slT, y_divmod, y_aStar, y_par10, y_par01, y_cmpO, Bool.true_eq_false, reduceCtorEq, decide_true, decide_false, ix2_0, ix2_1, ix3_0, ix3_1, ix3_2, LcRun, LpRun, wipeP, restP, noX, dite_true, List.nil_append, List.cons_append, Option.getD_some, Option.getD_none, y_repr, y_tupleL, y_tupleT, y_sum, y_all, y_any, y_eqD, y_neD, y_rev, y_dn, y_orT, y_notT, y_ins, y_bits, y_bAnd, y_bOr, y_rt0, y_rtR, y_nx0, y_rtX, y_nxX, y_exX, inV2, inV3, flatD, vOf, List.all_cons, List.all_nil, Bool.and_self, sz_iff, Nat.reduceAdd, Nat.reduceLeDiff, Nat.zero_add, y_dD, y_dB, y_dI, y_dL, y_dSl, y_dSt, y_dAll0, y_dAllS, dAll_map, y_I0, y_I, y_eqI, y_eqS, y_eqB, y_neI, y_neS, y_neB, y_neg, y_ixL, y_ixT, y_min, y_max, y_abs, y_lenL, y_lenT, y_lenS, y_lenB, y_truL, y_truT, y_inL, y_inT, y_ex1, y_exO, y_exR, at0, at1, at2, at3, isNon, List.getElem?_cons_succ, List.getElem?_cons_zero, List.set_cons_succ, List.set_cons_zero, List.length_cons, List.length_nil, List.map_cons, List.map_nil, true_and, and_true, decide_eq_true_eq, Bool.not_eq_true', Bool.not_true, Bool.not_false, if_true, if_false, Bool.false_eq_true, ite_true, ite_false])
          refine ⟨v, vs, rfl, ?_⟩
          (try simp only [y_var, y_c, y_op, y_un, y_and, y_or, y_not, y_if, y_isN, y_notN, y_bOf, y_bTru, y_bNot, y_bYes, y_aNil, y_aCons, y_aStar, y_tup, y_disp, y_fz, y_cb, y_cat, y_of, y_sl, y_dO0, y_dO1, y_ixN, y_lenN, y_chain, y_call0, y_call, y_callR0, y_next, y_brk, y_cnt, y_asg, y_setO, y_gNm, y_gTp, y_gsNil, y_gsCons, y_subO, y_par, y_aug, y_expr, y_app, y_ext, y_ifS, y_ret, y_retN, y_for, y_while, y_iSeq, y_iTp, y_iR1, y_iR2, y_iEn, y_iZp, y_lc, y_raise, y_un1, y_maxT, y_minT, y_tupRg, y_lenSet, y_call, endsX, outX, y_iZpM, y_dT, y_slT, y_divmod, y_aStar, y_par10, y_par01, y_cmpO, Bool.true_eq_false, reduceCtorEq, decide_true, decide_false, ix2_0, ix2_1, ix3_0, ix3_1, ix3_2, LcRun, LpRun, wipeP, restP, noX, dite_true, List.nil_append, List.cons_append, Option.getD_some, Option.getD_none, y_repr, y_tupleL, y_tupleT, y_sum, y_all, y_any, y_eqD, y_neD, y_rev, y_dn, y_orT, y_notT, y_ins, y_bits, y_bAnd, y_bOr, y_rt0, y_rtR, y_nx0, y_rtX, y_nxX, y_exX, inV2, inV3, flatD, vOf, List.all_cons, List.all_nil, Bool.and_self, sz_iff, Nat.reduceAdd, Nat.reduceLeDiff, Nat.zero_add, y_dD, y_dB, y_dI, y_dL, y_dSl, y_dSt, y_dAll0, y_dAllS, dAll_map, y_I0, y_I, y_eqI, y_eqS, y_eqB, y_neI, y_neS, y_neB, y_neg, y_ixL, y_ixT, y_min, y_max, y_abs, y_lenL, y_lenT, y_lenS, y_lenB, y_truL, y_truT, y_inL, y_inT, y_ex1, y_exO, y_exR, at0, at1, at2, at3, isNon, List.getElem?_cons_succ, List.getElem?_cons_zero, List.set_cons_succ, List.set_cons_zero, List.length_cons, List.length_nil, List.map_cons, List.map_nil, true_and, and_true, decide_eq_true_eq, Bool.not_eq_true', Bool.not_true, Bool.not_false, if_true, if_false, Bool.false_eq_true, ite_true, ite_false])
          exact ⟨hz2, hK2⟩
        · rw [fm_some]
          refine ⟨hz, ?_⟩
          have e : tupI (lowerT (v :: vs)) = PyData.tuple ((v :: vs).map fun x => PyData.int (x - tMin (v :: vs))) := by
            unfold lowerT tupI
            rw [List.map_map]
            rfl
          rw [← e]
          exact hK
      · rw [fm_some]
        refine ⟨g.map lowerT, ddup (g.map lowerT), by rw [List.map_map]; rfl, k3, fun k hk => ddup_mem.mpr hk, fun L nd2 hL => ?_⟩
        rw [show L.length = (ddup (g.map lowerT)).length from Nat.le_antisymm (nodup_le nd2 fun x hx => ddup_mem.mpr ((hL x).mp hx)) (nodup_le ddup_nd fun x hx => (hL x).mpr (ddup_mem.mp hx))]
        exact q
end

end Cc

set_option Elab.async false
set_option linter.all false
set_option maxRecDepth 100000
set_option maxHeartbeats 4000000
namespace Cc
open PySem PySem.Spec PyProof.Rows L2
section
theorem dl_rep {Γ : Gx} {X : Cx} {W : WX} {e e1 e2 : Expr} {a b : EE} (hpe : ∀ {ta tb : TE}, PE X e1 ta → PE X e2 tb → PE X e (tOp rRep ta tb)) {ta : TE} (h1 : DE Γ X W e1 ta a) {tb : TE} (h2 : DE Γ X W e2 tb b) : DL Γ X W e (tOp rRep ta tb) (lRep a b) := by
  obtain ⟨p1, d1⟩ := h1
  obtain ⟨p2, d2⟩ := h2
  refine ⟨hpe p1 p2, fun f F H σ ρ Q R Xx E q o ox => ?_⟩
  refine d1 f F H σ ρ _ _ Xx E q (fun x ρ1 F1 H1 v1 q1 E1 s1 r1 => ?_) ox
  refine d2 f F1 H1 σ ρ1 _ _ Xx E1 q1 (fun y ρ2 F2 H2 v2 q2 E2 s2 r2 => ?_) ox
  obtain ⟨u, rfl, q2'⟩ := dL_of q2
  clear q2; have q2 := q2'
  obtain ⟨k, rfl, k0, k1, hz, q2'⟩ := dI_of q2
  clear q2; have q2 := q2'
  cases r2
  cases r1 with
  | lst hs ha =>
    refine ⟨_, _, _, rfl, rfl, E2.s1 _ _ (s2 _ _ hs), k0, k1, by rw [ha.len]; exact hz, fun p np => ?_⟩
    have rep : ∀ m : Nat, DqAll Γ.K F2 (List.replicate m _).flatten (List.replicate m u).flatten := fun m => by
      induction m with
      | zero => exact .nil
      | succ m ih =>
        rw [List.replicate_succ, List.replicate_succ, List.flatten_cons, List.flatten_cons]
        exact (DqAll.same s2 u ha).app ih
    exact o _ _ _ _ _ _ q2 (E2.raw np) (s1.trans s2) (own_new E2 (rep k.toNat) np)
theorem y_rep {a b : EE} {ρ : List Sl} {RL : List PyData → List Sl → Prop} {Xx : XX} : lRep a b ρ RL Xx ↔ a ρ (fun x ρ1 => b ρ1 (fun y ρ2 => dL x fun u => dI y fun k => -(2 ^ 63) ≤ k ∧ k < 2 ^ 63 ∧ szL (u.length * k.toNat) ∧ RL (List.replicate k.toNat u).flatten ρ2) Xx) Xx := Iff.rfl
end

abbrev s_law : Stmt := topS 12
theorem sc_law : FnScope ["script", "every", "sizes", "kept", "due", "told"] ["script"] (defScope s_law) := ⟨rfl, rfl, rfl, by decide +kernel, rfl, by decide +kernel, by decide +kernel⟩
section
def all14 : List (List Int) := [[1], [2], [3], [4], [1, 2], [1, 3], [2, 3], [2, 4], [1, 4], [3, 4], [1, 2, 3], [1, 2, 4], [1, 3, 4], [2, 3, 4]]
def encL (ws : List Int) : Cc.A := .d (.list (ws.map PyData.int))
theorem num_all : ∀ ws ∈ all14, numOk ws = true ∧ numV ws = cntW ws ∧ ascW ws = true := by decide +kernel
theorem bnd_all : ∀ ws ∈ all14, ws.length ≤ 10 ∧ ws ≠ [] ∧ (∀ n ∈ ws, n ≤ 1000) := by decide +kernel
theorem shw_all : ∀ ws ∈ all14, (PyData.list [.int (cntW ws), .int (cntW ws), .int (cntW ws)]).showable = true ∧ (PyData.list [.int (cntW ws), .int (cntW ws), .int (cntW ws)]).depth ≤ 60 ∧ (PyData.list [.int (cntW ws), .int (cntW ws), .int (cntW ws)]).shown.length ≤ sizeLine := by decide +kernel
theorem shp_all : ∀ ws ∈ all14, PySem.SeqAt.shaped (PyData.list (ws.map PyData.int)) = true := by decide +kernel
theorem cnt_in {ws : List Int} {d : PyData} {R : Cc.A → Nat → Prop} {Xx : Nat → PyData → Nat → Prop} (h0 : ws.length ≤ 10) (h1 : ws ≠ []) (h2 : ∀ n ∈ ws, n ≤ 1000) (h3 : ascW ws = true) (hd : d = .list (ws.map PyData.int) ∨ d = .tuple (ws.map PyData.int)) (q : R (.d (.int (cntW ws))) 0) : phCntT 0 [.d d] R Xx ∨ phCntL 0 [.d d] R Xx := by
  have bad : ¬ (ws = [] ∨ ascW ws = false) := fun z => z.elim h1 fun z => by rw [h3] at z; cases z
  rcases hd with rfl | rfl
  · exact .inr ⟨ws, rfl, by omega, h2, fun _ _ => q, fun z => (bad z).elim⟩
  · exact .inl ⟨ws, rfl, by omega, h2, fun _ _ => q, fun z => (bad z).elim⟩
def spLaw (K : PySem.W.Frag) : Sp := fun vs H Q _ => ∃ (a : Addr) (ns : List Int), vs = [.ref a] ∧ SqL K H a (ns.map V.int) ∧ ns.length ≤ 63 ∧ ∀ H', Q (.bl true) H'
def nullI : RngI := ⟨fun _ _ _ _ => False, fun h _ => h⟩
def lawG (K : PySem.W.Frag) (C : Nat → Addr) : Gx := ⟨K, C, 0, nullI⟩
def phLaw : Phi := fun _ xs R _ => (∃ ns : List Int, xs = [.scr ns]) ∧ R (.d (.bool true)) 0
theorem law_in {K : PySem.W.Frag} {C : Nat → Addr} {vs : List V} {H : Hp} {Q : VK} {E : XK} (h : spLaw K vs H Q E) : spP (lawG K C) false phLaw vs H Q E := by
  obtain ⟨a, ns, rfl, hS, _, q⟩ := h
  have go : ∀ F : Hp, Same F H → SqL K F a (ns.map V.int) → (∀ b o, F b = some o → okO F b o) → spP (lawG K C) false phLaw [.ref a] H Q E := fun F s hF cl => by
    refine ⟨fun _ => False, 0, F, 0, [.scr ns], [.ref a], fun y _ => y = .d (.bool true), fun _ _ _ => False, rfl, ⟨⟨a, rfl, hF⟩, trivial⟩, s, fun b z => z.elim, cl, (fun z => Bool.noConfusion z), fun _ _ z => z, ⟨⟨ns, rfl⟩, rfl⟩, fun y n' v F' H' hy st hv => ?_, fun _ _ _ _ _ _ _ z => z.elim⟩
    subst hy
    cases hv
    exact q H'
  rcases hS with (h | ⟨u, h⟩) | h
  · refine go (fun b => if b = a then some (.lst (ns.map V.int)) else none) (fun b o e => ?_) (.of (if_pos rfl)) (fun b o e => ?_)
    · by_cases c : b = a
      · try dsimp only at e
        rw [if_pos c] at e
        rw [← e, c]
        exact h
      · try dsimp only at e
        rw [if_neg c] at e
        cases e
    · by_cases c : b = a
      · try dsimp only at e
        rw [if_pos c] at e
        cases e
        exact trivial
      · try dsimp only at e
        rw [if_neg c] at e
        cases e
  · refine go (fun b => if b = a then some (.frz u (.lst (ns.map V.int))) else none) (fun b o e => ?_) (.inl (.inr ⟨u, if_pos rfl⟩)) (fun b o e => ?_)
    · by_cases c : b = a
      · try dsimp only at e
        rw [if_pos c] at e
        rw [← e, c]
        exact h
      · try dsimp only at e
        rw [if_neg c] at e
        cases e
    · by_cases c : b = a
      · try dsimp only at e
        rw [if_pos c] at e
        cases e
        exact .inl ⟨_, rfl⟩
      · try dsimp only at e
        rw [if_neg c] at e
        cases e
  · exact go (fun _ => none) (fun _ _ e => nomatch e) (.inr h) (fun _ _ e => nomatch e)
variable {P : Program} {w : World} {mg : Str → Option Value} {base : Heap} {C : Nat → Addr}
theorem mkAPP {Γ : Gx} {φ : Phi} {N ps : List Str} {st : Stmt} {x : Str} {k : Nat} {sp : Sp} (S : FnScope N ps (defScope st)) (len : ∀ vs H Q E, sp vs H Q E → vs.length = ps.length) (hin : ∀ vs H Q E, sp vs H Q E → spP Γ false φ vs H Q E) (hX : ∀ n xs R Xx, φ n xs R Xx → φ n xs R fun _ _ _ => False)
    (hbody : ∀ (f : Addr) (cdv : Value) (A : Around) (outer : List Env) (s : Shared) (H : Hp) (E : XK), A.guards = some [] → Room k (A.deeper (envOfC x (defScope st) s.heap.objs.size f cdv)) →
      ∃ t κ, DSs Γ (cxOf CX0 P w Γ.K mg base N x (defScope st) f cdv A outer s H E).nox (fun _ _ _ _ => False) (defBody st) t κ ∧ ∀ n xs R, φ n xs R (fun _ _ _ => False) → κ (initS false n N xs) (ends0 false R)) :
    PrAt P w Γ.K mg base CX0 (k + 1) x st ps sp :=
  mkA S len fun f cdv A outer s H vs Q E hG hr h => by
    obtain ⟨t, κ, d, q⟩ := hbody f cdv A outer s H E hG hr
    exact ⟨t, d.1, body0 (X := cxOf CX0 P w Γ.K mg base N x (defScope st) f cdv A outer s H E) (hin vs H Q E h) d.2 q hX⟩
variable {K : PySem.W.Frag}
theorem p_law (m_list : mg "list" = none) (m_tuple : mg "tuple" = none) (m_repr : mg "repr" = none) (h__law_power : Pr P w K mg base CX0 1 "_law_power" ["many"] (spP (lawG K C) false phPow)) (h__law_number : Pr P w K mg base CX0 3 "_law_number" ["sizes"] (spP (lawG K C) false phNum))
    (h_count_functions : Pr P w K mg base (L2N.CX P w) 3 "count_functions" ["widths"] (spP (lawG K C) false fun n xs R Xx => phCntT n xs R Xx ∨ phCntL n xs R Xx)) (k_count_functions : PrK P w K mg base (L2N.CX P w) 3 "count_functions" s_count_functions ["widths"] (spP (lawG K C) false fun n xs R Xx => phCntT n xs R Xx ∨ phCntL n xs R Xx)) :
    PrAt P w K mg base CX0 4 "law" s_law ["script"] (spLaw K) := by
  refine mkAPP (Γ := lawG K C) (φ := phLaw) sc_law (fun vs H Q E h => ?_) (fun _ _ _ _ h => law_in h) (fun _ _ _ _ h => h) (fun f cdv A outer s H E hG hr => ?_)
  · obtain ⟨_, _, rfl, _⟩ := h
    rfl
  · have nd := sc_law.nd
    refine ⟨_, _, (dss_cons (fun h h' => pss_cons h h') (ds_set (i := 1) (fun h => ps_set nd rfl (.inl rfl) h) (de_fz (dl_disp (fun h => pe_lst h) (da_cons (fun h t => pa_cons h t) (de_fz (dl_disp (fun h => pe_lst h) (da_cons (fun h t => pa_cons h t) (de_c pe_int (fun _ => .int _)) (da_nil pa_nil)))) (da_cons (fun h t => pa_cons h t) (de_fz (dl_disp (fun h => pe_lst h) (da_cons (fun h t => pa_cons h t) (de_c pe_int (fun _ => .int _)) (da_nil pa_nil)))) (da_cons (fun h t => pa_cons h t) (de_fz (dl_disp (fun h => pe_lst h) (da_cons (fun h t => pa_cons h t) (de_c pe_int (fun _ => .int _)) (da_nil pa_nil)))) (da_cons (fun h t => pa_cons h t) (de_fz (dl_disp (fun h => pe_lst h) (da_cons (fun h t => pa_cons h t) (de_c pe_int (fun _ => .int _)) (da_nil pa_nil)))) (da_cons (fun h t => pa_cons h t) (de_fz (dl_disp (fun h => pe_lst h) (da_cons (fun h t => pa_cons h t) (de_c pe_int (fun _ => .int _)) (da_cons (fun h t => pa_cons h t) (de_c pe_int (fun _ => .int _)) (da_nil pa_nil))))) (da_cons (fun h t => pa_cons h t) (de_fz (dl_disp (fun h => pe_lst h) (da_cons (fun h t => pa_cons h t) (de_c pe_int (fun _ => .int _)) (da_cons (fun h t => pa_cons h t) (de_c pe_int (fun _ => .int _)) (da_nil pa_nil))))) (da_cons (fun h t => pa_cons h t) (de_fz (dl_disp (fun h => pe_lst h) (da_cons (fun h t => pa_cons h t) (de_c pe_int (fun _ => .int _)) (da_cons (fun h t => pa_cons h t) (de_c pe_int (fun _ => .int _)) (da_nil pa_nil))))) (da_cons (fun h t => pa_cons h t) (de_fz (dl_disp (fun h => pe_lst h) (da_cons (fun h t => pa_cons h t) (de_c pe_int (fun _ => .int _)) (da_cons (fun h t => pa_cons h t) (de_c pe_int (fun _ => .int _)) (da_nil pa_nil))))) (da_cons (fun h t => pa_cons h t) (de_fz (dl_disp (fun h => pe_lst h) (da_cons (fun h t => pa_cons h t) (de_c pe_int (fun _ => .int _)) (da_cons (fun h t => pa_cons h t) (de_c pe_int (fun _ => .int _)) (da_nil pa_nil))))) (da_cons (fun h t => pa_cons h t) (de_fz (dl_disp (fun h => pe_lst h) (da_cons (fun h t => pa_cons h t) (de_c pe_int (fun _ => .int _)) (da_cons (fun h t => pa_cons h t) (de_c pe_int (fun _ => .int _)) (da_nil pa_nil))))) (da_nil pa_nil)))))))))))))) (dss_cons (fun h h' => pss_cons h h') (ds_for (fun hi hg hb => ps_for PassesOwn.never rfl hi hg hb) (di_list (fun h => pi_list h) (de_fz (dl_cat (fun h h' => pe_op op_cat h h') (de_var (pv 1)) (de_fz (dl_disp (fun h => pe_lst h) (da_cons (fun h t => pa_cons h t) (de_fz (dl_disp (fun h => pe_lst h) (da_cons (fun h t => pa_cons h t) (de_c pe_int (fun _ => .int _)) (da_cons (fun h t => pa_cons h t) (de_c pe_int (fun _ => .int _)) (da_cons (fun h t => pa_cons h t) (de_c pe_int (fun _ => .int _)) (da_nil pa_nil)))))) (da_cons (fun h t => pa_cons h t) (de_fz (dl_disp (fun h => pe_lst h) (da_cons (fun h t => pa_cons h t) (de_c pe_int (fun _ => .int _)) (da_cons (fun h t => pa_cons h t) (de_c pe_int (fun _ => .int _)) (da_cons (fun h t => pa_cons h t) (de_c pe_int (fun _ => .int _)) (da_nil pa_nil)))))) (da_cons (fun h t => pa_cons h t) (de_fz (dl_disp (fun h => pe_lst h) (da_cons (fun h t => pa_cons h t) (de_c pe_int (fun _ => .int _)) (da_cons (fun h t => pa_cons h t) (de_c pe_int (fun _ => .int _)) (da_cons (fun h t => pa_cons h t) (de_c pe_int (fun _ => .int _)) (da_nil pa_nil)))))) (da_cons (fun h t => pa_cons h t) (de_fz (dl_disp (fun h => pe_lst h) (da_cons (fun h t => pa_cons h t) (de_c pe_int (fun _ => .int _)) (da_cons (fun h t => pa_cons h t) (de_c pe_int (fun _ => .int _)) (da_cons (fun h t => pa_cons h t) (de_c pe_int (fun _ => .int _)) (da_nil pa_nil)))))) (da_nil pa_nil)))))))))) (dg_name (pg_name (i := 2) nd rfl (.inl rfl))) (dss_cons (fun h h' => pss_cons h h') (ds_par (i := 3) (j := 4) (fun h => ps_par (by rfl) nd rfl rfl (by decide) rfl rfl h (by rfl)) (da_cons (fun h t => pa_cons h t) (de_fz (dl_of (fun h => pe_callTy call_list_of (by rfl) m_list (by decide +kernel) (pa_cons h pa_nil)) (de_var (pv 2)))) (da_cons (fun h t => pa_cons h t) (de_call0 (fun h => pe_P h__law_number hr hG (by rfl) h) (da_cons (fun h t => pa_cons h t) (de_var (pv 2)) (da_nil pa_nil))) (da_nil pa_nil)))) (dss_cons (fun h h' => pss_cons h h') (ds_set (i := 5) (fun h => ps_set nd rfl (.inl rfl) h) (de_fz (dl_disp (fun h => pe_lst h) (da_cons (fun h t => pa_cons h t) (de_callX (fun h => pe_PX h_count_functions hr hG (by rfl) takesN h) (da_cons (fun h t => pa_cons h t) (de_var (pv 2)) (da_nil pa_nil))) (da_cons (fun h t => pa_cons h t) (de_callX (fun h => pe_PX h_count_functions hr hG (by rfl) takesN h) (da_cons (fun h t => pa_cons h t) (de_cb cd_tuple (fun h => pe_callTy call_tuple_of (by rfl) m_tuple (by decide +kernel) h) (da_cons (fun h t => pa_cons h t) (de_var (pv 2)) (da_nil pa_nil))) (da_nil pa_nil))) (da_cons (fun h t => pa_cons h t) (de_callKX (gA := fun xs => xs) (by exact fun h => h) (fun h => pe_KX k_count_functions hr hG (by rfl) takesN (ks := ["widths"]) (g := fun us => us) (gV := fun vs => vs) (fun _ _ _ _ _ _ us hl => match us, hl with | [_], _ => rfl) (fun h => h) h) (dk_cons (fun h t => pk_cons h t) (de_var (pv 2)) (dk_nil pk_nil))) (da_nil pa_nil))))))) (dss_one (fun h => pss_one h) (ds_if (fun h a b => ps_if h a b) (dt_pw (fun h => PW.pt h) (dw_or (fun h h' => pw_or h h') (dt_cmp opd_ne (fun h h' => pt_cmpR op_ne h h' (nomark _)) (de_cb cd_repr (fun h => pe_callB (cr_repD hG hr.units) (by rfl) m_repr (by decide +kernel) h) (da_cons (fun h t => pa_cons h t) (de_var (pv 5)) (da_nil pa_nil))) (de_cb cd_repr (fun h => pe_callB (cr_repD hG hr.units) (by rfl) m_repr (by decide +kernel) h) (da_cons (fun h t => pa_cons h t) (de_fz (dl_rep (fun h h' => pe_op op_rep h h') (de_fz (dl_disp (fun h => pe_lst h) (da_cons (fun h t => pa_cons h t) (de_var (pv 4)) (da_nil pa_nil)))) (de_c pe_int (fun _ => .int _)))) (da_nil pa_nil)))) (dw_or1 (fun h => pw_or1 h) (dt_cmp opd_neD (fun h h' => pt_cmpR (op_neD hr.units) h h' (nomark _)) (de_var (pv 2)) (de_var (pv 3)))))) (dss_one (fun h => pss_one h) (ds_ret (fun h => ps_ret h) (de_c pe_bl (fun _ => .bl _)))) (dss_nil pss_nil)))))) (dss_one (fun h => pss_one h) (ds_ret (fun h => ps_ret h) (de_op opd_eq (fun h h' => pe_cmpR op_eq h h' (nomark _)) (de_callX (fun h => pe_PX h_count_functions hr hG (by rfl) takesN h) (da_cons (fun h t => pa_cons h t) (de_tup (fun h => pe_tup h) (da_cons (fun h t => pa_cons h t) (de_c pe_int (fun _ => .int _)) (da_nil pa_nil))) (da_nil pa_nil))) (de_call0 (fun h => pe_P h__law_power hr hG (by rfl) h) (da_cons (fun h t => pa_cons h t) (de_c pe_int (fun _ => .int _)) (da_nil pa_nil)))))))), fun n xs R h => ?_⟩
    obtain ⟨⟨ns, rfl⟩, q⟩ := h
    show (sSeq _ _) [.a (.scr ns), .un, .un, .un, .un, .un] _
    refine y_seq.mpr ?_
    (try simp only [y_var, y_c, y_op, y_un, y_and, y_or, y_not, y_if, y_isN, y_notN, y_bOf, y_bTru, y_bNot, y_bYes, y_aNil, y_aCons, y_aStar, y_tup, y_disp, y_fz, y_cb, y_cat, y_of, y_sl, y_dO0, y_dO1, y_ixN, y_lenN, y_chain, y_call0, y_call, y_callR0, y_next, y_brk, y_cnt, y_asg, y_setO, y_gNm, y_gTp, y_gsNil, y_gsCons, y_subO, y_par, y_aug, y_expr, y_app, y_ext, y_ifS, y_ret, y_retN, y_for, y_while, y_iSeq, y_iTp, y_iR1, y_iR2, y_iEn, y_iZp, y_lc, y_raise, y_un1, y_rep, y_maxT, y_minT, y_tupRg, y_lenSet, y_call, endsX, outX, y_iZpM, y_dT, y_slT, y_divmod, y_aStar, y_par10, y_par01, y_cmpO, Bool.true_eq_false, reduceCtorEq, decide_true, decide_false, ix2_0, ix2_1, ix3_0, ix3_1, ix3_2, LcRun, LpRun, wipeP, restP, noX, dite_true, List.nil_append, List.cons_append, Option.getD_some, Option.getD_none, y_repr, y_tupleL, y_tupleT, y_sum, y_all, y_any, y_eqD, y_neD, y_rev, y_dn, y_orT, y_notT, y_ins, y_bits, y_bAnd, y_bOr, y_rt0, y_rtR, y_nx0, y_rtX, y_nxX, y_exX, inV2, inV3, flatD, vOf, List.all_cons, List.all_nil, Bool.and_self, sz_iff, Nat.reduceAdd, Nat.reduceLeDiff, Nat.zero_add, y_dD, y_dB, y_dI, y_dL, y_dSl, y_dSt, y_dAll0, y_dAllS, dAll_map, y_I0, y_I, y_eqI, y_eqS, y_eqB, y_neI, y_neS, y_neB, y_neg, y_ixL, y_ixT, y_min, y_max, y_abs, y_lenL, y_lenT, y_lenS, y_lenB, y_truL, y_truT, y_inL, y_inT, y_ex1, y_exO, y_exR, at0, at1, at2, at3, isNon, List.getElem?_cons_succ, List.getElem?_cons_zero, List.set_cons_succ, List.set_cons_zero, List.length_cons, List.length_nil, List.map_cons, List.map_nil, true_and, and_true, decide_eq_true_eq, Bool.not_eq_true', Bool.not_true, Bool.not_false, if_true, if_false, Bool.false_eq_true, ite_true, ite_false])
    refine y_seq.mpr ?_
    (try simp only [y_var, y_c, y_op, y_un, y_and, y_or, y_not, y_if, y_isN, y_notN, y_bOf, y_bTru, y_bNot, y_bYes, y_aNil, y_aCons, y_aStar, y_tup, y_disp, y_fz, y_cb, y_cat, y_of, y_sl, y_dO0, y_dO1, y_ixN, y_lenN, y_chain, y_call0, y_call, y_callR0, y_next, y_brk, y_cnt, y_asg, y_setO, y_gNm, y_gTp, y_gsNil, y_gsCons, y_subO, y_par, y_aug, y_expr, y_app, y_ext, y_ifS, y_ret, y_retN, y_for, y_while, y_iSeq, y_iTp, y_iR1, y_iR2, y_iEn, y_iZp, y_lc, y_raise, y_un1, y_rep, y_maxT, y_minT, y_tupRg, y_lenSet, y_call, endsX, outX, y_iZpM, y_dT, y_slT, y_divmod, y_aStar, y_par10, y_par01, y_cmpO, Bool.true_eq_false, reduceCtorEq, decide_true, decide_false, ix2_0, ix2_1, ix3_0, ix3_1, ix3_2, LcRun, LpRun, wipeP, restP, noX, dite_true, List.nil_append, List.cons_append, Option.getD_some, Option.getD_none, y_repr, y_tupleL, y_tupleT, y_sum, y_all, y_any, y_eqD, y_neD, y_rev, y_dn, y_orT, y_notT, y_ins, y_bits, y_bAnd, y_bOr, y_rt0, y_rtR, y_nx0, y_rtX, y_nxX, y_exX, inV2, inV3, flatD, vOf, List.all_cons, List.all_nil, Bool.and_self, sz_iff, Nat.reduceAdd, Nat.reduceLeDiff, Nat.zero_add, y_dD, y_dB, y_dI, y_dL, y_dSl, y_dSt, y_dAll0, y_dAllS, dAll_map, y_I0, y_I, y_eqI, y_eqS, y_eqB, y_neI, y_neS, y_neB, y_neg, y_ixL, y_ixT, y_min, y_max, y_abs, y_lenL, y_lenT, y_lenS, y_lenB, y_truL, y_truT, y_inL, y_inT, y_ex1, y_exO, y_exR, at0, at1, at2, at3, isNon, List.getElem?_cons_succ, List.getElem?_cons_zero, List.set_cons_succ, List.set_cons_zero, List.length_cons, List.length_nil, List.map_cons, List.map_nil, true_and, and_true, decide_eq_true_eq, Bool.not_eq_true', Bool.not_true, Bool.not_false, if_true, if_false, Bool.false_eq_true, ite_true, ite_false])
    change LoopP (all14.map encL) _ _ _ _
    refine loop (fun i ρ => ∃ y1 y2 y3 y4 y5 : Sl, ρ = [.a (.scr ns), y1, y2, y3, y4, y5]) ⟨_, _, _, _, _, rfl⟩ (fun i x ρ hx h => ?_) (fun ρ h => ?_)
    · obtain ⟨y1, y2, y3, y4, y5, rfl⟩ := h
      rw [List.getElem?_map] at hx
      obtain ⟨ws, hws, rfl⟩ := Option.map_eq_some_iff.mp hx
      have hin := List.mem_of_getElem? hws
      obtain ⟨n1, n2, n3⟩ := num_all ws hin
      unfold encL
      (try simp only [y_var, y_c, y_op, y_un, y_and, y_or, y_not, y_if, y_isN, y_notN, y_bOf, y_bTru, y_bNot, y_bYes, y_aNil, y_aCons, y_aStar, y_tup, y_disp, y_fz, y_cb, y_cat, y_of, y_sl, y_dO0, y_dO1, y_ixN, y_lenN, y_chain, y_call0, y_call, y_callR0, y_next, y_brk, y_cnt, y_asg, y_setO, y_gNm, y_gTp, y_gsNil, y_gsCons, y_subO, y_par, y_aug, y_expr, y_app, y_ext, y_ifS, y_ret, y_retN, y_for, y_while, y_iSeq, y_iTp, y_iR1, y_iR2, y_iEn, y_iZp, y_lc, y_raise, y_un1, y_rep, y_maxT, y_minT, y_tupRg, y_lenSet, y_call, endsX, outX, y_iZpM, y_dT, y_slT, y_divmod, y_aStar, y_par10, y_par01, y_cmpO, Bool.true_eq_false, reduceCtorEq, decide_true, decide_false, ix2_0, ix2_1, ix3_0, ix3_1, ix3_2, LcRun, LpRun, wipeP, restP, noX, dite_true, List.nil_append, List.cons_append, Option.getD_some, Option.getD_none, y_repr, y_tupleL, y_tupleT, y_sum, y_all, y_any, y_eqD, y_neD, y_rev, y_dn, y_orT, y_notT, y_ins, y_bits, y_bAnd, y_bOr, y_rt0, y_rtR, y_nx0, y_rtX, y_nxX, y_exX, inV2, inV3, flatD, vOf, List.all_cons, List.all_nil, Bool.and_self, sz_iff, Nat.reduceAdd, Nat.reduceLeDiff, Nat.zero_add, y_dD, y_dB, y_dI, y_dL, y_dSl, y_dSt, y_dAll0, y_dAllS, dAll_map, y_I0, y_I, y_eqI, y_eqS, y_eqB, y_neI, y_neS, y_neB, y_neg, y_ixL, y_ixT, y_min, y_max, y_abs, y_lenL, y_lenT, y_lenS, y_lenB, y_truL, y_truT, y_inL, y_inT, y_ex1, y_exO, y_exR, at0, at1, at2, at3, isNon, List.getElem?_cons_succ, List.getElem?_cons_zero, List.set_cons_succ, List.set_cons_zero, List.length_cons, List.length_nil, List.map_cons, List.map_nil, true_and, and_true, decide_eq_true_eq, Bool.not_eq_true', Bool.not_true, Bool.not_false, if_true, if_false, Bool.false_eq_true, ite_true, ite_false])
      refine y_seq.mpr ?_
      (try simp only [y_var, y_c, y_op, y_un, y_and, y_or, y_not, y_if, y_isN, y_notN, y_bOf, y_bTru, y_bNot, y_bYes, y_aNil, y_aCons, y_aStar, y_tup, y_disp, y_fz, y_cb, y_cat, y_of, y_sl, y_dO0, y_dO1, y_ixN, y_lenN, y_chain, y_call0, y_call, y_callR0, y_next, y_brk, y_cnt, y_asg, y_setO, y_gNm, y_gTp, y_gsNil, y_gsCons, y_subO, y_par, y_aug, y_expr, y_app, y_ext, y_ifS, y_ret, y_retN, y_for, y_while, y_iSeq, y_iTp, y_iR1, y_iR2, y_iEn, y_iZp, y_lc, y_raise, y_un1, y_rep, y_maxT, y_minT, y_tupRg, y_lenSet, y_call, endsX, outX, y_iZpM, y_dT, y_slT, y_divmod, y_aStar, y_par10, y_par01, y_cmpO, Bool.true_eq_false, reduceCtorEq, decide_true, decide_false, ix2_0, ix2_1, ix3_0, ix3_1, ix3_2, LcRun, LpRun, wipeP, restP, noX, dite_true, List.nil_append, List.cons_append, Option.getD_some, Option.getD_none, y_repr, y_tupleL, y_tupleT, y_sum, y_all, y_any, y_eqD, y_neD, y_rev, y_dn, y_orT, y_notT, y_ins, y_bits, y_bAnd, y_bOr, y_rt0, y_rtR, y_nx0, y_rtX, y_nxX, y_exX, inV2, inV3, flatD, vOf, List.all_cons, List.all_nil, Bool.and_self, sz_iff, Nat.reduceAdd, Nat.reduceLeDiff, Nat.zero_add, y_dD, y_dB, y_dI, y_dL, y_dSl, y_dSt, y_dAll0, y_dAllS, dAll_map, y_I0, y_I, y_eqI, y_eqS, y_eqB, y_neI, y_neS, y_neB, y_neg, y_ixL, y_ixT, y_min, y_max, y_abs, y_lenL, y_lenT, y_lenS, y_lenB, y_truL, y_truT, y_inL, y_inT, y_ex1, y_exO, y_exR, at0, at1, at2, at3, isNon, List.getElem?_cons_succ, List.getElem?_cons_zero, List.set_cons_succ, List.set_cons_zero, List.length_cons, List.length_nil, List.map_cons, List.map_nil, true_and, and_true, decide_eq_true_eq, Bool.not_eq_true', Bool.not_true, Bool.not_false, if_true, if_false, Bool.false_eq_true, ite_true, ite_false])
      obtain ⟨b1, b2, b3⟩ := bnd_all ws hin
      obtain ⟨w1, w2, w3⟩ := shw_all ws hin
      refine ⟨ws, rfl, b1, n1, ?_⟩
      rw [n2]
      (try simp only [y_var, y_c, y_op, y_un, y_and, y_or, y_not, y_if, y_isN, y_notN, y_bOf, y_bTru, y_bNot, y_bYes, y_aNil, y_aCons, y_aStar, y_tup, y_disp, y_fz, y_cb, y_cat, y_of, y_sl, y_dO0, y_dO1, y_ixN, y_lenN, y_chain, y_call0, y_call, y_callR0, y_next, y_brk, y_cnt, y_asg, y_setO, y_gNm, y_gTp, y_gsNil, y_gsCons, y_subO, y_par, y_aug, y_expr, y_app, y_ext, y_ifS, y_ret, y_retN, y_for, y_while, y_iSeq, y_iTp, y_iR1, y_iR2, y_iEn, y_iZp, y_lc, y_raise, y_un1, y_rep, y_maxT, y_minT, y_tupRg, y_lenSet, y_call, endsX, outX, y_iZpM, y_dT, y_slT, y_divmod, y_aStar, y_par10, y_par01, y_cmpO, Bool.true_eq_false, reduceCtorEq, decide_true, decide_false, ix2_0, ix2_1, ix3_0, ix3_1, ix3_2, LcRun, LpRun, wipeP, restP, noX, dite_true, List.nil_append, List.cons_append, Option.getD_some, Option.getD_none, y_repr, y_tupleL, y_tupleT, y_sum, y_all, y_any, y_eqD, y_neD, y_rev, y_dn, y_orT, y_notT, y_ins, y_bits, y_bAnd, y_bOr, y_rt0, y_rtR, y_nx0, y_rtX, y_nxX, y_exX, inV2, inV3, flatD, vOf, List.all_cons, List.all_nil, Bool.and_self, sz_iff, Nat.reduceAdd, Nat.reduceLeDiff, Nat.zero_add, y_dD, y_dB, y_dI, y_dL, y_dSl, y_dSt, y_dAll0, y_dAllS, dAll_map, y_I0, y_I, y_eqI, y_eqS, y_eqB, y_neI, y_neS, y_neB, y_neg, y_ixL, y_ixT, y_min, y_max, y_abs, y_lenL, y_lenT, y_lenS, y_lenB, y_truL, y_truT, y_inL, y_inT, y_ex1, y_exO, y_exR, at0, at1, at2, at3, isNon, List.getElem?_cons_succ, List.getElem?_cons_zero, List.set_cons_succ, List.set_cons_zero, List.length_cons, List.length_nil, List.map_cons, List.map_nil, true_and, and_true, decide_eq_true_eq, Bool.not_eq_true', Bool.not_true, Bool.not_false, if_true, if_false, Bool.false_eq_true, ite_true, ite_false])
      refine y_seq.mpr ?_
      (try simp only [y_var, y_c, y_op, y_un, y_and, y_or, y_not, y_if, y_isN, y_notN, y_bOf, y_bTru, y_bNot, y_bYes, y_aNil, y_aCons, y_aStar, y_tup, y_disp, y_fz, y_cb, y_cat, y_of, y_sl, y_dO0, y_dO1, y_ixN, y_lenN, y_chain, y_call0, y_call, y_callR0, y_next, y_brk, y_cnt, y_asg, y_setO, y_gNm, y_gTp, y_gsNil, y_gsCons, y_subO, y_par, y_aug, y_expr, y_app, y_ext, y_ifS, y_ret, y_retN, y_for, y_while, y_iSeq, y_iTp, y_iR1, y_iR2, y_iEn, y_iZp, y_lc, y_raise, y_un1, y_rep, y_maxT, y_minT, y_tupRg, y_lenSet, y_call, endsX, outX, y_iZpM, y_dT, y_slT, y_divmod, y_aStar, y_par10, y_par01, y_cmpO, Bool.true_eq_false, reduceCtorEq, decide_true, decide_false, ix2_0, ix2_1, ix3_0, ix3_1, ix3_2, LcRun, LpRun, wipeP, restP, noX, dite_true, List.nil_append, List.cons_append, Option.getD_some, Option.getD_none, y_repr, y_tupleL, y_tupleT, y_sum, y_all, y_any, y_eqD, y_neD, y_rev, y_dn, y_orT, y_notT, y_ins, y_bits, y_bAnd, y_bOr, y_rt0, y_rtR, y_nx0, y_rtX, y_nxX, y_exX, inV2, inV3, flatD, vOf, List.all_cons, List.all_nil, Bool.and_self, sz_iff, Nat.reduceAdd, Nat.reduceLeDiff, Nat.zero_add, y_dD, y_dB, y_dI, y_dL, y_dSl, y_dSt, y_dAll0, y_dAllS, dAll_map, y_I0, y_I, y_eqI, y_eqS, y_eqB, y_neI, y_neS, y_neB, y_neg, y_ixL, y_ixT, y_min, y_max, y_abs, y_lenL, y_lenT, y_lenS, y_lenB, y_truL, y_truT, y_inL, y_inT, y_ex1, y_exO, y_exR, at0, at1, at2, at3, isNon, List.getElem?_cons_succ, List.getElem?_cons_zero, List.set_cons_succ, List.set_cons_zero, List.length_cons, List.length_nil, List.map_cons, List.map_nil, true_and, and_true, decide_eq_true_eq, Bool.not_eq_true', Bool.not_true, Bool.not_false, if_true, if_false, Bool.false_eq_true, ite_true, ite_false])
      refine cnt_in b1 b2 b3 n3 (.inl rfl) ?_
      (try simp only [y_var, y_c, y_op, y_un, y_and, y_or, y_not, y_if, y_isN, y_notN, y_bOf, y_bTru, y_bNot, y_bYes, y_aNil, y_aCons, y_aStar, y_tup, y_disp, y_fz, y_cb, y_cat, y_of, y_sl, y_dO0, y_dO1, y_ixN, y_lenN, y_chain, y_call0, y_call, y_callR0, y_next, y_brk, y_cnt, y_asg, y_setO, y_gNm, y_gTp, y_gsNil, y_gsCons, y_subO, y_par, y_aug, y_expr, y_app, y_ext, y_ifS, y_ret, y_retN, y_for, y_while, y_iSeq, y_iTp, y_iR1, y_iR2, y_iEn, y_iZp, y_lc, y_raise, y_un1, y_rep, y_maxT, y_minT, y_tupRg, y_lenSet, y_call, endsX, outX, y_iZpM, y_dT, y_slT, y_divmod, y_aStar, y_par10, y_par01, y_cmpO, Bool.true_eq_false, reduceCtorEq, decide_true, decide_false, ix2_0, ix2_1, ix3_0, ix3_1, ix3_2, LcRun, LpRun, wipeP, restP, noX, dite_true, List.nil_append, List.cons_append, Option.getD_some, Option.getD_none, y_repr, y_tupleL, y_tupleT, y_sum, y_all, y_any, y_eqD, y_neD, y_rev, y_dn, y_orT, y_notT, y_ins, y_bits, y_bAnd, y_bOr, y_rt0, y_rtR, y_nx0, y_rtX, y_nxX, y_exX, inV2, inV3, flatD, vOf, List.all_cons, List.all_nil, Bool.and_self, sz_iff, Nat.reduceAdd, Nat.reduceLeDiff, Nat.zero_add, y_dD, y_dB, y_dI, y_dL, y_dSl, y_dSt, y_dAll0, y_dAllS, dAll_map, y_I0, y_I, y_eqI, y_eqS, y_eqB, y_neI, y_neS, y_neB, y_neg, y_ixL, y_ixT, y_min, y_max, y_abs, y_lenL, y_lenT, y_lenS, y_lenB, y_truL, y_truT, y_inL, y_inT, y_ex1, y_exO, y_exR, at0, at1, at2, at3, isNon, List.getElem?_cons_succ, List.getElem?_cons_zero, List.set_cons_succ, List.set_cons_zero, List.length_cons, List.length_nil, List.map_cons, List.map_nil, true_and, and_true, decide_eq_true_eq, Bool.not_eq_true', Bool.not_true, Bool.not_false, if_true, if_false, Bool.false_eq_true, ite_true, ite_false])
      refine cnt_in b1 b2 b3 n3 (.inr rfl) ?_
      (try simp only [y_var, y_c, y_op, y_un, y_and, y_or, y_not, y_if, y_isN, y_notN, y_bOf, y_bTru, y_bNot, y_bYes, y_aNil, y_aCons, y_aStar, y_tup, y_disp, y_fz, y_cb, y_cat, y_of, y_sl, y_dO0, y_dO1, y_ixN, y_lenN, y_chain, y_call0, y_call, y_callR0, y_next, y_brk, y_cnt, y_asg, y_setO, y_gNm, y_gTp, y_gsNil, y_gsCons, y_subO, y_par, y_aug, y_expr, y_app, y_ext, y_ifS, y_ret, y_retN, y_for, y_while, y_iSeq, y_iTp, y_iR1, y_iR2, y_iEn, y_iZp, y_lc, y_raise, y_un1, y_rep, y_maxT, y_minT, y_tupRg, y_lenSet, y_call, endsX, outX, y_iZpM, y_dT, y_slT, y_divmod, y_aStar, y_par10, y_par01, y_cmpO, Bool.true_eq_false, reduceCtorEq, decide_true, decide_false, ix2_0, ix2_1, ix3_0, ix3_1, ix3_2, LcRun, LpRun, wipeP, restP, noX, dite_true, List.nil_append, List.cons_append, Option.getD_some, Option.getD_none, y_repr, y_tupleL, y_tupleT, y_sum, y_all, y_any, y_eqD, y_neD, y_rev, y_dn, y_orT, y_notT, y_ins, y_bits, y_bAnd, y_bOr, y_rt0, y_rtR, y_nx0, y_rtX, y_nxX, y_exX, inV2, inV3, flatD, vOf, List.all_cons, List.all_nil, Bool.and_self, sz_iff, Nat.reduceAdd, Nat.reduceLeDiff, Nat.zero_add, y_dD, y_dB, y_dI, y_dL, y_dSl, y_dSt, y_dAll0, y_dAllS, dAll_map, y_I0, y_I, y_eqI, y_eqS, y_eqB, y_neI, y_neS, y_neB, y_neg, y_ixL, y_ixT, y_min, y_max, y_abs, y_lenL, y_lenT, y_lenS, y_lenB, y_truL, y_truT, y_inL, y_inT, y_ex1, y_exO, y_exR, at0, at1, at2, at3, isNon, List.getElem?_cons_succ, List.getElem?_cons_zero, List.set_cons_succ, List.set_cons_zero, List.length_cons, List.length_nil, List.map_cons, List.map_nil, true_and, and_true, decide_eq_true_eq, Bool.not_eq_true', Bool.not_true, Bool.not_false, if_true, if_false, Bool.false_eq_true, ite_true, ite_false])
      refine cnt_in b1 b2 b3 n3 (.inl rfl) ?_
      (try simp only [y_var, y_c, y_op, y_un, y_and, y_or, y_not, y_if, y_isN, y_notN, y_bOf, y_bTru, y_bNot, y_bYes, y_aNil, y_aCons, y_aStar, y_tup, y_disp, y_fz, y_cb, y_cat, y_of, y_sl, y_dO0, y_dO1, y_ixN, y_lenN, y_chain, y_call0, y_call, y_callR0, y_next, y_brk, y_cnt, y_asg, y_setO, y_gNm, y_gTp, y_gsNil, y_gsCons, y_subO, y_par, y_aug, y_expr, y_app, y_ext, y_ifS, y_ret, y_retN, y_for, y_while, y_iSeq, y_iTp, y_iR1, y_iR2, y_iEn, y_iZp, y_lc, y_raise, y_un1, y_rep, y_maxT, y_minT, y_tupRg, y_lenSet, y_call, endsX, outX, y_iZpM, y_dT, y_slT, y_divmod, y_aStar, y_par10, y_par01, y_cmpO, Bool.true_eq_false, reduceCtorEq, decide_true, decide_false, ix2_0, ix2_1, ix3_0, ix3_1, ix3_2, LcRun, LpRun, wipeP, restP, noX, dite_true, List.nil_append, List.cons_append, Option.getD_some, Option.getD_none, y_repr, y_tupleL, y_tupleT, y_sum, y_all, y_any, y_eqD, y_neD, y_rev, y_dn, y_orT, y_notT, y_ins, y_bits, y_bAnd, y_bOr, y_rt0, y_rtR, y_nx0, y_rtX, y_nxX, y_exX, inV2, inV3, flatD, vOf, List.all_cons, List.all_nil, Bool.and_self, sz_iff, Nat.reduceAdd, Nat.reduceLeDiff, Nat.zero_add, y_dD, y_dB, y_dI, y_dL, y_dSl, y_dSt, y_dAll0, y_dAllS, dAll_map, y_I0, y_I, y_eqI, y_eqS, y_eqB, y_neI, y_neS, y_neB, y_neg, y_ixL, y_ixT, y_min, y_max, y_abs, y_lenL, y_lenT, y_lenS, y_lenB, y_truL, y_truT, y_inL, y_inT, y_ex1, y_exO, y_exR, at0, at1, at2, at3, isNon, List.getElem?_cons_succ, List.getElem?_cons_zero, List.set_cons_succ, List.set_cons_zero, List.length_cons, List.length_nil, List.map_cons, List.map_nil, true_and, and_true, decide_eq_true_eq, Bool.not_eq_true', Bool.not_true, Bool.not_false, if_true, if_false, Bool.false_eq_true, ite_true, ite_false])
      rw [show (List.replicate (Int.toNat 3) [PyData.int (cntW ws)]).flatten = [PyData.int (cntW ws), .int (cntW ws), .int (cntW ws)] from rfl]
      refine ⟨w1, w2, w3, by decide, by decide, by show (3 : Nat) ≤ sizeLine; rw [sizeLine_eq]; decide, w1, w2, w3, ?_⟩
      rw [decide_eq_true rfl, if_neg (by decide)]
      have sh := shp_all ws hin
      refine ⟨sh, sh, ?_⟩
      rw [eqv_same sh, if_neg (by decide)]
      exact ⟨_, _, _, _, _, rfl⟩
    · obtain ⟨y1, y2, y3, y4, y5, rfl⟩ := h
      (try simp only [y_var, y_c, y_op, y_un, y_and, y_or, y_not, y_if, y_isN, y_notN, y_bOf, y_bTru, y_bNot, y_bYes, y_aNil, y_aCons, y_aStar, y_tup, y_disp, y_fz, y_cb, y_cat, y_of, y_sl, y_dO0, y_dO1, y_ixN, y_lenN, y_chain, y_call0, y_call, y_callR0, y_next, y_brk, y_cnt, y_asg, y_setO, y_gNm, y_gTp, y_gsNil, y_gsCons, y_subO, y_par, y_aug, y_expr, y_app, y_ext, y_ifS, y_ret, y_retN, y_for, y_while, y_iSeq, y_iTp, y_iR1, y_iR2, y_iEn, y_iZp, y_lc, y_raise, y_un1, y_rep, y_maxT, y_minT, y_tupRg, y_lenSet, y_call, endsX, outX, y_iZpM, y_dT, y_slT, y_divmod, y_aStar, y_par10, y_par01, y_cmpO, Bool.true_eq_false, reduceCtorEq, decide_true, decide_false, ix2_0, ix2_1, ix3_0, ix3_1, ix3_2, LcRun, LpRun, wipeP, restP, noX, dite_true, List.nil_append, List.cons_append, Option.getD_some, Option.getD_none, y_repr, y_tupleL, y_tupleT, y_sum, y_all, y_any, y_eqD, y_neD, y_rev, y_dn, y_orT, y_notT, y_ins, y_bits, y_bAnd, y_bOr, y_rt0, y_rtR, y_nx0, y_rtX, y_nxX, y_exX, inV2, inV3, flatD, vOf, List.all_cons, List.all_nil, Bool.and_self, sz_iff, Nat.reduceAdd, Nat.reduceLeDiff, Nat.zero_add, y_dD, y_dB, y_dI, y_dL, y_dSl, y_dSt, y_dAll0, y_dAllS, dAll_map, y_I0, y_I, y_eqI, y_eqS, y_eqB, y_neI, y_neS, y_neB, y_neg, y_ixL, y_ixT, y_min, y_max, y_abs, y_lenL, y_lenT, y_lenS, y_lenB, y_truL, y_truT, y_inL, y_inT, y_ex1, y_exO, y_exR, at0, at1, at2, at3, isNon, List.getElem?_cons_succ, List.getElem?_cons_zero, List.set_cons_succ, List.set_cons_zero, List.length_cons, List.length_nil, List.map_cons, List.map_nil, true_and, and_true, decide_eq_true_eq, Bool.not_eq_true', Bool.not_true, Bool.not_false, if_true, if_false, Bool.false_eq_true, ite_true, ite_false])
      refine cnt_in (ws := [64]) (by decide) (by decide) (by decide) (by decide +kernel) (.inr rfl) ?_
      refine ⟨64, rfl, by decide, by decide, ?_⟩
      (try simp only [y_var, y_c, y_op, y_un, y_and, y_or, y_not, y_if, y_isN, y_notN, y_bOf, y_bTru, y_bNot, y_bYes, y_aNil, y_aCons, y_aStar, y_tup, y_disp, y_fz, y_cb, y_cat, y_of, y_sl, y_dO0, y_dO1, y_ixN, y_lenN, y_chain, y_call0, y_call, y_callR0, y_next, y_brk, y_cnt, y_asg, y_setO, y_gNm, y_gTp, y_gsNil, y_gsCons, y_subO, y_par, y_aug, y_expr, y_app, y_ext, y_ifS, y_ret, y_retN, y_for, y_while, y_iSeq, y_iTp, y_iR1, y_iR2, y_iEn, y_iZp, y_lc, y_raise, y_un1, y_rep, y_maxT, y_minT, y_tupRg, y_lenSet, y_call, endsX, outX, y_iZpM, y_dT, y_slT, y_divmod, y_aStar, y_par10, y_par01, y_cmpO, Bool.true_eq_false, reduceCtorEq, decide_true, decide_false, ix2_0, ix2_1, ix3_0, ix3_1, ix3_2, LcRun, LpRun, wipeP, restP, noX, dite_true, List.nil_append, List.cons_append, Option.getD_some, Option.getD_none, y_repr, y_tupleL, y_tupleT, y_sum, y_all, y_any, y_eqD, y_neD, y_rev, y_dn, y_orT, y_notT, y_ins, y_bits, y_bAnd, y_bOr, y_rt0, y_rtR, y_nx0, y_rtX, y_nxX, y_exX, inV2, inV3, flatD, vOf, List.all_cons, List.all_nil, Bool.and_self, sz_iff, Nat.reduceAdd, Nat.reduceLeDiff, Nat.zero_add, y_dD, y_dB, y_dI, y_dL, y_dSl, y_dSt, y_dAll0, y_dAllS, dAll_map, y_I0, y_I, y_eqI, y_eqS, y_eqB, y_neI, y_neS, y_neB, y_neg, y_ixL, y_ixT, y_min, y_max, y_abs, y_lenL, y_lenT, y_lenS, y_lenB, y_truL, y_truT, y_inL, y_inT, y_ex1, y_exO, y_exR, at0, at1, at2, at3, isNon, List.getElem?_cons_succ, List.getElem?_cons_zero, List.set_cons_succ, List.set_cons_zero, List.length_cons, List.length_nil, List.map_cons, List.map_nil, true_and, and_true, decide_eq_true_eq, Bool.not_eq_true', Bool.not_true, Bool.not_false, if_true, if_false, Bool.false_eq_true, ite_true, ite_false])
      rw [decide_eq_true (show cntW [64] = 2 ^ Int.toNat 64 by decide +kernel)]
      exact q
end

end Cc

set_option Elab.async false
set_option linter.all false
set_option maxRecDepth 100000
set_option maxHeartbeats 4000000
namespace Cc
open PySem PySem.Spec PyProof.Rows L2
section
variable {P : Program} {w : World} {K : PySem.W.Frag} {mg : Str → Option Value} {base : Heap} {C fI : Nat → Addr} {fd : Nat → FuncData} {C0 CSp fS : Addr} {fdS : FuncData}
theorem all_pr (Y : Cls P w K mg base C fI fd C0)
    (T_are_widths : Tx K mg "are_widths" s_are_widths)
    (T_count_functions : Tx K mg "count_functions" s_count_functions)
    (T__law_power : Tx K mg "_law_power" s_law_power)
    (T__law_bits : Tx K mg "_law_bits" s_law_bits)
    (T__law_behind : Tx K mg "_law_behind" s_law_behind)
    (T__law_number : Tx K mg "_law_number" s_law_number)
    (m_range : mg "range" = none)
    (m_tuple : mg "tuple" = none)
    (m_list : mg "list" = none)
    (m_len : mg "len" = none)
    (m_max : mg "max" = none)
    (m_min : mg "min" = none)
    (m_set : mg "set" = none)
    (m_all : mg "all" = none)
    (m_zip : mg "zip" = none)
    (m_repr : mg "repr" = none) : PrAt P w K mg base CX0 4 "law" s_law ["script"] (spLaw K) := by
  have g1 := p_power (P := P) (w := w) (base := base) T__law_power
  have g2 := p_behind (P := P) (w := w) (base := base) T__law_behind m_range m_tuple m_list g1
  have q1 := q_power (Γ := lawG K C) g1
  have q2 := q_behind (Γ := lawG K C) g2
  have q3 := q_bits (P := P) (w := w) (base := base) (Γ := lawG K C) T__law_bits
  have q4 := q_number (Γ := lawG K C) T__law_number m_range m_tuple m_len m_max m_min m_set q1 q2 q3
  have c1 := q_are (P := P) (w := w) (base := base) (Γ := lawG K C) T_are_widths m_all m_zip
  have k3 := k_count (Γ := lawG K C) T_count_functions Y c1
  have c3 := k3.pr fun _ _ _ _ _ _ us hl => match us, hl with | [_], _ => rfl
  exact p_law m_list m_tuple m_repr q1 q4 c3 k3
end
abbrev s_InvalidForm : Stmt := topS 2
theorem sc_InvalidForm : FnScope ["self", "value"] ["self", "value"] (defScope (inClass s_InvalidForm 0)) := ⟨rfl, rfl, rfl, by decide +kernel, rfl, by decide +kernel, by decide +kernel⟩
theorem ini_InvalidForm {P : Program} {w : World} {K : PySem.W.Frag} {mg : Str → Option Value} {base : Heap} {C f : Addr} {fd : FuncData} (F : Fun K "__init__" "InvalidForm.__init__" (inClass s_InvalidForm 0) f fd) (T : OexC K C) (no : PySem.W.findIn K (.ref C) "value" = some none) :
    FnOk P w K mg base CX0 1 f fd ["self", "value"] (spInit K C) := by
  refine F.ok sc_InvalidForm (fun vs H Q E h => ?_) (fun cdv A outer s H vs Q E hr h => ⟨_, pss_one (ps_ost (pv 0) (pv 1)), ?_⟩)
  · obtain ⟨_, _, rfl, _⟩ := h
    rfl
  · obtain ⟨a, v, rfl, ha, q⟩ := h
    exact ⟨v, rfl, .ref a, rfl, a, C, rfl, T, no, .inl ⟨ha, fun dx hn hne => q dx hn hne⟩⟩
theorem kw_InvalidForm {K : PySem.W.Frag} {f : Addr} {fd : FuncData} (F : Fun K "__init__" "InvalidForm.__init__" (inClass s_InvalidForm 0) f fd) (s : Shared) (u v : Value) : BindsTo s fd ⟨[u], [("value", v)]⟩ [("self", u), ("value", v)] := by
  obtain ⟨oc, od, kV, doc, pm, an, cdv, ct, osl, rfl, _, _⟩ := F.ex
  exact .of_eq rfl
theorem all_mk {l : PySem.W.OpenLaw} {w : World} {K : PySem.W.Frag} {h : Heap} {mg : Str → Option Value} {fa : Addr} (X : K.In h) (G : h.Ns mainGlobals mg) (hfa : mg "law" = some (.ref fa))
    {f0 : Addr} {oc0 kV0 dc0 pm0 cd0 ct0 : Value} {od0 an0 : Option Addr} {sl0 : Array (Option Value)}
    {f1 : Addr} {oc1 kV1 dc1 pm1 cd1 ct1 : Value} {od1 an1 : Option Addr} {sl1 : Array (Option Value)}
    {f2 : Addr} {oc2 kV2 dc2 pm2 cd2 ct2 : Value} {od2 an2 : Option Addr} {sl2 : Array (Option Value)}
    {f3 : Addr} {oc3 kV3 dc3 pm3 cd3 ct3 : Value} {od3 an3 : Option Addr} {sl3 : Array (Option Value)}
    {f4 : Addr} {oc4 kV4 dc4 pm4 cd4 ct4 : Value} {od4 an4 : Option Addr} {sl4 : Array (Option Value)}
    {f5 : Addr} {oc5 kV5 dc5 pm5 cd5 ct5 : Value} {od5 an5 : Option Addr} {sl5 : Array (Option Value)}
    {f6 : Addr} {oc6 kV6 dc6 pm6 cd6 ct6 : Value} {od6 an6 : Option Addr} {sl6 : Array (Option Value)}
    {C0 fi0 : Addr} {nm0 qq0 : Str} {NN0 : Addr} {bs0 bm0 sub0 : List Value} {sn0 : List Str} {ab0 : Bool} {col0 : Option Bool} {dd0 : Option Addr} {kx0_0 kx1_0 kx2_0 kx3_0 kx5_0 : Option Value} {ioc0 ikV0 idc0 ipm0 icd0 ict0 : Value} {iod0 ian0 : Option Addr} {isl0 : Array (Option Value)}
    {C0x : Addr}
    (a0 : PySem.W.nsIn K mainGlobals "are_widths" = some (some (.ref f0))) (l0 : K.lookup f0 = some ⟨oc0, od0, .func (PySem.W.fnOf "are_widths" "are_widths" (defArgs s_are_widths) (defBody s_are_widths) (defScope s_are_widths) .none kV0 dc0 pm0 an0 cd0 ct0), sl0⟩) (c0 : PySem.W.codeIn K cd0 "are_widths" = true) (k0 : PySem.W.keepIn K (.ref f0) = true)
    (a1 : PySem.W.nsIn K mainGlobals "count_functions" = some (some (.ref f1))) (l1 : K.lookup f1 = some ⟨oc1, od1, .func (PySem.W.fnOf "count_functions" "count_functions" (defArgs s_count_functions) (defBody s_count_functions) (defScope s_count_functions) .none kV1 dc1 pm1 an1 cd1 ct1), sl1⟩) (c1 : PySem.W.codeIn K cd1 "count_functions" = true) (k1 : PySem.W.keepIn K (.ref f1) = true)
    (a2 : PySem.W.nsIn K mainGlobals "_law_power" = some (some (.ref f2))) (l2 : K.lookup f2 = some ⟨oc2, od2, .func (PySem.W.fnOf "_law_power" "_law_power" (defArgs s_law_power) (defBody s_law_power) (defScope s_law_power) .none kV2 dc2 pm2 an2 cd2 ct2), sl2⟩) (c2 : PySem.W.codeIn K cd2 "_law_power" = true) (k2 : PySem.W.keepIn K (.ref f2) = true)
    (a3 : PySem.W.nsIn K mainGlobals "_law_bits" = some (some (.ref f3))) (l3 : K.lookup f3 = some ⟨oc3, od3, .func (PySem.W.fnOf "_law_bits" "_law_bits" (defArgs s_law_bits) (defBody s_law_bits) (defScope s_law_bits) .none kV3 dc3 pm3 an3 cd3 ct3), sl3⟩) (c3 : PySem.W.codeIn K cd3 "_law_bits" = true) (k3 : PySem.W.keepIn K (.ref f3) = true)
    (a4 : PySem.W.nsIn K mainGlobals "_law_behind" = some (some (.ref f4))) (l4 : K.lookup f4 = some ⟨oc4, od4, .func (PySem.W.fnOf "_law_behind" "_law_behind" (defArgs s_law_behind) (defBody s_law_behind) (defScope s_law_behind) .none kV4 dc4 pm4 an4 cd4 ct4), sl4⟩) (c4 : PySem.W.codeIn K cd4 "_law_behind" = true) (k4 : PySem.W.keepIn K (.ref f4) = true)
    (a5 : PySem.W.nsIn K mainGlobals "_law_number" = some (some (.ref f5))) (l5 : K.lookup f5 = some ⟨oc5, od5, .func (PySem.W.fnOf "_law_number" "_law_number" (defArgs s_law_number) (defBody s_law_number) (defScope s_law_number) .none kV5 dc5 pm5 an5 cd5 ct5), sl5⟩) (c5 : PySem.W.codeIn K cd5 "_law_number" = true) (k5 : PySem.W.keepIn K (.ref f5) = true)
    (a6 : PySem.W.nsIn K mainGlobals "law" = some (some (.ref f6))) (l6 : K.lookup f6 = some ⟨oc6, od6, .func (PySem.W.fnOf "law" "law" (defArgs s_law) (defBody s_law) (defScope s_law) .none kV6 dc6 pm6 an6 cd6 ct6), sl6⟩) (c6 : PySem.W.codeIn K cd6 "law" = true) (k6 : PySem.W.keepIn K (.ref f6) = true)
    (z_range : PySem.W.nsIn K mainGlobals "range" = some none)
    (z_tuple : PySem.W.nsIn K mainGlobals "tuple" = some none)
    (z_list : PySem.W.nsIn K mainGlobals "list" = some none)
    (z_len : PySem.W.nsIn K mainGlobals "len" = some none)
    (z_max : PySem.W.nsIn K mainGlobals "max" = some none)
    (z_min : PySem.W.nsIn K mainGlobals "min" = some none)
    (z_set : PySem.W.nsIn K mainGlobals "set" = some none)
    (z_all : PySem.W.nsIn K mainGlobals "all" = some none)
    (z_zip : PySem.W.nsIn K mainGlobals "zip" = some none)
    (z_repr : PySem.W.nsIn K mainGlobals "repr" = some none)
    (gC0 : PySem.W.nsIn K mainGlobals "InvalidForm" = some (some (.ref C0)))
    (xL0 : K.lookup C0 = some (excClassObj nm0 qq0 C0 NN0 bs0 bm0 true sn0 sub0 ab0 col0 dd0 kx0_0 kx1_0 kx2_0 kx3_0 kx5_0 "ValueError.__new__"))
    (bv0 : PySem.HandSPX.refsVE bm0 = true)
    (sa0 : PySem.W.findIn K (.ref C0) "__setattr__" = some (some (.builtin "object.__setattr__")))
    (ga0 : PySem.W.findIn K (.ref C0) "__getattribute__" = some (some (.builtin "BaseException.__getattribute__")))
    (gg0 : PySem.W.findIn K (.ref C0) "__getattr__" = some none)
    (nb0 : PySem.W.findIn K (.ref C0) "value" = some none)
    (iC0 : PySem.W.findIn K (.ref C0) "__init__" = some (some (.ref fi0)))
    (tI0 : PySem.W.typeIn K (.ref fi0) = some (.type "function"))
    (lI0 : K.lookup fi0 = some ⟨ioc0, iod0, .func (PySem.W.fnOf "__init__" "InvalidForm.__init__" (defArgs (inClass s_InvalidForm 0)) (defBody (inClass s_InvalidForm 0)) (defScope (inClass s_InvalidForm 0)) .none ikV0 idc0 ipm0 ian0 icd0 ict0), isl0⟩)
    (cI0 : PySem.W.codeIn K icd0 "InvalidForm.__init__" = true)
    (kI0 : PySem.W.keepIn K (.ref fi0) = true)
    (kC0 : PySem.W.keepIn K (.ref C0) = true)
    (eC0 : PySem.W.subIn K (.ref C0) (.type "BaseException") = some true)
    (tC0 : PySem.W.typeIn K (.ref C0) = some (.type "type"))
    (hC0 : PySem.W.hasDictIn K C0 = true)
    (cl0 : PySem.W.findIn K (.ref C0) "__class__" = some (some (.builtin "object.__class__")))
    (mo0 : PySem.W.mroIn K C0 (.type "object") = some true)
    (hn : PySem.W.specialIn K (.builtin "object.__class__") "__get__" = some (some (.builtin "getset_descriptor.__get__")))
    (ht : PySem.W.takesIn K (.builtin "object.__class__") = some true)
    (gCst : PySem.W.nsIn K mainGlobals "CastError" = some (some (.ref C0x)))
    (kt0_0 : PySem.W.kitOne K (.ref C0) (.ref C0) = some true)
    (kb0 : PySem.W.kitOne K (.ref C0) (.ref C0x) = some true)
    (kv0 : PySem.W.kitOne K (.ref C0) (.type "ValueError") = some true) :
    ∃ fd : FuncData, (∀ (s : Shared) (v : Value), BindsTo s fd ⟨[v], []⟩ [("script", v)]) ∧ ∀ base : Heap, K.In base → base.Ns mainGlobals mg → FnG l.prog w K mg base CX0 4 fa fd ["script"] (spLaw K) := by
  have e := hfa.symm.trans (PySem.W.mg_of X G a6)
  cases e
  have T_are_widths : Tx K mg "are_widths" s_are_widths := tx_mk X G a0 l0 c0 k0
  have T_count_functions : Tx K mg "count_functions" s_count_functions := tx_mk X G a1 l1 c1 k1
  have T__law_power : Tx K mg "_law_power" s_law_power := tx_mk X G a2 l2 c2 k2
  have T__law_bits : Tx K mg "_law_bits" s_law_bits := tx_mk X G a3 l3 c3 k3
  have T__law_behind : Tx K mg "_law_behind" s_law_behind := tx_mk X G a4 l4 c4 k4
  have T__law_number : Tx K mg "_law_number" s_law_number := tx_mk X G a5 l5 c5 k5
  have m_range : mg "range" = none := PySem.W.mg_none_of X G z_range
  have m_tuple : mg "tuple" = none := PySem.W.mg_none_of X G z_tuple
  have m_list : mg "list" = none := PySem.W.mg_none_of X G z_list
  have m_len : mg "len" = none := PySem.W.mg_none_of X G z_len
  have m_max : mg "max" = none := PySem.W.mg_none_of X G z_max
  have m_min : mg "min" = none := PySem.W.mg_none_of X G z_min
  have m_set : mg "set" = none := PySem.W.mg_none_of X G z_set
  have m_all : mg "all" = none := PySem.W.mg_none_of X G z_all
  have m_zip : mg "zip" = none := PySem.W.mg_none_of X G z_zip
  have m_repr : mg "repr" = none := PySem.W.mg_none_of X G z_repr
  have O0 : OexC K C0 := ⟨⟨_, _, _, _, _, _, _, _, _, _, _, _, _, _, _, xL0, bv0⟩, sa0, eC0, tC0, kC0⟩
  have X0 : XC K mg "InvalidForm" C0 fi0 := ⟨PySem.W.mg_of X G gC0, O0, ⟨ga0, gg0, eC0, hC0, cl0, hn, ht, mo0⟩, nb0, iC0, tI0⟩
  have I0 := fun_mk lI0 cI0 kI0
  have B0 := I0.binds (ps := ["self", "value"]) fun _ _ _ _ _ _ us hl => match us, hl with | [_, _], _ => rfl
  have gCst' := PySem.W.mg_of X G gCst
  have Y := fun (base : Heap) => show Cls l.prog w K mg base (fun i => match i with | _ => C0) (fun i => match i with | _ => fi0) (fun i => match i with | _ => PySem.W.fnOf "__init__" "InvalidForm.__init__" (defArgs (inClass s_InvalidForm 0)) (defBody (inClass s_InvalidForm 0)) (defScope (inClass s_InvalidForm 0)) .none ikV0 idc0 ipm0 ian0 icd0 ict0) C0x from
    ⟨(fun i => match i with | _ + 0 => X0), (fun i => match i with | _ + 0 => ini_InvalidForm I0 O0 nb0), (fun i => match i with | _ + 0 => B0), (fun i => match i with | _ + 0 => kw_InvalidForm I0), gCst', by
      intro i j hi hj
      match i, j, hi, hj with
      | 0, 0, _, _ => exact kt0_0
      | _ + 1, _, hi, _ => exact absurd hi (by omega)
      | 0, _ + 1, _, hj => exact absurd hj (by omega)
    , by
      intro i hi
      match i, hi with
      | 0, _ => exact kb0
      | _ + 1, hi => exact absurd hi (by omega)
    , by
      intro i hi
      match i, hi with
      | 0, _ => exact kv0
      | _ + 1, hi => exact absurd hi (by omega)⟩
  exact ⟨_, fun s v => .of_eq rfl, fun base _ _ => all_pr (Y base) T_are_widths T_count_functions T__law_power T__law_bits T__law_behind T__law_number m_range m_tuple m_list m_len m_max m_min m_set m_all m_zip m_repr _ _ (fun_mk l6 c6 k6)⟩
end Cc
open PySem PySem.W PyProof.Rows
set_option maxHeartbeats 0 in
theorem PySem.Challenge.cw_castchains_k19_functions_counted_by_tryi_holds : PySem.Challenge.rw_castchains_k19_functions_counted_by_tryi.Holds := by
  w_on; o_law; k_head; (case hw => w_witness2)
  k_fill
  refine Cc.walkG (l := PySem.Challenge.rw_castchains_k19_functions_counted_by_tryi) (n := 63) (k := 4) (x := "script") (sp := fun K => Cc.spLaw K) rfl (by decide) rfl ⟨rfl, by decide, by decide⟩ (fun w h Y => PySem.W.kIn_of Y) ?F (fun _ _ a ns hl _ hS => ⟨a, ns, rfl, hS, hl, fun _ => rfl⟩)
  case F =>
    intro w mg fa h KX G hmg
    refine' Cc.all_mk KX G hmg ?a0 ?l0 ?c0 ?k0 ?a1 ?l1 ?c1 ?k1 ?a2 ?l2 ?c2 ?k2 ?a3 ?l3 ?c3 ?k3 ?a4 ?l4 ?c4 ?k4 ?a5 ?l5 ?c5 ?k5 ?a6 ?l6 ?c6 ?k6 ?z_range ?z_tuple ?z_list ?z_len ?z_max ?z_min ?z_set ?z_all ?z_zip ?z_repr ?gC0 ?xL0 ?bv0 ?sa0 ?ga0 ?gg0 ?nb0 ?iC0 ?tI0 ?lI0 ?cI0 ?kI0 ?kC0 ?eC0 ?tC0 ?hC0 ?cl0 ?mo0 ?hn ?ht ?gCst ?kt0_0 ?kb0 ?kv0
    (case a0 => k_is); (case l0 => k_is); (case c0 => k_is); (case k0 => k_is); (case a1 => k_is); (case l1 => k_is); (case c1 => k_is); (case k1 => k_is); (case a2 => k_is); (case l2 => k_is); (case c2 => k_is); (case k2 => k_is); (case a3 => k_is); (case l3 => k_is); (case c3 => k_is); (case k3 => k_is); (case a4 => k_is); (case l4 => k_is); (case c4 => k_is); (case k4 => k_is); (case a5 => k_is); (case l5 => k_is); (case c5 => k_is); (case k5 => k_is); (case a6 => k_is); (case l6 => k_is); (case c6 => k_is); (case k6 => k_is); (case z_range => k_is); (case z_tuple => k_is); (case z_list => k_is); (case z_len => k_is); (case z_max => k_is); (case z_min => k_is); (case z_set => k_is); (case z_all => k_is); (case z_zip => k_is); (case z_repr => k_is); (case gC0 => k_is); (case xL0 => k_is); (case bv0 => decide +kernel); (case sa0 => k_is); (case ga0 => k_is); (case gg0 => k_is); (case nb0 => k_is); (case iC0 => k_is); (case tI0 => k_is); (case lI0 => k_is); (case cI0 => k_is); (case kI0 => k_is); (case kC0 => k_is); (case eC0 => k_is); (case tC0 => k_is); (case hC0 => k_is); (case cl0 => k_is); (case mo0 => k_is); (case hn => k_is); (case ht => k_is); (case gCst => k_is); (case kt0_0 => kit_is); (case kb0 => kit_is); (case kv0 => kit_is)


