import PyProof.Rows.All
import Wide.All
import OpenK.AllK
import Wide.FinOn
import PyProof.ReprRoads
import HandS.Base
import HandS.Call
import HandS.List
import HandS.Comp
import HandS.Ends
import HandS.Words
import HandS.WordsList
import HandS.Defaults
import PyProof.ReprLen
import HandS.Iter
import HandS.Walk
import KE.GoesEnumKw
import KE.GoesRev
import HandS.MakeKwOnly
import HandS.Property
import PyProof.InstNe
import PyProof.FString2
import PyProof.FString5
import HandS.IsInst
import HandS.FStr
import KE.KExcInit
import KE.KExcIs
import HandS.Exc
import HandS.ExcInit
import HandS.ExcField
import HandS.ExcIs
import HandS.WordsExc
import HandS.Gcd
import HandS.Dict
import HandS.ExcOwn
import KE.GoesMore
import KE.KCallOwn
import HandS.Text
import HandS.Star
import HandS.ClsMeth
import PyProof.EnumMake
import PyProof.ReprNest
import HandS.ForMost
import HandS.Conv
import HandS.Style
import HandS.Deep
import HandS.TupLe
import HandS.TryOnly
import HandS.More
import HandS.Flow
import HandS.NoneIn
import PySem.Challenge.RW_dueways_k16_sums_later_and_at_most
set_option Elab.async false
set_option linter.all false
set_option maxRecDepth 100000
set_option maxHeartbeats 4000000
/-! A def's promise where no repr runs around it (guards are known to be empty), so that repr of data may be asked inside. -/
namespace VG
open PySem PySem.Spec PyProof.Rows L2

/-- repr of data -/
def rRepr (K : PySem.W.Frag) : List V → Hp → VK → Prop := fun xs H Q =>
  ∃ v d, xs = [v] ∧ Dp K H v d ∧ d.showable = true ∧ d.depth ≤ 60 ∧ d.shown.length ≤ sizeLine ∧ Q (.str d.shown) H

theorem dp_noDict (K : PySem.W.Frag) (H : Hp) : (∀ d v, Dp K H v d → d.hasDict = false) ∧ (∀ ds vs, DpAll K H vs ds → PyData.hasDictAll ds = false) := by
  have one : ∀ n, (∀ d v, sizeOf d < n → Dp K H v d → d.hasDict = false) ∧
      (∀ ds vs, sizeOf ds < n → DpAll K H vs ds → PyData.hasDictAll ds = false) := by
    intro n
    induction n with
    | zero => exact ⟨fun _ _ h => absurd h (Nat.not_lt_zero _), fun _ _ h => absurd h (Nat.not_lt_zero _)⟩
    | succ n ih =>
      refine ⟨fun d v hz h => ?_, fun ds vs hz h => ?_⟩
      · cases h with
        | non => rfl
        | bl => rfl
        | int => rfl
        | str => rfl
        | lst _ ha =>
          simp only [PyData.hasDict]
          exact ih.2 _ _ (by simp at hz; omega) ha
        | tup _ ha =>
          simp only [PyData.hasDict]
          exact ih.2 _ _ (by simp at hz; omega) ha
      · cases h with
        | nil => rfl
        | cons h1 h2 =>
          simp only [PyData.hasDictAll]
          rw [ih.1 _ _ (by simp at hz; omega) h1, ih.2 _ _ (by simp at hz; omega) h2]
          rfl
  exact ⟨fun d v => (one (sizeOf d + 1)).1 d v (Nat.lt_succ_self _), fun ds vs => (one (sizeOf ds + 1)).2 ds vs (Nat.lt_succ_self _)⟩

theorem call_repr {X : Cx} (hg : X.A.guards = some []) (hu : X.A.units + 64 < cLine) : CallR X (.builtin "repr") (rRepr X.K) := by
  intro pins s σ H xs us Q I r h
  obtain ⟨v, d, rfl, hd, hs, hdep, hz, q⟩ := h
  obtain ⟨u, rfl, rv⟩ := vals1 r
  have keep : ∀ (h' : Heap) (t' : Nat), (∀ b o, s.heap.get? b = some o → h'.get? b = some o) → Inv X pins σ H { s with heap := h', toks := t' } :=
    fun h' t' k => I.kept (t' := t') k
  have nd := (dp_noDict X.K H).1 d v hd
  obtain ⟨as, rd⟩ := Dp.reads I d v u hd rv
  cases hd with
  | non =>
    cases rv
    exact PySem.P.repr_of_none ⟨.str _, H, I.tok _, ⟨_, rfl⟩, q⟩
  | bl b =>
    cases rv
    refine PySem.P.repr_of_bool ⟨.str _, H, I.tok _, ⟨_, rfl⟩, ?_⟩
    exact q
  | int i =>
    obtain ⟨t, rfl⟩ := rv
    exact PySem.P.repr_of_int (by simpa [PyData.showable] using hs) ⟨.str _, H, I.tok _, ⟨_, rfl⟩, q⟩
  | str x =>
    obtain ⟨t, rfl⟩ := rv
    exact PySem.P.repr_of_str ⟨.str _, H, I.tok _, ⟨_, rfl⟩, q⟩ hz
  | lst _ _ =>
    cases rv
    exact repr_of_reads' rd hs (fun e => by rw [nd] at e; cases e) hg (by omega) (fun _ _ e => e) (fun h' w tk k => ⟨.str _, H, keep h' tk k, ⟨_, rfl⟩, q⟩) hz
  | tup _ _ =>
    cases rv
    exact repr_of_reads' rd hs (fun e => by rw [nd] at e; cases e) hg (by omega) (fun _ _ e => e) (fun h' w tk k => ⟨.str _, H, keep h' tk k, ⟨_, rfl⟩, q⟩) hz

def rLen (K : PySem.W.Frag) : List V → Hp → VK → Prop := fun xs H Q =>
  ∃ p ys, xs = [.ref p] ∧ (SqL K H p ys ∨ SqT K H p ys) ∧ Q (.int ys.length) H
theorem call_len {X : Cx} : CallR X (.builtin "len") (rLen X.K) := call_len_seq
def rListOf (K : PySem.W.Frag) : List V → Hp → VK → Prop := fun xs H Q =>
  ∃ p ys, xs = [.ref p] ∧ (SqL K H p ys ∨ SqT K H p ys) ∧ ∀ l, H l = none → Q (.ref l) (upd H l (.lst ys))
theorem call_listOf {X : Cx} : CallR X (.type "list") (rListOf X.K) := call_list_of

/-- a def's promise, asked only where guards are empty -/
structure FnG (P : Program) (w : World) (K : PySem.W.Frag) (mg : Str → Option Value) (base : Heap) (CX : CXT)
    (k : Nat) (f : Addr) (fd : FuncData) (ps : List Str) (sp : Sp) : Prop where
  arity : ∀ as H Q E, sp as H Q E → as.length = ps.length
  go : ∀ (A : Around) (outer : List Env) (s : Shared) (H : Hp) (args : Args) (us : List Value) (as : List V) (Q : VK) (E : XK),
    A.guards = some [] → Room k A → Env0 P w K mg base A outer s H → BindsTo s fd args (ps.zip us) → Vals as us → sp as H Q E →
      codeAny (model P w) A (.call (.ref f) args) (CR CX outer P w H s Q E) s

section
variable {P : Program} {w : World} {K : PySem.W.Frag} {mg : Str → Option Value} {base : Heap} {CX : CXT}
theorem FnG.of {k : Nat} {f : Addr} {fd : FuncData} {ps : List Str} {sp : Sp} (F : FnOk P w K mg base CX k f fd ps sp) :
    FnG P w K mg base CX k f fd ps sp :=
  ⟨F.len, fun A outer s H args us as Q E _ => F.run A outer s H args us as Q E⟩

/-- a def by its body -/
theorem okG {x qual : Str} {st : Stmt} {f : Addr} {fd : FuncData} {N ps : List Str} {k : Nat} {sp : Sp}
    (F : Fun K x qual st f fd) (S : FnScope N ps (defScope st)) (len : ∀ as H Q E, sp as H Q E → as.length = ps.length)
    (body : ∀ (cdv : Value) (A : Around) (outer : List Env) (s : Shared) (H : Hp) (as : List V) (Q : VK) (E : XK),
      (A.deeper (envOfC qual (defScope st) s.heap.objs.size f cdv)).guards = some [] →
      Room k (A.deeper (envOfC qual (defScope st) s.heap.objs.size f cdv)) → sp as H Q E →
      ∃ t, PSs (cxOf CX P w K mg base N qual (defScope st) f cdv A outer s H E) (defBody st) t ∧
        t { nx := fun _ H' => Q .non H', rt := Q } (start N as) H) :
    FnG P w K mg base CX (k + 1) f fd ps sp := by
  obtain ⟨oc, od, kV, doc, pm, an, cdv, ct, osl, rfl, lk, hcd⟩ := F.ex
  refine ⟨len, fun A outer s H args us as Q E hA hr e0 hb r hsp => ?_⟩
  have hl := len _ _ _ _ hsp
  have KX : K.In s.heap := e0.mod.kin.keeps fun b o e => (e0.bs b o e).1
  have lim : s.heap.NoLimit := e0.mod.nolimit.keeps fun b o e => (e0.bs b o e).1
  have kinds : ∀ y ∈ ps.zip us, (defScope st).names.lookup y.1 = some .local ∨
      ((defScope st).names.lookup y.1 = some .cell ∧ ((cellsFrom (s.heap.objs.size + 1) (defScope st).names []).lookup y.1).isSome = true) := by
    rintro ⟨n, v⟩ hy
    rcases S.par n (List.of_mem_zip hy).1 with q | q
    · exact .inl q
    · exact .inr ⟨q, PySem.W.cellsFrom_some _ _ _ (.inl q)⟩
  refine codeAny_call_function hr.depth (KX _ _ lk) rfl S.co S.gen rfl (PySem.W.codeRec_of KX hcd) (hb _ _ _ _ ?_)
  refine wpAny_newFunctionEnv_cells S.kind kinds fun env he s1 z => ?_
  subst he
  refine ⟨lim.keeps z.toInCall.keep, codeAny_func ?_⟩
  obtain ⟨t, ht, hq⟩ := body cdv A outer s H as Q E hA (hr.deeper _) hsp
  have I0 : Inv (cxOf CX P w K mg base N qual (defScope st) f cdv A outer s H E) [] (start N as) H s1 :=
    inv_start S hr.hd e0 hl r z
  refine wpAny_mono (ht.run [] s1 (start N as) H _ I0 hq) ?_ fun e s' hs => hs
  intro fl s' hs
  have done : ∀ (σ' : L2.St) (H' : Hp) (v : V) (u : Value), Inv (cxOf CX P w K mg base N qual (defScope st) f cdv A outer s H E) [] σ' H' s' →
      RelV v u → Q v H' → CE outer P w H s Q u s' := fun σ' H' v u J rv q => ⟨v, H', J.os, J.bare, J.base, J.hok, rv, q⟩
  cases fl with
  | ret u =>
    obtain ⟨v, σ', H', J, rv, q⟩ := hs
    exact done σ' H' v u J rv q
  | next =>
    obtain ⟨σ', H', J, q⟩ := hs
    exact done σ' H' V.non Value.none J rfl q
  | brk => exact hs.elim fun _ h => h.elim fun _ h => False.elim h.2
  | cont => exact hs.elim fun _ h => h.elim fun _ h => False.elim h.2
end

section
variable {P : Program} {w : World} {K : PySem.W.Frag} {mg : Str → Option Value} {base : Heap}
/-- .. that lets nothing out -/
theorem okG0 {x qual : Str} {st : Stmt} {f : Addr} {fd : FuncData} {N ps : List Str} {k : Nat} {sp : Sp}
    (F : Fun K x qual st f fd) (S : FnScope N ps (defScope st)) (len : ∀ as H Q E, sp as H Q E → as.length = ps.length)
    (body : ∀ (cdv : Value) (A : Around) (outer : List Env) (s : Shared) (H : Hp) (as : List V) (Q : VK) (E : XK),
      (A.deeper (envOfC qual (defScope st) s.heap.objs.size f cdv)).guards = some [] →
      Room k (A.deeper (envOfC qual (defScope st) s.heap.objs.size f cdv)) → sp as H Q E →
      ∃ t, PSs (cxOf CX0 P w K mg base N qual (defScope st) f cdv A outer s H E).nox (defBody st) t ∧
        t { nx := fun _ H' => Q .non H', rt := Q } (start N as) H) :
    FnG P w K mg base CX0 (k + 1) f fd ps sp :=
  okG F S len fun cdv A outer s H as Q E hA hr h =>
    let ⟨t, h1, h2⟩ := body cdv A outer s H as Q E hA hr h
    ⟨t, h1.nox, h2⟩
end

section
variable {X : Cx} {CX : CXT} {k : Nat} {f : Addr} {fd : FuncData} {ps : List Str} {sp : Sp} {E : XK} {x : Str} {p pos : Pos} {e : Expr} {es : List Expr} {t : TA}
theorem runG {pins : List (Addr × Obj)} {σ : L2.St} {H : Hp} {s : Shared} {Q : VK} {us : List Value} {as : List V}
    (F : FnG X.prog X.w X.K X.mg X.base CX k f fd ps sp) (hA : X.A.guards = some []) (hr : Room k X.A) (hb : Binds X.K fd ps [])
    (hx : Passes CX X E) (I : Inv X pins σ H s) (r : Vals as us) (h : sp as H Q E) :
    wpAny (model X.prog X.w) X.A (call (.ref f) us) (EP X pins σ Q) X.xe s := by
  have hn : us.length = ps.length := r.length.symm.trans (F.arity _ _ _ _ h)
  have bind := hb s us I.kIn (by rw [List.append_nil]; exact hn)
  rw [List.append_nil] at bind
  refine wpAny_call (codeAny_mono (F.go X.A X.stack s H ⟨us, []⟩ us as Q E hA hr I.env0 bind r h) ?_)
  intro res s' hq
  match res, hq with
  | .error e, hq => exact hx pins σ H s e s' I hq
  | .ok (.ret u), hq => exact I.after hq
  | .ok .next, hq => exact False.elim hq
  | .ok .brk, hq => exact False.elim hq
  | .ok .cont, hq => exact False.elim hq
/-- f(e, ..) -/
theorem pe_callG (F : FnG X.prog X.w X.K X.mg X.base CX k f fd ps sp) (hA : X.A.guards = some []) (hr : Room k X.A) (hg : Gl X x)
    (hm : X.mg x = some (.ref f)) (hk : PySem.W.keepIn X.K (.ref f) = true) (hb : Binds X.K fd ps []) (hx : Passes CX X E) (ha : PA X (e :: es) t)
    (hdb : (x == ("__debug__" : Str)) = false := by decide) (he : starEach (e :: es) X.env = (false, eval e X.env) :: starEach es X.env := by rfl)
    (hpl : (backTo pos (starEach es X.env)).any (·.1) = false := by rfl) :
    PE X (.Call (.Name x p) (e :: es) [] pos) (tCall sp [] E t) := by
  constructor
  intro pins s σ H Q I h
  refine wpAny_Call_Name_kw (ld_glob I hg hm ?_ hdb)
  have args := ha.run pos pins s σ H _ I h
  refine PySem.W.callWith_K (h₀ := X.base) I.ok.mod.kin hk (thn args ?_) he hpl
  rintro us s1 ⟨as, H1, I1, r, q⟩
  rw [List.append_nil] at q
  exact ⟨I1.kIn, runG F hA hr hb hx I1 r q⟩
theorem pe_callG0 (F : FnG X.prog X.w X.K X.mg X.base CX k f fd ps sp) (hA : X.A.guards = some []) (hr : Room k X.A) (hg : Gl X x)
    (hm : X.mg x = some (.ref f)) (hk : PySem.W.keepIn X.K (.ref f) = true) (hb : Binds X.K fd ps []) (hx : Passes CX X E)
    (hdb : (x == ("__debug__" : Str)) = false := by decide) : PE X (.Call (.Name x p) [] [] pos) (tCall sp [] E tNil) := by
  constructor
  intro pins s σ H Q I h
  refine wpAny_Call_Name_kw (ld_glob I hg hm ?_ hdb)
  exact PySem.W.callWith_K0 I.kIn hk (runG (us := []) (as := []) F hA hr hb hx I .nil h)
end

/-- a statement, then the rest, joined by a word: the rest is read once -/
def tJoin (t u : TS) : TS := fun D σ H => ∃ M : L2.St → Hp → Prop, t { D with nx := M } σ H ∧ ∀ σ' H', M σ' H' → u D σ' H'
theorem pss_join {X : Cx} {st : Stmt} {more : List Stmt} {t u : TS} (h1 : PS X st t) (h2 : PSs X more u) : PSs X (st :: more) (tJoin t u) := by
  constructor
  intro pins s σ H D I h
  obtain ⟨M, hm, hu⟩ := h
  refine wpAny_execs_cons (thn (h1.run pins s σ H _ I hm) ?_)
  intro fl s1 q
  match fl, q with
  | .next, ⟨σ', H', I', q⟩ => exact h2.run pins s1 σ' H' D I' (hu σ' H' q)
  | .ret v, q => exact q
  | .brk, q => exact q
  | .cont, q => exact q
/-- f(k = v, ..), keywords alone -/
def tKw (m : Nat) (sp : Sp) (gV : List V → List V → List V) (E : XK) (tk : TA) : TE := fun σ H Q => tk σ H fun zs H2 => zs.length = m ∧ sp (gV [] zs) H2 Q E
theorem pe_callK0 {X : Cx} {CX : CXT} {k : Nat} {f : Addr} {fd : FuncData} {ps ks : List Str} {sp : Sp} {E : XK} {x : Str} {p pos : Pos} {kws : List Keyword} {tk : TA}
    {g : List Value → List Value → List Value} {gV : List V → List V → List V}
    (F : FnOk X.prog X.w X.K X.mg X.base CX k f fd ps sp) (hr : Room k X.A) (hg : Gl X x) (hm : X.mg x = some (.ref f)) (hk : PySem.W.keepIn X.K (.ref f) = true)
    (hb : KBn X.K fd ps 0 ks g gV) (hx : Passes CX X E) (hkw : PK X kws tk) (hall : (backToKw pos (keywordEach kws X.env)).all (·.1.isSome) = true := by rfl)
    (hks : (backToKw pos (keywordEach kws X.env)).filterMap (·.1) = ks := by rfl) (hdb : (x == ("__debug__" : Str)) = false := by decide)
    (hpl : ((backTo pos (starEach [] X.env)).any (·.1) || (backToKw pos (keywordEach kws X.env)).any (·.1.isNone)) = false := by rfl) :
    PE X (.Call (.Name x p) [] kws pos) (tKw ks.length sp gV E tk) := by
  constructor
  intro pins s σ H Q I h
  refine wpAny_Call_Name_kw (ld_glob I hg hm ?_ hdb)
  refine PySem.W.callWith_KW0 (h₀ := X.base) I.ok.mod.kin hk hall ?_ hpl
  refine thn (hkw.run pos pins s σ H _ I h) ?_
  rintro ws s2 ⟨zs, H2, I2, rz, len, q⟩
  refine ⟨I2.kIn, ?_⟩
  rw [hks]
  have rel := hb.rel (vs := []) (us := []) .nil rz
  have bind := hb.to s2 [] ws I2.kIn rfl (rz.length.symm.trans len)
  refine wpAny_call (codeAny_mono (F.run X.A X.stack s2 H2 ⟨[], ks.zip ws⟩ _ _ Q E hr I2.env0 bind rel q) ?_)
  intro res s' hq
  match res, hq with
  | .error e, hq => exact hx pins σ H2 s2 e s' I2 hq
  | .ok (.ret u), hq => exact I2.after hq
  | .ok .next, hq => exact False.elim hq
  | .ok .brk, hq => exact False.elim hq
  | .ok .cont, hq => exact False.elim hq
/-- how keywords bind for a def without defaults -/
theorem kb_of {K : PySem.W.Frag} {x qual : Str} {st : Stmt} {f : Addr} {fd : FuncData} {ps ks : List Str} {n : Nat} (F : Fun K x qual st f fd)
    (g : {α : Type} → List α → List α → List α) (rel : ∀ {vs zs : List V} {us ws : List Value}, Vals vs us → Vals zs ws → Vals (g vs zs) (g us ws))
    (h : ∀ (kV doc pm : Value) (an : Option Addr) (cdv ct : Value) (us ws : List Value), us.length = n → ws.length = ks.length →
      bindArgs (PySem.W.fnOf x qual (defArgs st) (defBody st) (defScope st) .none kV doc pm an cdv ct) ⟨us, ks.zip ws⟩ = pure (ps.zip (g us ws))) :
    KBn K fd ps n ks (fun us ws => g us ws) (fun vs zs => g vs zs) := by
  obtain ⟨oc, od, kV, doc, pm, an, cdv, ct, osl, rfl, lk, hcd⟩ := F.ex
  exact ⟨fun s us ws _ h1 h2 => .of_eq (h kV doc pm an cdv ct us ws h1 h2), fun a b => rel a b⟩

/-- a law's call: the script is all that may be tracked -/
theorem lawG {P : Program} {w : World} {K : PySem.W.Frag} {mg mb : Str → Option Value} {CX : CXT} {k : Nat} {fa a : Addr} {fd : FuncData} {x : Str}
    {sp : Sp} {s1 : Shared} {vs : List Value} {ns : List Int} (KX : K.In s1.heap) (hns : s1.heap.Ns mainGlobals mg) (hb : s1.heap.Ns builtinsNs mb)
    (hbb : ∀ y : Str, y ≠ "__name__" → mb y = bootBuiltins y) (hlim : s1.heap.NoLimit) (hg : s1.gens = #[])
    (ha : s1.heap.get? a = some { cls := .type "list", data := .seq vs.toArray }) (hi : IntsAre vs ns) (hl : ns.length ≤ sizeLine) (hr : Room k callerA)
    (F : ∀ base : Heap, K.In base → base.Ns mainGlobals mg → FnG P w K mg base CX k fa fd [x] sp)
    (hbind : ∀ (s : Shared) (u : Value), BindsTo s fd ⟨[u], []⟩ [(x, u)])
    (hsp : ∀ H : Hp, Only H → SqL K H a (ns.map V.int) → sp [.ref a] H (fun v _ => v = .bl true) fun _ _ _ => False)
    (hCX : ∀ H e s', CX [] H s1 (fun _ _ _ => False) e s' → False) :
    codeAny (model P w) callerA (.call (.ref fa) ⟨[.ref a], []⟩)
      (fun r s' => r = .ok (.ret (.bool true)) ∧ OldK s1.heap s'.heap ∧ s'.os = s1.os ∧ AllBare s'.gens) s1 := by
  have inner : ∀ H : Hp, Only H → SqL K H a (ns.map V.int) → HOk P w H s1.heap → (∀ b, H b ≠ none → b = a) → (H a ≠ none → K.lookup a = none) →
      codeAny (model P w) callerA (.call (.ref fa) ⟨[.ref a], []⟩)
        (fun r s' => r = .ok (.ret (.bool true)) ∧ OldK s1.heap s'.heap ∧ s'.os = s1.os ∧ AllBare s'.gens) s1 := by
    intro H hO hS hok only noK
    have nodict : ∀ {b : Addr} {o : Obj} {es : Array DictEntry} {ep : Nat}, s1.heap.get? b = some o → o.data = .dict es ep → H b = none := by
      intro b o es ep e d
      by_cases q : H b = none
      · exact q
      · have eb := only b q
        subst eb
        rw [ha] at e
        cases e
        cases d
    have names : ∀ {b : Addr} {m : Str → Option Value}, s1.heap.Ns b m → (hidT s1.heap H).Ns b m := by
      rintro b m ⟨o, es, ep, e, d, r⟩
      exact ⟨o, es, ep, hidT_get e (nodict e d), d, r⟩
    have kin : K.In (hidT s1.heap H) := by
      intro b o e
      refine hidT_get (KX b o e) ?_
      by_cases q : H b = none
      · exact q
      · have eb := only b q
        subst eb
        rw [noK q] at e
        cases e
    have modul : Mod K mg (hidT s1.heap H) := by
      obtain ⟨mc, l1, l2⟩ := hlim
      exact ⟨kin, names hns, ⟨mb, names hb, hbb⟩, ⟨mc, names l1, l2⟩⟩
    have nil : ∀ b : Addr, ¬ b ∈ ([] : List Addr) := fun b z => by cases z
    have env : Env0 P w K mg (hidT s1.heap H) callerA [] s1 H :=
      ⟨rfl, modul, fun b o e => of_hidT e, Nat.le_of_eq (hidT_size _ _), trivial, fun b z => absurd z (nil b), hok, .of_eq hg⟩
    have ran := (F _ kin (names hns)).go callerA [] s1 H ⟨[.ref a], []⟩ [.ref a] [.ref a] _ _ rfl hr env (hbind s1 (.ref a)) (.cons rfl .nil) (hsp H hO hS)
    refine codeAny_mono ran ?_
    intro res s' h
    match res, h with
    | .error e, h => exact (hCX H e s' h).elim
    | .ok .next, h => exact False.elim h
    | .ok .brk, h => exact False.elim h
    | .ok .cont, h => exact False.elim h
    | .ok (.ret u), h =>
      obtain ⟨v, H', os, bare, un, hok', rv, rfl⟩ := h
      obtain rfl : u = Value.bool true := rv
      refine ⟨rfl, OldK.of_keep fun b o e => ?_, os, bare⟩
      rcases hO b with z | ⟨ob, xs, z⟩
      · exact un.keep b o e z (nil b) (nil b)
      · obtain ⟨e1, _⟩ := hok b _ z
        obtain ⟨e2, _⟩ := hok' b _ (un.frzs b ob _ z)
        rw [e] at e1
        cases e1
        exact e2
  have rv := vals_ints hi
  have len := hi.length
  cases hk : K.lookup a with
  | some o =>
    have e := KX a o hk
    rw [ha] at e
    cases e
    have seen : SqL K (fun _ => none) a (ns.map V.int) :=
      .inr ⟨_, vs.toArray, _, hk, rfl, rfl, rfl, by rw [List.size_toArray, len]; exact hl, by simpa using rv⟩
    exact inner (fun _ => none) (fun _ => .inl rfl) seen (fun b u z => by cases z) (fun b z => absurd rfl z) fun z => absurd rfl z
  | none =>
    have at_a : (if a = a then some (HO.frz { cls := .type "list", data := .seq vs.toArray } (.lst (ns.map V.int))) else none) = some (HO.frz { cls := .type "list", data := .seq vs.toArray } (.lst (ns.map V.int))) := if_pos rfl
    refine inner (fun b => if b = a then some (.frz { cls := .type "list", data := .seq vs.toArray } (.lst (ns.map V.int))) else none) ?_ (.inl (.inr ⟨_, at_a⟩)) ?_ ?_ fun _ => hk
    · intro b
      by_cases hb : b = a
      · exact .inr ⟨_, _, if_pos hb⟩
      · exact .inl (if_neg hb)
    · intro b u z
      have z' : (if b = a then some (HO.frz { cls := .type "list", data := .seq vs.toArray } (.lst (ns.map V.int))) else none) = some u := z
      by_cases hb : b = a
      · rw [if_pos hb] at z'
        cases z'
        subst hb
        exact ⟨ha, by rw [List.length_map]; exact hl, vs, _, rv, ha⟩
      · rw [if_neg hb] at z'
        cases z'
    · intro b z
      by_cases hb : b = a
      · exact hb
      · exact absurd (if_neg hb) z

theorem walkG {l : PySem.W.OpenLaw} {n k : Nat} {q : Program} {loose : List Str} {XP : (Str → Option Value) → Heap → Prop} {YP : World → Heap → Prop}
    {d : DefRec} {K : Params → PySem.W.Frag} {CX : World → CXT} {sp : World → Sp} {x : Str}
    (hn : l.most = some n) (hn2 : n ≤ sizeLine) (hdf : d.params.defaults = []) (hr : Room k callerA) (hY : ∀ (w : World) (h : Heap), YP w h → (K w.params).In h)
    (F : ∀ (w : World) (mg : Str → Option Value) (fa : Addr) (h : Heap), (K w.params).In h → h.Ns mainGlobals mg → mg d.name = some (.ref fa) →
      ∃ fd : FuncData, (∀ (s : Shared) (u : Value), BindsTo s fd ⟨[u], []⟩ [(x, u)]) ∧ ∀ base : Heap, (K w.params).In base → base.Ns mainGlobals mg →
        FnG l.prog w (K w.params) mg base (CX w) k fa fd [x] (sp w))
    (hsp : ∀ (w : World) (H : Hp) (a : Addr) (ns : List Int), ns.length ≤ n → Only H → SqL (K w.params) H a (ns.map V.int) →
      sp w [.ref a] H (fun v _ => v = .bl true) fun _ _ _ => False)
    (hCX : ∀ (w : World) (H : Hp) (s : Shared) (e : Value) (s' : Shared), CX w [] H s (fun _ _ _ => False) e s' → False) :
    PySem.W.WalkO q loose XP YP l.row.toRowW d [] (fun f vs => PySem.call f vs) := by
  refine Att.attach_call hn hdf ?_
  intro w s0 s1 mg mb fa o pm cd doc a vs ns G Y ho hd hcd hmg hobj hints hlen hg
  obtain ⟨fd, hb, hF⟩ := F w mg fa _ (hY w _ Y) G.T.g hmg
  exact lawG (hY w _ Y) G.T.g G.T.b G.T.builtins G.T.nolimit hg hobj hints (Nat.le_trans hlen hn2) hr hF hb
    (fun H hO hS => hsp w H a ns hlen hO hS) fun H e s' => hCX w H s1 e s'
end VG

/-! Curves as they are written: values, a period, a gain; plain Lean. -/
namespace VM
/-- the value at t of the curve written so -/
def cvAt (vs : List Int) (p g t : Int) : Int :=
  if t = 0 then 0 else if t ≤ (vs.length : Int) then vs.getD (t - 1).toNat 0 else
    vs.getD (t - (t - vs.length + p - 1) / p * p - 1).toNat 0 + (t - vs.length + p - 1) / p * g

theorem cvAt_zero {vs : List Int} {p g : Int} : cvAt vs p g 0 = 0 := by simp [cvAt]
theorem cvAt_in {vs : List Int} {p g t : Int} (h : 0 < t) (h1 : t ≤ vs.length) : cvAt vs p g t = vs.getD (t - 1).toNat 0 := by
  unfold cvAt
  rw [if_neg (by omega), if_pos h1]

/-- the rounds: between them t lies in the last period -/
theorem rounds_spec {n p t : Int} (hp : 0 < p) (ht : n < t) :
    0 < (t - n + p - 1) / p ∧ n - p < t - (t - n + p - 1) / p * p ∧ t - (t - n + p - 1) / p * p ≤ n := by
  have e := Int.emod_add_mul_ediv (t - n + p - 1) p
  have l := Int.emod_nonneg (t - n + p - 1) (show p ≠ 0 by omega)
  have u := Int.emod_lt_of_pos (t - n + p - 1) hp
  have c : (t - n + p - 1) / p * p = p * ((t - n + p - 1) / p) := Int.mul_comm _ _
  have q1 : 1 ≤ (t - n + p - 1) / p := by
    have := (Int.le_ediv_iff_mul_le (c := p) hp (a := 1) (b := t - n + p - 1)).mpr (by omega)
    exact this
  exact ⟨by omega, by omega, by omega⟩
theorem rounds_step {n p t : Int} (hp : 0 < p) : (t - p - n + p - 1) / p = (t - n + p - 1) / p - 1 := by
  have : t - p - n + p - 1 = (t - n + p - 1) + (-1) * p := by omega
  rw [this, Int.add_mul_ediv_right _ _ (by omega)]
  omega
/-- behind the values: one period back, and the gain -/
theorem cvAt_back {vs : List Int} {p g t : Int} (hp : 0 < p) (hpn : p ≤ vs.length) (ht : (vs.length : Int) < t) : cvAt vs p g t = cvAt vs p g (t - p) + g := by
  obtain ⟨r1, r2, r3⟩ := rounds_spec hp ht
  have st := rounds_step (n := (vs.length : Int)) (p := p) (t := t) hp
  unfold cvAt
  rw [if_neg (by omega), if_neg (by omega), if_neg (show ¬ t - p = 0 by omega)]
  by_cases h : t - p ≤ (vs.length : Int)
  · rw [if_pos h]
    have r : (t - vs.length + p - 1) / p = 1 := by
      have a : (t - vs.length + p - 1) / p < 2 := Int.ediv_lt_of_lt_mul hp (by omega)
      omega
    rw [r, Int.one_mul, Int.one_mul]
  · rw [if_neg h, st]
    have e : t - p - ((t - vs.length + p - 1) / p - 1) * p - 1 = t - (t - vs.length + p - 1) / p * p - 1 := by
      rw [Int.sub_mul, Int.one_mul]; omega
    rw [e, Int.sub_mul, Int.one_mul]
    omega

/-- a function that repeats behind n: with period p and gain g -/
def Rep (f : Int → Int) (n p g : Int) : Prop := ∀ t, n < t → f t = f (t - p) + g
theorem Rep.cvAt {vs : List Int} {p g : Int} (hp : 0 < p) (hpn : p ≤ vs.length) : Rep (cvAt vs p g) vs.length p g := fun _ ht => cvAt_back hp hpn ht

/-- the steps over d, in one period behind n, are all the first one -/
def stepsEq (f : Int → Int) (n p d : Int) : Bool := (List.range p.toNat).all fun (i : Nat) => decide (f (n + 1 + i) - f (n + 1 + i - d) = f (n + 1) - f (n + 1 - d))
/-- the least period from d on that divides p, and its gain -/
def leastFrom (f : Int → Int) (n p : Int) : Nat → Int → Int × Int
  | 0, _ => (p, f (n + p) - f n)
  | k + 1, d => if p % d = 0 ∧ stepsEq f n p d = true then (d, f (n + 1) - f (n + 1 - d)) else leastFrom f n p k (d + 1)
def leastP (f : Int → Int) (n p : Int) : Int × Int := leastFrom f n p (p - 1).toNat 1
/-- how many values must be written -/
def shr (f : Int → Int) (d s : Int) : Nat → Nat
  | 0 => 0
  | m + 1 => if d < (m + 1 : Nat) ∧ f ((m + 1 : Nat) : Int) = f ((m + 1 : Nat) - d) + s then shr f d s m else m + 1
/-- f's values at 1 to m -/
def vals (f : Int → Int) (m : Nat) : List Int := (List.range m).map fun (i : Nat) => f (i + 1)
theorem vals_length {f : Int → Int} {m : Nat} : (vals f m).length = m := by simp [vals]
theorem vals_getD {f : Int → Int} {m i : Nat} (h : i < m) : (vals f m).getD i 0 = f (i + 1) := by
  unfold vals
  rw [List.getD_eq_getElem?_getD, List.getElem?_map, List.getElem?_range h]
  rfl

theorem stepsEq_at {f : Int → Int} {n p d : Int} (h : stepsEq f n p d = true) {t : Int} (h1 : n < t) (h2 : t ≤ n + p) : f t = f (t - d) + (f (n + 1) - f (n + 1 - d)) := by
  unfold stepsEq at h
  rw [List.all_eq_true] at h
  have := h (t - n - 1).toNat (List.mem_range.mpr (by omega))
  have e : n + 1 + ((t - n - 1).toNat : Int) = t := by omega
  rw [e] at this
  have := of_decide_eq_true this
  omega
/-- one round decides -/
theorem Rep.of_steps {f : Int → Int} {n p g d : Int} (R : Rep f n p g) (hd : 0 < d) (hdp : d ≤ p) (h : stepsEq f n p d = true) : Rep f n d (f (n + 1) - f (n + 1 - d)) := by
  have key : ∀ (k : Nat) (t : Int), n < t → t ≤ n + k → f t = f (t - d) + (f (n + 1) - f (n + 1 - d)) := by
    intro k
    induction k with
    | zero => intro t h1 h2; omega
    | succ k ih =>
      intro t h1 h2
      by_cases c : t ≤ n + p
      · exact stepsEq_at h h1 c
      · have a := R t h1
        have b := R (t - d) (by omega)
        have e := ih (t - p) (by omega) (by omega)
        have z : t - d - p = t - p - d := by omega
        rw [z] at b
        omega
  intro t ht
  exact key (t - n).toNat t ht (by omega)
theorem leastFrom_spec {f : Int → Int} {n p g : Int} (R : Rep f n p g) (hp : 0 < p) : ∀ (k : Nat) (d : Int), 0 < d → d + k = p →
    0 < (leastFrom f n p k d).1 ∧ (leastFrom f n p k d).1 ≤ p ∧ Rep f n (leastFrom f n p k d).1 (leastFrom f n p k d).2
  | 0, d, hd, e => by
    unfold leastFrom
    refine ⟨hp, Int.le_refl _, fun t ht => ?_⟩
    have a := R (n + p) (by omega)
    have z : n + p - p = n := by omega
    rw [z] at a
    have b := R t ht
    show f t = f (t - p) + (f (n + p) - f n)
    omega
  | k + 1, d, hd, e => by
    unfold leastFrom
    by_cases c : p % d = 0 ∧ stepsEq f n p d = true
    · rw [if_pos c]
      exact ⟨hd, by show d ≤ p; omega, R.of_steps hd (by omega) c.2⟩
    · rw [if_neg c]
      exact leastFrom_spec R hp k (d + 1) (by omega) (by omega)
theorem leastP_spec {f : Int → Int} {n p g : Int} (R : Rep f n p g) (hp : 0 < p) : 0 < (leastP f n p).1 ∧ (leastP f n p).1 ≤ p ∧ Rep f n (leastP f n p).1 (leastP f n p).2 :=
  leastFrom_spec R hp _ 1 (by omega) (by omega)
theorem shr_spec {f : Int → Int} {d s : Int} (hd : 0 < d) : ∀ (m : Nat), d ≤ m → Rep f m d s → d ≤ shr f d s m ∧ shr f d s m ≤ m ∧ Rep f (shr f d s m) d s
  | 0, h, _ => by omega
  | m + 1, h, R => by
    unfold shr
    by_cases c : d < (m + 1 : Nat) ∧ f ((m + 1 : Nat) : Int) = f ((m + 1 : Nat) - d) + s
    · rw [if_pos c]
      have R' : Rep f m d s := fun t ht => by
        by_cases e : t = ((m + 1 : Nat) : Int)
        · rw [e]; exact c.2
        · exact R t (by omega)
      obtain ⟨a, b, z⟩ := shr_spec hd m (by omega) R'
      exact ⟨a, by omega, z⟩
    · rw [if_neg c]
      exact ⟨h, Nat.le_refl _, R⟩
/-- what repeats behind m is the curve written by its first m values -/
theorem cvAt_vals {f : Int → Int} {m : Nat} {d s : Int} (hd : 0 < d) (hdm : d ≤ m) (h0 : f 0 = 0) (R : Rep f m d s) : ∀ t, 0 ≤ t → cvAt (vals f m) d s t = f t := by
  have key : ∀ (k : Nat) (t : Int), 0 ≤ t → t ≤ k → cvAt (vals f m) d s t = f t := by
    intro k
    induction k with
    | zero =>
      intro t h1 h2
      have : t = 0 := by omega
      rw [this, cvAt_zero, h0]
    | succ k ih =>
      intro t h1 h2
      by_cases z : t = 0
      · rw [z, cvAt_zero, h0]
      · by_cases c : t ≤ (m : Int)
        · rw [cvAt_in (by omega) (by rw [vals_length]; exact c), vals_getD (by omega)]
          congr 1; omega
        · rw [cvAt_back hd (by rw [vals_length]; exact hdm) (by rw [vals_length]; omega), R t (by omega), ih (t - d) (by omega) (by omega)]
  intro t ht
  exact key t.toNat t ht (by omega)
/-- the form: period, gain, values -/
def formP (vs : List Int) (p g : Int) : Int × Int := leastP (cvAt vs p g) vs.length p
def formM (vs : List Int) (p g : Int) : Nat := shr (cvAt vs p g) (formP vs p g).1 (formP vs p g).2 vs.length
def formV (vs : List Int) (p g : Int) : List Int := vals (cvAt vs p g) (formM vs p g)
theorem form_spec {vs : List Int} {p g : Int} (hp : 0 < p) (hpn : p ≤ vs.length) :
    0 < (formP vs p g).1 ∧ (formP vs p g).1 ≤ p ∧ (formP vs p g).1 ≤ (formV vs p g).length ∧ (formV vs p g).length ≤ vs.length ∧
      ∀ t, 0 ≤ t → cvAt (formV vs p g) (formP vs p g).1 (formP vs p g).2 t = cvAt vs p g t := by
  obtain ⟨a, b, R⟩ := leastP_spec (Rep.cvAt (g := g) hp hpn) hp
  obtain ⟨c, d, R'⟩ := shr_spec a vs.length (show (formP vs p g).1 ≤ _ from Int.le_trans b hpn) R
  refine ⟨a, b, ?_, ?_, ?_⟩
  · unfold formV; rw [vals_length]; exact c
  · unfold formV; rw [vals_length]; exact d
  · exact cvAt_vals a c cvAt_zero R'
end VM

/-! Records: sums of windows; plain Lean. -/
namespace VM
/-- the units ahead of tick i -/
def pre (us : List Int) (i : Int) : Int := (us.take i.toNat).sum
def win (us : List Int) (s k : Int) : Int := pre us (s + k) - pre us s
/-- the sum of a slice -/
theorem sum_cut (us : List Int) (s k : Nat) : ((us.drop s).take k).sum = win us s k := by
  unfold win pre
  have e : (((s : Int) + k).toNat) = s + k := by omega
  have e2 : ((s : Int).toNat) = s := by omega
  rw [e, e2, List.take_add, List.sum_append]
  omega
theorem pre_zero (us : List Int) : pre us 0 = 0 := by simp [pre]
theorem pre_all (us : List Int) : pre us us.length = us.sum := by
  unfold pre
  rw [show ((us.length : Nat) : Int).toNat = us.length by omega, List.take_length]
theorem pre_step {us : List Int} {i : Nat} (h : i < us.length) : pre us ((i : Int) + 1) = pre us i + us.getD i 0 := by
  unfold pre
  rw [show ((i : Int) + 1).toNat = i + 1 by omega, show ((i : Int)).toNat = i by omega, List.take_add_one, List.sum_append]
  rw [List.getD_eq_getElem?_getD, List.getElem?_eq_getElem h]
  simp
/-- the first i from a on, of k many, of which P -/
def firstN (p : Nat → Bool) : Nat → Nat → Option Nat
  | 0, _ => none
  | k + 1, i => if p i = true then some i else firstN p k (i + 1)
/-- windows by their length: the first with more than f allows -/
def brk (f : Int → Int) (us : List Int) : Nat → Nat → Option (Int × Int × Int)
  | 0, _ => none
  | k + 1, len => match firstN (fun s => decide (f len < win us s len)) (us.length + 1 - len) 0 with
    | some s => some (len, s, win us s len - f len)
    | none => brk f us k (len + 1)
def breachM (f : Int → Int) (us : List Int) : Option (Int × Int × Int) := brk f us us.length 1
theorem brk_congr {f g : Int → Int} {us : List Int} : ∀ (k len : Nat), (∀ t : Int, (len : Int) ≤ t → t < len + k → f t = g t) → brk f us k len = brk g us k len
  | 0, _, _ => rfl
  | k + 1, len, h => by
    unfold brk
    rw [h len (by omega) (by omega), brk_congr k (len + 1) fun t h1 h2 => h t (by omega) (by omega)]
theorem breachM_congr {f g : Int → Int} {us : List Int} (h : ∀ t : Int, 1 ≤ t → t ≤ us.length → f t = g t) : breachM f us = breachM g us :=
  brk_congr _ _ fun t h1 h2 => h t (by omega) (by omega)
def IsMax (l : List Int) (m : Int) : Prop := m ∈ l ∧ ∀ y ∈ l, y ≤ m
theorem IsMax.eq {l : List Int} {m n : Int} (a : IsMax l m) (b : IsMax l n) : m = n := by
  have h1 := a.2 n b.1
  have h2 := b.2 m a.1
  omega
end VM

/-! Records that enter as early as a curve allows; plain Lean. -/
namespace VM
theorem snoc_ind {P : List Int → Prop} (h0 : P []) (h1 : ∀ l x, P l → P (l ++ [x])) (l : List Int) : P l := by
  have a : ∀ r : List Int, P r.reverse := fun r => by
    induction r with
    | nil => exact h0
    | cons a r ih => rw [List.reverse_cons]; exact h1 _ _ ih
  have b := a l.reverse
  rwa [List.reverse_reverse] at b
/-- the last k units -/
def tl (us : List Int) (k : Nat) : Int := win us ((us.length : Int) - k) k
theorem tl_zero {us : List Int} : tl us 0 = 0 := by
  unfold tl win
  rw [show (us.length : Int) - ((0 : Nat) : Int) + ((0 : Nat) : Int) = (us.length : Int) - ((0 : Nat) : Int) by omega]
  omega
theorem pre_push {e : List Int} {x i : Int} (h : i ≤ e.length) : pre (e ++ [x]) i = pre e i := by
  unfold pre
  rw [List.take_append_of_le_length (by omega)]
theorem pre_last {e : List Int} {x i : Int} (h : i = (e.length : Int) + 1) : pre (e ++ [x]) i = pre e e.length + x := by
  unfold pre
  rw [List.take_of_length_le (by rw [List.length_append, List.length_singleton]; omega), List.take_of_length_le (by omega), List.sum_append]
  simp
theorem tl_push {e : List Int} {x : Int} {k : Nat} (h : k ≤ e.length) : tl (e ++ [x]) (k + 1) = tl e k + x := by
  unfold tl win
  rw [List.length_append, List.length_singleton, pre_last (by omega), pre_push (by omega)]
  rw [show ((e.length + 1 : Nat) : Int) - ((k + 1 : Nat) : Int) = (e.length : Int) - k by omega, show (e.length : Int) - (k : Int) + (k : Int) = e.length by omega]
  omega
/-- one tick further back -/
theorem tl_step {us : List Int} {k : Nat} (h : k < us.length) : tl us (k + 1) = tl us k + us.getD (us.length - 1 - k) 0 := by
  unfold tl win
  rw [show (us.length : Int) - ((k + 1 : Nat) : Int) + ((k + 1 : Nat) : Int) = us.length by omega, show (us.length : Int) - ((k : Nat) : Int) + ((k : Nat) : Int) = us.length by omega]
  have e := pre_step (us := us) (i := us.length - 1 - k) (by omega)
  rw [show ((us.length - 1 - k : Nat) : Int) + 1 = (us.length : Int) - (k : Nat) by omega] at e
  rw [show (us.length : Int) - ((k + 1 : Nat) : Int) = ((us.length - 1 - k : Nat) : Int) by omega]
  omega
/-- how many may enter behind us, as the windows up to k + 1 tell -/
def freeK (f : Int → Int) (us : List Int) : Nat → Int
  | 0 => f 1
  | k + 1 => min (freeK f us k) (f ((k : Int) + 2) - tl us (k + 1))
def freeM (f : Int → Int) (us : List Int) : Int := freeK f us us.length
theorem le_freeK {f : Int → Int} {us : List Int} {c : Int} : ∀ {n : Nat}, c ≤ freeK f us n ↔ ∀ k : Nat, k ≤ n → tl us k + c ≤ f ((k : Int) + 1)
  | 0 => by
    constructor
    · intro h k hk
      have : k = 0 := by omega
      subst this
      rw [tl_zero]
      have : c ≤ f 1 := h
      show 0 + c ≤ f 1
      omega
    · intro h
      have := h 0 (Nat.le_refl _)
      rw [tl_zero] at this
      have e : 0 + c ≤ f 1 := this
      show c ≤ f 1
      omega
  | n + 1 => by
    have ih := le_freeK (f := f) (us := us) (c := c) (n := n)
    constructor
    · intro h k hk
      unfold freeK at h
      by_cases z : k = n + 1
      · subst z
        rw [show ((n + 1 : Nat) : Int) + 1 = (n : Int) + 2 by omega]
        omega
      · exact ih.mp (by omega) k (by omega)
    · intro h
      have a := ih.mpr fun k hk => h k (by omega)
      have b := h (n + 1) (Nat.le_refl _)
      rw [show ((n + 1 : Nat) : Int) + 1 = (n : Int) + 2 by omega] at b
      unfold freeK
      omega
theorem le_free {f : Int → Int} {us : List Int} {c : Int} : c ≤ freeM f us ↔ ∀ k : Nat, k ≤ us.length → tl us k + c ≤ f ((k : Int) + 1) := le_freeK
/-- no window has too many -/
def Kept (f : Int → Int) (us : List Int) : Prop := ∀ s k : Nat, 1 ≤ k → s + k ≤ us.length → win us s k ≤ f k
theorem Kept.push {f : Int → Int} {e : List Int} {x : Int} (h : Kept f e) (hx : x ≤ freeM f e) : Kept f (e ++ [x]) := by
  intro s k h1 h2
  rw [List.length_append, List.length_singleton] at h2
  by_cases c : s + k ≤ e.length
  · have := h s k h1 c
    unfold win at this ⊢
    rw [pre_push (by omega), pre_push (by omega)]
    exact this
  · have a := le_free.mp hx (k - 1) (by omega)
    have b := tl_push (e := e) (x := x) (k := k - 1) (by omega)
    rw [show k - 1 + 1 = k by omega] at b
    unfold tl at b
    rw [List.length_append, List.length_singleton, show ((e.length + 1 : Nat) : Int) - (k : Int) = (s : Int) by omega] at b
    rw [show ((k - 1 : Nat) : Int) + 1 = (k : Int) by omega] at a
    rw [b]
    exact a
theorem Kept.front {f : Int → Int} {e : List Int} {x : Int} (h : Kept f (e ++ [x])) : Kept f e := by
  intro s k h1 h2
  have a := h s k h1 (by rw [List.length_append, List.length_singleton]; omega)
  unfold win at a ⊢
  rw [pre_push (by omega), pre_push (by omega)] at a
  exact a
theorem Kept.free {f : Int → Int} {e : List Int} {x : Int} (h : Kept f (e ++ [x])) : x ≤ freeM f e := by
  refine le_free.mpr fun k hk => ?_
  have a := h (e.length - k) (k + 1) (by omega) (by rw [List.length_append, List.length_singleton]; omega)
  have b := tl_push (e := e) (x := x) (k := k) hk
  unfold tl at b
  rw [List.length_append, List.length_singleton, show ((e.length + 1 : Nat) : Int) - ((k + 1 : Nat) : Int) = ((e.length - k : Nat) : Int) by omega] at b
  rw [b] at a
  have z : ((k + 1 : Nat) : Int) = (k : Int) + 1 := by omega
  rw [z] at a
  exact a
theorem Kept.nil {f : Int → Int} : Kept f [] := fun s k h1 h2 => by
  have : s + k ≤ 0 := h2
  omega
theorem firstN_none {p : Nat → Bool} : ∀ {k i : Nat}, firstN p k i = none ↔ ∀ j, i ≤ j → j < i + k → p j = false
  | 0, i => ⟨fun _ => fun j a b => absurd b (by omega), fun _ => rfl⟩
  | k + 1, i => by
    have ih := firstN_none (p := p) (k := k) (i := i + 1)
    unfold firstN
    by_cases c : p i = true
    · rw [if_pos c]
      refine ⟨fun h => (by cases h), fun h => ?_⟩
      rw [h i (Nat.le_refl _) (by omega)] at c
      cases c
    · rw [if_neg c, ih]
      refine ⟨fun h j a b => ?_, fun h j a b => h j (by omega) (by omega)⟩
      by_cases z : j = i
      · rw [z]; simpa using c
      · exact h j (by omega) (by omega)
theorem brk_none {f : Int → Int} {us : List Int} : ∀ {k len : Nat}, brk f us k len = none ↔ ∀ t : Nat, len ≤ t → t < len + k → ∀ s : Nat, s < us.length + 1 - t → win us s t ≤ f t
  | 0, len => ⟨fun _ => fun t a b => absurd b (by omega), fun _ => rfl⟩
  | k + 1, len => by
    have ih := brk_none (f := f) (us := us) (k := k) (len := len + 1)
    have fn := firstN_none (p := fun s => decide (f len < win us s len)) (k := us.length + 1 - len) (i := 0)
    unfold brk
    cases hh : firstN (fun s => decide (f len < win us s len)) (us.length + 1 - len) 0 with
    | some s =>
      refine ⟨fun h => (by cases h), fun h => ?_⟩
      have : firstN (fun s => decide (f len < win us s len)) (us.length + 1 - len) 0 = none := fn.mpr fun j _ b => by
        have := h len (Nat.le_refl _) (by omega) j (by omega)
        exact decide_eq_false (by omega)
      rw [hh] at this; cases this
    | none =>
      show brk f us k (len + 1) = none ↔ _
      rw [ih]
      refine ⟨fun h t a b s hs => ?_, fun h t a b s hs => h t (by omega) (by omega) s hs⟩
      by_cases z : t = len
      · subst z
        have := fn.mp hh s (Nat.zero_le _) (by omega)
        have := of_decide_eq_false this
        omega
      · exact h t (by omega) (by omega) s hs
theorem kept_iff {f : Int → Int} {us : List Int} : breachM f us = none ↔ Kept f us := by
  unfold breachM
  rw [brk_none]
  exact ⟨fun h s k h1 h2 => h k h1 (by omega) s (by omega), fun h t a b s hs => h s t a (by omega)⟩
/-! ### shaped -/
def shS (f : Int → Int) (st : List Int × Int) (u : Int) : List Int × Int := (st.1 ++ [min (st.2 + u) (freeM f st.1)], st.2 + u - min (st.2 + u) (freeM f st.1))
def shG (f : Int → Int) (us : List Int) : List Int × Int := us.foldl (shS f) ([], 0)
def shapedM (f : Int → Int) (us : List Int) : List Int := (shG f us).1
theorem shG_push {f : Int → Int} {us : List Int} {u : Int} : shG f (us ++ [u]) = shS f (shG f us) u := by
  unfold shG; rw [List.foldl_append]; rfl
theorem shG_take {f : Int → Int} {us : List Int} {i : Nat} (h : i < us.length) : shG f (us.take (i + 1)) = shS f (shG f (us.take i)) (us.getD i 0) := by
  rw [← shG_push, List.take_add_one, List.getElem?_eq_getElem h, List.getD_eq_getElem?_getD, List.getElem?_eq_getElem h]
  rfl
theorem shG_length {f : Int → Int} (us : List Int) : (shG f us).1.length = us.length := by
  refine snoc_ind (P := fun us => (shG f us).1.length = us.length) rfl (fun l x ih => ?_) us
  show (shG f (l ++ [x])).1.length = (l ++ [x]).length
  rw [shG_push]
  unfold shS
  rw [List.length_append, List.length_append, ih]
  rfl
theorem shaped_length {f : Int → Int} (us : List Int) : (shapedM f us).length = us.length := shG_length us
theorem shaped_kept {f : Int → Int} (us : List Int) : Kept f (shapedM f us) := by
  refine snoc_ind (P := fun us => Kept f (shapedM f us)) Kept.nil (fun l x ih => ?_) us
  show Kept f (shG f (l ++ [x])).1
  rw [shG_push]
  exact Kept.push ih (by show min _ _ ≤ _; unfold shapedM at *; omega)
theorem kept_shaped {f : Int → Int} {us : List Int} (h : Kept f us) : shG f us = (us, 0) := by
  revert h
  refine snoc_ind (P := fun us => Kept f us → shG f us = (us, 0)) (fun _ => rfl) (fun l x ih h => ?_) us
  have a := h.free
  rw [shG_push, ih h.front]
  unfold shS
  simp only
  rw [show min (0 + x) (freeM f l) = x by omega]
  congr 1
  omega
/-- rising values from 1 on -/
structure Up (f : Int → Int) : Prop where
  one : 0 ≤ f 1
  up : ∀ k : Nat, 1 ≤ k → f k ≤ f ((k : Int) + 1)
theorem Up.free {f : Int → Int} (U : Up f) {e : List Int} (h : Kept f e) : 0 ≤ freeM f e := by
  refine le_free.mpr fun k hk => ?_
  by_cases z : k = 0
  · subst z
    rw [tl_zero]
    have := U.one
    show 0 + 0 ≤ f 1
    omega
  · have a := h (e.length - k) k (by omega) (by omega)
    have b := U.up k (by omega)
    unfold tl
    rw [show (e.length : Int) - (k : Int) = ((e.length - k : Nat) : Int) by omega]
    omega
theorem sum_snoc {l : List Int} {x : Int} : (l ++ [x]).sum = l.sum + x := by rw [List.sum_append]; simp
/-- what entered and waits: counts, together what came -/
theorem shG_bound {f : Int → Int} (U : Up f) {us : List Int} (h : ∀ u ∈ us, 0 ≤ u) : 0 ≤ (shG f us).2 ∧ (shG f us).1.sum + (shG f us).2 = us.sum ∧ ∀ x ∈ (shG f us).1, 0 ≤ x ∧ x ≤ us.sum := by
  revert h
  refine snoc_ind (P := fun us => (∀ u ∈ us, 0 ≤ u) → 0 ≤ (shG f us).2 ∧ (shG f us).1.sum + (shG f us).2 = us.sum ∧ ∀ x ∈ (shG f us).1, 0 ≤ x ∧ x ≤ us.sum) (fun _ => ⟨Int.le_refl _, rfl, fun x hx => by cases hx⟩) (fun l u ih h => ?_) us
  have hu := h u (by simp)
  obtain ⟨a, b, c⟩ := ih fun y hy => h y (List.mem_append_left _ hy)
  have fr := U.free (shaped_kept (f := f) l)
  unfold shapedM at fr
  have ps : 0 ≤ (shG f l).1.sum := by
    have : ∀ r : List Int, (∀ x ∈ r, 0 ≤ x) → 0 ≤ r.sum := fun r => by
      induction r with
      | nil => intro _; decide
      | cons z r ih => intro q; rw [List.sum_cons]; have := q z List.mem_cons_self; have := ih fun y hy => q y (List.mem_cons_of_mem _ hy); omega
    exact this _ fun x hx => (c x hx).1
  rw [shG_push, sum_snoc]
  unfold shS
  simp only [sum_snoc]
  refine ⟨by omega, by omega, fun x hx => ?_⟩
  rcases List.mem_append.mp hx with q | q
  · have := c x q; omega
  · cases List.mem_singleton.mp q
    omega
theorem shaped_front {f : Int → Int} {us vs : List Int} : (shapedM f (us ++ vs)).take us.length = shapedM f us := by
  refine snoc_ind (P := fun vs => (shapedM f (us ++ vs)).take us.length = shapedM f us) ?_ (fun l x ih => ?_) vs
  · show (shapedM f (us ++ [])).take us.length = shapedM f us
    rw [List.append_nil, ← shaped_length (f := f) us, List.take_length]
  · show (shapedM f (us ++ (l ++ [x]))).take us.length = shapedM f us
    rw [← List.append_assoc]
    unfold shapedM at ih ⊢
    rw [shG_push]
    unfold shS
    rw [List.take_append_of_le_length (by rw [shG_length, List.length_append]; omega)]
    exact ih
theorem freeK_congr {f g : Int → Int} {e : List Int} : ∀ {n : Nat}, (∀ t : Int, 1 ≤ t → t ≤ (n : Int) + 1 → f t = g t) → freeK f e n = freeK g e n
  | 0, h => h 1 (by omega) (by omega)
  | n + 1, h => by
    unfold freeK
    rw [freeK_congr (n := n) fun t a b => h t a (by omega), h ((n : Int) + 2) (by omega) (by omega)]
theorem shG_congr {f g : Int → Int} {us : List Int} (h : ∀ t : Int, 1 ≤ t → t ≤ us.length → f t = g t) : shG f us = shG g us := by
  revert h
  refine snoc_ind (P := fun us => (∀ t : Int, 1 ≤ t → t ≤ us.length → f t = g t) → shG f us = shG g us) (fun _ => rfl) (fun l x ih h => ?_) us
  rw [List.length_append, List.length_singleton] at h
  rw [shG_push, shG_push, ih fun t a b => h t a (by omega)]
  unfold shS freeM
  rw [freeK_congr fun t a b => h t a (by rw [shG_length] at b; omega)]
/-- a curve that rises where it is written rises -/
theorem up_cv {vs : List Int} {p g : Int} (hp : 0 < p) (hpn : p ≤ vs.length) (h0 : 0 ≤ vs.getD 0 0) (up : ∀ i, i + 1 < vs.length → vs.getD i 0 ≤ vs.getD (i + 1) 0) (last : vs.getD (vs.length - 1) 0 ≤ vs.getD (vs.length - p.toNat) 0 + g) : Up (cvAt vs p g) := by
  refine ⟨by rw [cvAt_in (by decide) (by omega)]; exact h0, fun k => ?_⟩
  induction k using Nat.strongRecOn with
  | ind k ih =>
    intro h1
    by_cases c : k < vs.length
    · rw [cvAt_in (by omega) (by omega), cvAt_in (by omega) (by omega), show ((k : Int) - 1).toNat = k - 1 by omega, show ((k : Int) + 1 - 1).toNat = k - 1 + 1 by omega]
      exact up (k - 1) (by omega)
    · by_cases d : k = vs.length
      · rw [cvAt_back (t := (k : Int) + 1) hp hpn (by omega), cvAt_in (by omega) (by omega), cvAt_in (by omega) (by omega), show ((k : Int) - 1).toNat = vs.length - 1 by omega, show ((k : Int) + 1 - p - 1).toNat = vs.length - p.toNat by omega]
        exact last
      · rw [cvAt_back (t := (k : Int) + 1) hp hpn (by omega), cvAt_back (t := (k : Int)) hp hpn (by omega)]
        have := ih (k - p.toNat) (by omega) (by omega)
        rw [show ((k - p.toNat : Nat) : Int) = (k : Int) - p by omega] at this
        rw [show (k : Int) + 1 - p = (k : Int) - p + 1 by omega]
        omega
/-- no pair of lengths up to n shows a break -/
def goodB (f : Int → Int) (n : Nat) : Bool := (List.range n).all fun a => (List.range (a + 1)).all fun b => decide (f ((a : Int) + 1 + ((b : Int) + 1)) ≤ f ((a : Int) + 1) + f ((b : Int) + 1))
theorem good_at {f : Int → Int} {n : Nat} (h : goodB f n = true) {a b : Int} (h1 : 1 ≤ b) (h2 : b ≤ a) (h3 : a ≤ n) : f (a + b) ≤ f a + f b := by
  unfold goodB at h
  rw [List.all_eq_true] at h
  have x := h (a - 1).toNat (List.mem_range.mpr (by omega))
  rw [List.all_eq_true] at x
  have y := of_decide_eq_true (x (b - 1).toNat (List.mem_range.mpr (by omega)))
  rw [show (((a - 1).toNat : Nat) : Int) + 1 = a by omega, show (((b - 1).toNat : Nat) : Int) + 1 = b by omega] at y
  exact y
end VM

/-! shaped is the greatest; curves that are good at all lengths; greedy records; plain Lean. -/
namespace VM
/-- no unit of vs enters ahead of its coming in us -/
def Behind (us vs : List Int) : Prop := vs.length = us.length ∧ ∀ i : Nat, i ≤ us.length → pre vs i ≤ pre us i
theorem pre_take {us : List Int} {i : Nat} : pre us i = (us.take i).sum := by
  unfold pre; rw [Int.toNat_natCast]
theorem pre_len {us : List Int} {i : Int} (h : (us.length : Int) ≤ i) : pre us i = us.sum := by
  unfold pre; rw [List.take_of_length_le (by omega)]
theorem tl_pre {us : List Int} {k : Nat} (h : k ≤ us.length) : tl us k = us.sum - pre us ((us.length : Int) - k) := by
  unfold tl win
  rw [show (us.length : Int) - (k : Int) + (k : Int) = us.length by omega, pre_all]
/-- free is one of the windows -/
theorem freeK_some {f : Int → Int} {us : List Int} : ∀ n : Nat, ∃ k : Nat, k ≤ n ∧ freeK f us n = f ((k : Int) + 1) - tl us k
  | 0 => ⟨0, Nat.le_refl _, by rw [tl_zero]; show f 1 = f ((0 : Int) + 1) - 0; rw [Int.zero_add]; omega⟩
  | n + 1 => by
    obtain ⟨k, hk, e⟩ := freeK_some (f := f) (us := us) n
    unfold freeK
    by_cases c : freeK f us n ≤ f ((n : Int) + 2) - tl us (n + 1)
    · exact ⟨k, by omega, by omega⟩
    · refine ⟨n + 1, Nat.le_refl _, ?_⟩
      rw [show ((n + 1 : Nat) : Int) + 1 = (n : Int) + 2 by omega]
      omega
theorem shG_front {f : Int → Int} {us : List Int} {i : Nat} (h : i ≤ us.length) : (shG f (us.take i)).1 = (shapedM f us).take i := by
  have e : us.take i ++ us.drop i = us := List.take_append_drop i us
  have s := shaped_front (f := f) (us := us.take i) (vs := us.drop i)
  rw [e, List.length_take, Nat.min_eq_left h] at s
  exact s.symm
theorem shG_sum {f : Int → Int} (us : List Int) : (shG f us).1.sum + (shG f us).2 = us.sum := by
  refine snoc_ind (P := fun us => (shG f us).1.sum + (shG f us).2 = us.sum) rfl (fun l u ih => ?_) us
  show (shG f (l ++ [u])).1.sum + (shG f (l ++ [u])).2 = (l ++ [u]).sum
  rw [shG_push, sum_snoc]
  unfold shS
  simp only [sum_snoc]
  omega
/-- the units so far of the shaped record -/
theorem shaped_pre {f : Int → Int} {us : List Int} {i : Nat} (h : i ≤ us.length) : pre (shapedM f us) i = (shG f (us.take i)).1.sum := by
  rw [shG_front h, pre_take]
theorem shaped_greatest {f : Int → Int} {us vs : List Int} (B : Behind us vs) (K : Kept f vs) : ∀ i : Nat, i ≤ us.length → pre vs i ≤ pre (shapedM f us) i := by
  intro i
  induction i using Nat.strongRecOn with
  | ind i ih =>
    intro hi
    match i with
    | 0 => rw [show ((0 : Nat) : Int) = 0 from rfl, pre_zero, pre_zero]; exact Int.le_refl _
    | i + 1 =>
      have st := shG_take (f := f) (us := us) (i := i) (by omega)
      have sm := shG_sum (f := f) (us.take i)
      have p1 := shaped_pre (f := f) (us := us) (i := i + 1) hi
      have p0 := shaped_pre (f := f) (us := us) (i := i) (by omega)
      have lg : (shG f (us.take i)).1.length = i := by rw [shG_length, List.length_take]; omega
      rw [p1, st]
      have us1 := pre_step (us := us) (i := i) (by omega)
      have ut : (us.take i).sum = pre us i := pre_take.symm
      have bi := B.2 (i + 1) hi
      rw [show ((i + 1 : Nat) : Int) = (i : Int) + 1 by omega] at bi ⊢
      unfold shS
      simp only [sum_snoc]
      by_cases c : (shG f (us.take i)).2 + us.getD i 0 ≤ freeM f (shG f (us.take i)).1
      · omega
      · obtain ⟨k, hk, e⟩ := freeK_some (f := f) (us := (shG f (us.take i)).1) (shG f (us.take i)).1.length
        rw [lg] at hk
        have tp := tl_pre (us := (shG f (us.take i)).1) (k := k) (by omega)
        rw [lg] at tp
        have pk : pre (shG f (us.take i)).1 ((i : Int) - k) = pre (shapedM f us) ((i - k : Nat) : Int) := by
          rw [shG_front (by omega), show (i : Int) - (k : Int) = ((i - k : Nat) : Int) by omega, pre_take, pre_take, List.take_take, Nat.min_eq_left (by omega)]
        have q := ih (i - k) (by omega) (by omega)
        have w := K (i - k) (k + 1) (by omega) (by rw [B.1]; omega)
        unfold win at w
        rw [show ((i - k : Nat) : Int) + ((k + 1 : Nat) : Int) = (i : Int) + 1 by omega, show ((k + 1 : Nat) : Int) = (k : Int) + 1 by omega] at w
        have fm : freeM f (shG f (us.take i)).1 = f ((k : Int) + 1) - tl (shG f (us.take i)).1 k := e
        omega
/-- the shaped record is behind what comes -/
theorem shaped_behind {f : Int → Int} {us : List Int} (U : Up f) (h : ∀ u ∈ us, 0 ≤ u) : Behind us (shapedM f us) := by
  refine ⟨shaped_length us, fun i hi => ?_⟩
  have a := shG_bound (f := f) U (us := us.take i) fun u hu => h u (List.mem_of_mem_take hu)
  rw [shaped_pre hi, pre_take]
  omega
/-- good at the lengths of the form: good at all lengths -/
theorem good_all {f : Int → Int} {n p g : Int} (R : Rep f n p g) (hp : 0 < p) (hpn : p ≤ n) (h0 : f 0 = 0) (G : ∀ a b : Int, 1 ≤ b → b ≤ a → a ≤ n → f (a + b) ≤ f a + f b) : ∀ a b : Int, 0 ≤ a → 0 ≤ b → f (a + b) ≤ f a + f b := by
  have half : ∀ (k : Nat) (a b : Int), 0 ≤ b → b ≤ a → a + b = k → f (a + b) ≤ f a + f b := by
    intro k
    induction k using Nat.strongRecOn with
    | ind k ih =>
      intro a b hb hba e
      by_cases z : b = 0
      · subst z; rw [h0, Int.add_zero]; omega
      · by_cases c : a ≤ n
        · exact G a b (by omega) hba c
        · have r1 := R a (by omega)
          have r2 := R (a + b) (by omega)
          rw [show a + b - p = a - p + b by omega] at r2
          have : f (a - p + b) ≤ f (a - p) + f b := by
            by_cases d : b ≤ a - p
            · exact ih (a - p + b).toNat (by omega) (a - p) b hb d (by omega)
            · have := ih (a - p + b).toNat (by omega) b (a - p) (by omega) (by omega) (by omega)
              rw [show b + (a - p) = a - p + b by omega] at this
              omega
          omega
  intro a b ha hb
  by_cases c : b ≤ a
  · exact half (a + b).toNat a b hb c (by omega)
  · have := half (a + b).toNat b a ha (by omega) (by omega)
    rw [show b + a = a + b by omega] at this
    omega
/-- the greedy record of n ticks -/
def greedyM (f : Int → Int) (n : Nat) : List Int := (List.range n).map fun t : Nat => f ((t : Int) + 1) - f t
theorem greedy_length {f : Int → Int} {n : Nat} : (greedyM f n).length = n := by simp [greedyM]
theorem greedy_succ {f : Int → Int} {n : Nat} : greedyM f (n + 1) = greedyM f n ++ [f ((n : Int) + 1) - f n] := by
  unfold greedyM; rw [List.range_succ, List.map_append]; rfl
theorem greedy_sum {f : Int → Int} (h0 : f 0 = 0) : ∀ n : Nat, (greedyM f n).sum = f n
  | 0 => by show (0 : Int) = f 0; omega
  | n + 1 => by
    rw [greedy_succ, sum_snoc, greedy_sum h0 n, show ((n + 1 : Nat) : Int) = (n : Int) + 1 by omega]
    omega
theorem greedy_take {f : Int → Int} {n i : Nat} (h : i ≤ n) : (greedyM f n).take i = greedyM f i := by
  unfold greedyM; rw [← List.map_take, List.take_range, Nat.min_eq_left h]
theorem greedy_pre {f : Int → Int} (h0 : f 0 = 0) {n i : Nat} (h : i ≤ n) : pre (greedyM f n) i = f i := by
  rw [pre_take, greedy_take h, greedy_sum h0]
theorem greedy_kept {f : Int → Int} (h0 : f 0 = 0) (G : ∀ a b : Int, 0 ≤ a → 0 ≤ b → f (a + b) ≤ f a + f b) (n : Nat) : Kept f (greedyM f n) := by
  intro s k h1 h2
  rw [greedy_length] at h2
  unfold win
  rw [show (s : Int) + (k : Int) = ((s + k : Nat) : Int) by omega, greedy_pre h0 h2, greedy_pre h0 (by omega)]
  have := G s k (by omega) (by omega)
  rw [show ((s + k : Nat) : Int) = (s : Int) + (k : Int) by omega]
  omega
/-- ahead of every record that keeps the curve -/
theorem greedy_ahead {f : Int → Int} (h0 : f 0 = 0) {vs : List Int} (K : Kept f vs) {n i : Nat} (hn : vs.length = n) (hi : i ≤ n) : pre vs i ≤ pre (greedyM f n) i := by
  rw [greedy_pre h0 hi]
  by_cases z : i = 0
  · subst z
    rw [show ((0 : Nat) : Int) = 0 from rfl, pre_zero, h0]
    exact Int.le_refl _
  · have := K 0 i (by omega) (by omega)
    unfold win at this
    rw [show ((0 : Nat) : Int) + (i : Int) = i by omega, show ((0 : Nat) : Int) = 0 from rfl, pre_zero] at this
    omega
end VM

/-! What repr may be asked of: shown, not deep, not long. -/
namespace VR
open PySem
structure Sz (k L : Nat) (d : PyData) : Prop where
  sh : d.showable = true
  dp : d.depth ≤ k
  ln : d.shown.length ≤ L
theorem Sz.mono {k L k' L' : Nat} {d : PyData} (h : Sz k L d) (a : k ≤ k') (b : L ≤ L') : Sz k' L' d := ⟨h.sh, Nat.le_trans h.dp a, Nat.le_trans h.ln b⟩
theorem Sz.none : Sz 0 5 .none := ⟨rfl, Nat.zero_le _, by decide⟩
theorem Sz.bool (b : Bool) : Sz 0 5 (.bool b) := ⟨rfl, Nat.zero_le _, by cases b <;> decide⟩
theorem log_small {n : Nat} (h : n < 10 ^ 100) : n.log2 < 1920 := by
  by_cases z : n = 0
  · subst z; decide
  · exact (Nat.log2_lt z).mpr (Nat.lt_trans h (by decide +kernel))
theorem Sz.int {i : Int} (h : i.natAbs < 10 ^ 100) : Sz 0 101 (.int i) := by
  refine ⟨by simp only [PyData.showable]; exact decide_eq_true (log_small h), Nat.zero_le _, ?_⟩
  have e := int_text_length_le10 (k := 100) (by decide) h
  show (Str.ofString (toString i)).length ≤ 101
  rw [ofString_length]; exact e
theorem all_show {k L : Nat} : ∀ {ds : List PyData}, (∀ d ∈ ds, Sz k L d) → PyData.showableAll ds = true
  | [], _ => rfl
  | d :: ds, h => by
    simp only [PyData.showableAll]
    rw [(h d List.mem_cons_self).sh, all_show fun e he => h e (List.mem_cons_of_mem _ he)]
    rfl
theorem all_depth {k L : Nat} : ∀ {ds : List PyData}, (∀ d ∈ ds, Sz k L d) → PyData.depthAll ds ≤ k
  | [], _ => Nat.zero_le _
  | d :: ds, h => by
    simp only [PyData.depthAll]
    exact Nat.max_le.mpr ⟨(h d List.mem_cons_self).dp, all_depth fun e he => h e (List.mem_cons_of_mem _ he)⟩
theorem all_len {k L : Nat} : ∀ {ds : List PyData}, (∀ d ∈ ds, Sz k L d) → ((PyData.shownAll ds).map (·.length)).sum ≤ L * ds.length ∧ (PyData.shownAll ds).length = ds.length
  | [], _ => ⟨Nat.zero_le _, rfl⟩
  | d :: ds, h => by
    have a := (h d List.mem_cons_self).ln
    obtain ⟨b, c⟩ := all_len (ds := ds) fun e he => h e (List.mem_cons_of_mem _ he)
    simp only [PyData.shownAll, List.map_cons, List.sum_cons, List.length_cons]
    refine ⟨?_, by omega⟩
    rw [Nat.mul_add, Nat.mul_one]
    omega
theorem Sz.list {k L n : Nat} {ds : List PyData} (h : ∀ d ∈ ds, Sz k L d) (hn : ds.length ≤ n) : Sz (k + 1) ((L + 2) * n + 3) (.list ds) := by
  refine ⟨by simp only [PyData.showable]; exact all_show h, by simp only [PyData.depth]; have := all_depth h; omega, ?_⟩
  obtain ⟨a, b⟩ := all_len h
  have c := listText_len_le (PyData.shownAll ds)
  simp only [PyData.shown]
  rw [b] at c
  have m : (L + 2) * ds.length ≤ (L + 2) * n := Nat.mul_le_mul_left _ hn
  rw [Nat.add_mul] at m
  omega
theorem Sz.tuple {k L n : Nat} {ds : List PyData} (h : ∀ d ∈ ds, Sz k L d) (hn : ds.length ≤ n) : Sz (k + 1) ((L + 2) * n + 3) (.tuple ds) := by
  refine ⟨by simp only [PyData.showable]; exact all_show h, by simp only [PyData.depth]; have := all_depth h; omega, ?_⟩
  obtain ⟨a, b⟩ := all_len h
  have c := tupleText_len_le (PyData.shownAll ds)
  simp only [PyData.shown]
  rw [b] at c
  have m : (L + 2) * ds.length ≤ (L + 2) * n := Nat.mul_le_mul_left _ hn
  rw [Nat.add_mul] at m
  omega
theorem Sz.ints {n : Nat} {us : List Int} (h : ∀ u ∈ us, u.natAbs < 10 ^ 100) (hn : us.length ≤ n) : Sz 1 (103 * n + 3) (.list (us.map PyData.int)) := by
  refine Sz.list (k := 0) (L := 101) (fun d hd => ?_) (by rw [List.length_map]; exact hn)
  obtain ⟨u, hu, rfl⟩ := List.mem_map.mp hd
  exact .int (h u hu)
end VR

/-! for i, x in enumerate(xs, start=k), and over reversed(xs). -/
namespace VE
open PySem PySem.Spec PyProof.Rows L2
section
variable {prog : Program} {w : World} {A : Around} {E : Value → Shared → Prop} {s : Shared}
theorem next_rev {it l : Addr} {i : Nat} {items : Array Value} {x : Value} {Q : Value → Shared → Prop} (hit : s.heap.IsRevIter it l (i : Int)) (hl : s.heap.IsList l items)
    (hx : items[i]? = some x) (hQ : ∀ h', h'.IsRevIter it l ((i : Int) - 1) → Heap.SameBut it s.heap h' → Q x { s with heap := h' }) :
    wpAny (model prog w) A (Builtin.SmallTypes.nextOf (.ref it)) Q E s := by
  obtain ⟨ob, g1, g2, g3⟩ := id hit
  obtain ⟨ol, k1, _, nl, k2⟩ := hl
  have slot := F.slot_lri_next
  unfold Builtin.SmallTypes.nextOf
  refine wpAny_bind (wpAny_callSpecial?_slot (name := Str.ofString "__next__") hit.typeIs slot (wpAny_call_entry slot hit.typeIs F.entry_lri_next ?_ (F.args_lri_next_1 _)))
  unfold Builtin.«list_reverseiterator.__next__» ; refine wpAny_bind (wpAny_of_eq (a := (Value.ref it, [])) rfl ?_)
  try dsimp only
  refine wpAny_bind (wpAny_field g1 g3 (x := rawInt (i : Int)) rfl ?_)
  show wpAny _ A.in1 (if (i : Int) < 0 then _ else _) _ _ s
  rw [if_neg (show ¬ (i : Int) < 0 by omega)]
  show wpAny _ A.in1 (field (.ref it) 0 >>= _) _ _ s
  refine wpAny_bind (wpAny_field g1 g3 (x := .ref l) rfl ?_)
  show wpAny _ A.in1 (seqItems? (.ref l) >>= _) _ _ s
  refine wpAny_bind (wpAny_seqItems k1 k2 ?_)
  simp only [Int.toNat_natCast, hx]
  refine wpAny_bind (wpAny_setField g1 g3 (by simp) ?_)
  have here : (s.heap.update it fun o => o.mapFields fun vs => vs.setIfInBounds 1 (rawInt ((i : Int) - 1))).IsRevIter it l ((i : Int) - 1) := by
    refine ⟨_, Heap.get?_update_self _ g1 (Obj.isFreed_of_fields (Obj.data_mapFields g3 _)), (Obj.cls_mapFields ..).trans g2, ?_⟩
    rw [Obj.data_mapFields g3]
    simp
  first
  | exact wpAny_pure ⟨x, rfl, wpAny_pure (hQ _ here (Heap.SameBut.update ..))⟩
  | exact wpAny_bind (wpAny_pure (wpAny_pure ⟨x, rfl, wpAny_pure (hQ _ here (Heap.SameBut.update ..))⟩))
theorem next_rev_end {it l : Addr} {Q : Value → Shared → Prop} (hh : A.handled = none) (hit : s.heap.IsRevIter it l (-1))
    (hE : ∀ h' e, Heap.ExtBut it s.heap h' → (∃ o, h'.get? e = some o ∧ o.cls = .type "StopIteration") → E (.ref e) { s with heap := h' }) :
    wpAny (model prog w) A (Builtin.SmallTypes.nextOf (.ref it)) Q E s := by
  obtain ⟨ob, g1, g2, g3⟩ := id hit
  have slot := F.slot_lri_next
  unfold Builtin.SmallTypes.nextOf
  refine wpAny_bind (wpAny_callSpecial?_slot (name := Str.ofString "__next__") hit.typeIs slot (wpAny_call_entry slot hit.typeIs F.entry_lri_next ?_ (F.args_lri_next_1 _)))
  unfold Builtin.«list_reverseiterator.__next__» ; refine wpAny_bind (wpAny_of_eq (a := (Value.ref it, [])) rfl ?_)
  try dsimp only
  refine wpAny_bind (wpAny_field g1 g3 (x := rawInt (-1)) rfl ?_)
  show wpAny _ A.in1 (if (-1 : Int) < 0 then _ else _) _ _ s
  rw [if_pos (show (-1 : Int) < 0 by decide)]
  refine wpAny_bind (wpAny_rule ?_)
  first
  | show wpAny _ A.in1 (newExc (.type "StopIteration") [] >>= _) _ _ _
  | (refine wpAny_bind ?_; show wpAny _ A.in1 (newExc (.type "StopIteration") [] >>= _) _ _ _)
  refine wpAny_bind ?_
  simp only [newExc, newTuple]
  refine wpAny_bind (wpAny_newObj_type ?_ (by size_fits)) ; refine wpAny_bind (m := firstArgMember _ _) (wpAny_of_eq (a := Value.none) (by first | rfl | (simp only [firstArgMember]; rfl)) ?_)
  refine wpAny_newObj_type ?_ (by size_fits)
  simp only [raiseNew]
  refine wpAny_bind (wpAny_handled ?_)
  first | rw [show A.in1.handled = none from hh] | rw [hh]
  refine wpAny_bind (wpAny_pure (wpAny_throw ?_))
  exact hE _ _ (((Heap.ExtBut.refl _ _).push _).push _) ⟨_, Heap.get?_push_size _ rfl, rfl⟩
end
theorem draws_rev {prog : Program} {w : World} {A : Around} (hh : A.handled = none) (it l : Addr) (hne : l ≠ it) (items : Array Value) :
    Draws prog w A it [it, l] items.size (fun i v => items[items.size - 1 - i]? = some v)
      (fun i h => i ≤ items.size ∧ h.IsRevIter it l ((items.size : Int) - 1 - (i : Int)) ∧ h.IsList l items) where
  live := fun _ _ st => let ⟨o, ho, _⟩ := st.2.1; ⟨o, ho⟩
  frame := fun _ _ _ st k => ⟨st.1, st.2.1.at fun o e => k it (by simp) o e, st.2.2.at fun o e => k l (by simp) o e⟩
  item := fun i s Q E hi st hQ => by
    obtain ⟨_, hit, hl⟩ := st
    rw [show (items.size : Int) - 1 - (i : Int) = ((items.size - 1 - i : Nat) : Int) by omega] at hit
    have hx : items[items.size - 1 - i]? = some (items[items.size - 1 - i]'(by omega)) := Array.getElem?_eq_getElem (by omega)
    refine next_rev hit hl hx fun h' hit' sb => hQ _ h' s.toks hx ⟨hi, ?_, hl.extBut sb.extBut hne⟩ sb
    rw [show (items.size : Int) - 1 - ((i + 1 : Nat) : Int) = ((items.size - 1 - i : Nat) : Int) - 1 by omega]
    exact hit'
  done := fun s Q E st hE => by
    obtain ⟨_, hit, _⟩ := st
    rw [show (items.size : Int) - 1 - (items.size : Int) = -1 by omega] at hit
    exact next_rev_end hh hit hE

/-- what may be iterated as it is: iter(v) is v -/
structure Self (v : Value) (H : Heap → Prop) : Prop where
  iter : ∀ (prog : Program) (w : World) (A : Around) (E : Value → Shared → Prop) (s : Shared) (Q : Value → Shared → Prop), H s.heap → Q v s → wpAny (model prog w) A (pyIter v) Q E s
theorem self_rev (it l : Addr) (i : Int) : Self (.ref it) fun h => h.IsRevIter it l i := ⟨fun _ _ _ _ _ _ h q => wpAny_pyIter_revIter h q⟩
set_option maxHeartbeats 4000000 in
theorem new_enum {v : Value} {H : Heap → Prop} (B : Self v H) (k : Int) (t : Tok) (hfit : Builtin.SmallTypes.fitsIndex k = true) :
    Meets (Builtin.«enumerate.__new__» ⟨[.type "enumerate", v], [(Str.ofString "start", .int k t)]⟩) (fun _ R s => H s.heap ∧
      R (.ok (.ret (.ref s.heap.objs.size))) { s with heap := s.heap.push { cls := .type "enumerate", data := .fields #[.none, .bool false, v, rawInt k, .none, .none] } }) := by
  refine .of_wp fun prog w A R s h => ?_
  obtain ⟨hp, g, d, tk, os⟩ := s
  obtain ⟨h1, h⟩ := h
  have hsub := sub_enumerate
  have hnf : (!Builtin.SmallTypes.fitsIndex k) = false := by rw [hfit] ; rfl
  have q1 : ∀ {A' : Around} {E : Value → Shared → Prop} {Q : Value → Shared → Prop}, Q v ⟨hp, g, d, tk, os⟩ → wpAny (model prog w) A' (pyIter v) Q E ⟨hp, g, d, tk, os⟩ := fun q => B.iter prog w _ _ _ _ h1 q
  have a1 : (Str.ofString "start" == ("start" : Str)) = true := by decide +kernel
  have a2 : (Str.ofString "start" != ("start" : Str)) = false := by decide +kernel
  have a3 : (Str.ofString "start" != ("iterable" : Str)) = true := by decide +kernel
  have a4 : (("start" : Str) == Str.ofString "start") = true := by decide +kernel
  have a5 : (("iterable" : Str) == Str.ofString "start") = false := by decide +kernel
  wp_walk using q1
  refine wpAny_stack_any fun st => wpAny_pure ?_
  split
  · rename_i c _ _ _ _ _
    cases (c == Value.type "enumerate")
    · wp_walk using q1
      exact ⟨_, rfl, h⟩
    · wp_walk using q1
      exact ⟨_, rfl, h⟩
  · wp_walk using q1
    exact ⟨_, rfl, h⟩
theorem call_enum {prog : Program} {w : World} {A : Around} {E : Value → Shared → Prop} {s : Shared} {v : Value} {H : Heap → Prop} {k : Int} {t : Tok} {Q : Value → Shared → Prop} (B : Self v H) (h1 : H s.heap)
    (b0 : -(2 ^ 63) ≤ k) (b1 : k < 2 ^ 63) (h : Q (.ref s.heap.objs.size) { s with heap := s.heap.push { cls := .type "enumerate", data := .fields #[.none, .bool false, v, rawInt k, .none, .none] } }) :
    wpAny (model prog w) A (call (.type "enumerate") [v] [(Str.ofString "start", .int k t)]) Q E s := by
  refine callType_newKw F.called_enumerate (by decide) (F.typeCall_enumerate_start _ _) (F.newCall_enumerate_start _ _) (fun obj => F.args_object_init_start obj _ _) F.entry_enumerate_new (new_enum B k t (fits_start b0 b1)) ⟨h1, ?_⟩
  exact ⟨⟨_, Heap.get?_push_size _ rfl, rfl⟩, h⟩
end VE
namespace VE
open PySem PySem.Spec PyProof.Rows L2
/-- k, k + 1, .. with the list at a (n items, which the loop leaves there) from its end, in new pairs -/
def Iter' (K : PySem.W.Frag) (a : Addr) (n : Nat) (k : Int) : It :=
  ⟨fun i H => i < n ∧ ∃ xs : List V, SqL K H a xs ∧ xs.length = n, fun i H v H' => ∃ T x, v = .ref T ∧ H T = none ∧ H' = upd H T (.tup [.int (k + (i : Nat)), x]) ∧ ∀ xs, SqL K H a xs → xs[n - 1 - i]? = some x,
    fun i H => n ≤ i ∧ ∃ xs : List V, SqL K H a xs ∧ xs.length = n⟩
theorem turn_enumRev {P : Program} {w : World} {K : PySem.W.Frag} {elts : List Expr} {kk : Nat} {tpos : Pos} (a e it : Addr) (n : Nat) (k : Int) (hai : a ≠ it) (hei : e ≠ it) (hea : e ≠ a) :
    Turn P w K (.Tuple elts kk tpos) (Iter' K a n k) [e, it] e (fun i h => (∃ old, IsEnum h e it (k + (i : Nat)) old) ∧ i ≤ n ∧ h.IsRevIter it a ((n : Int) - 1 - (i : Nat))) where
  mem := by simp
  obj := fun i h st b hb => by
    obtain ⟨⟨old, he⟩, _, o, ho, hc, hd⟩ := st
    have e' : b = e ∨ b = it := by simpa using hb
    rcases e' with z | z
    · rw [z]; exact ⟨_, he, fun v q => nomatch q⟩
    · rw [z]; exact ⟨o, ho, fun v q => by rw [hd] at q; cases q⟩
  keep := fun i h h' st kp => let ⟨⟨old, he⟩, hn, hi⟩ := st; ⟨⟨old, kp e (by simp) _ he⟩, hn, hi.at fun o q => kp it (by simp) o q⟩
  item := by
    intro X hP hw hK hc i pins s σ H E I hf st hg
    subst hP hw hK
    obtain ⟨⟨old, he⟩, hin, hit⟩ := st
    obtain ⟨hlt, xs, hq, hl⟩ := hg
    obtain ⟨its, rv, p, hz⟩ := I.list hq
    have hn : its.toArray.size = n := by rw [List.size_toArray, ← rv.length]; exact hl
    have hh : X.A.in1.handled = none := I.ok.hd hc
    have hel : e < s.heap.objs.size := Heap.lt_size he
    have hil : it < s.heap.objs.size := by obtain ⟨_, q, _⟩ := hit; exact Heap.lt_size q
    have D := draws_rev (prog := X.prog) (w := X.w) (A := X.A.in1) hh it a hai its.toArray
    rw [hn] at D
    refine wpAny_pyNext_enum_itemC D he ⟨hin, hit, p.isList⟩ hlt hei (by simp [hei, hea]) fun u h' tk hP ho hs' hT hsz hkp => ?_
    obtain ⟨_, hit', _⟩ := hs'
    have hx : xs[n - 1 - i]? = some (xs[n - 1 - i]'(by omega)) := List.getElem?_eq_getElem (by omega)
    obtain ⟨u', hu', ru⟩ := rv.get hx
    have hP' : its[n - 1 - i]? = some u := by simpa using hP
    have euu : u' = u := by rw [hP'] at hu'; exact (Option.some.inj hu').symm
    subst euu
    refine ⟨_, rfl, wpAny_letOwnedTupleGo_enum (s := { s with heap := h', toks := tk + 1 }) ho fun h'' he' sb => ?_⟩
    have hT2 : h''.get? s.heap.objs.size = some { cls := .type "tuple", data := .seq #[.int (k + (i : Nat)) tk, u'] } := (sb.2 _ (Nat.ne_of_gt hel)).trans hT
    have new : ObjOk X.prog X.w (upd H s.heap.objs.size (.tup [.int (k + (i : Nat)), xs[n - 1 - i]'(by omega)])) h'' s.heap.objs.size (.tup [.int (k + (i : Nat)), xs[n - 1 - i]'(by omega)]) :=
      ⟨by show 2 ≤ sizeLine; decide, [.int (k + (i : Nat)) tk, u'], .cons ⟨_, rfl⟩ (.cons ru .nil), ⟨_, hT2, rfl, _, rfl⟩⟩
    have I1 : Inv X pins σ (upd H s.heap.objs.size (.tup [.int (k + (i : Nat)), xs[n - 1 - i]'(by omega)])) { s with heap := h'', toks := tk + 1 } :=
      I.turnedNew (ch := [e, it]) (fun b ob hb q => (sb.2 b (fun z => hb (by simp [z]))).trans (hkp b ob (fun z => hb (by simp [z])) (fun z => hb (by simp [z])) q)) hf (Nat.le_refl _) new
    refine ⟨.ref s.heap.objs.size, _, I1, rfl, ⟨_, _, rfl, I.hok.fresh (Nat.le_refl _), rfl, fun ys hy => by rw [I.list_inj hy hq]; exact hx⟩, ⟨⟨u', ?_⟩, hlt, hit'.at fun o q => (sb.2 it (Ne.symm hei)).trans q⟩, fun b hb => ?_⟩
    · have e1 : k + ((i + 1 : Nat) : Int) = k + (i : Int) + 1 := by omega
      rw [e1]; exact he'
    · have hb' : b < s.heap.objs.size := by
        have e' : b = e ∨ b = it := by simpa using hb
        rcases e' with z | z
        · rw [z]; exact hel
        · rw [z]; exact hil
      rw [upd_ne (Nat.ne_of_lt hb')]
      exact (hf b hb).1
  done := by
    intro X hP hw hK hc i pins s σ H E I hf st hg
    subst hP hw hK
    obtain ⟨⟨old, he⟩, hin, hit⟩ := st
    obtain ⟨hge, xs, hq, hl⟩ := hg
    obtain ⟨its, rv, p, hz⟩ := I.list hq
    have hn : its.toArray.size = n := by rw [List.size_toArray, ← rv.length]; exact hl
    have hh : X.A.in1.handled = none := I.ok.hd hc
    obtain ⟨f0, f1, f2, f3, f4, f5⟩ := hf it (by simp)
    have D := draws_rev (prog := X.prog) (w := X.w) (A := X.A.in1) hh it a hai its.toArray
    rw [hn] at D
    have ei : i = n := by omega
    subst ei
    exact wpAny_pyNext_enum_endD D he ⟨Nat.le_refl _, hit, p.isList⟩ fun h' eb => ⟨rfl, I.turned (t' := s.toks) (fun b o hb q => eb b o hb q) f0 f1 f3 f4 f5⟩
  self := fun A i s Q E st h => let ⟨⟨_, he⟩, _⟩ := st; wpAny_pyIter_enum he h
theorem walk_enumRev {K : PySem.W.Frag} {a : Addr} {xs : List V} {k : Int} : Walk (Iter' K a xs.length k) xs.length (fun H => SqL K H a xs) (YPair (fun i => some (.int (k + (i : Nat)))) (fun i => xs[xs.length - 1 - i]?)) := by
  refine ⟨fun i _ hi q => ⟨hi, xs, q, rfl⟩, fun _ q => ⟨Nat.le_refl _, xs, q, rfl⟩, fun i H v H' _ q y => ?_⟩
  obtain ⟨T, x, h1, h2, h3, h4⟩ := y
  exact ⟨T, .int (k + (i : Nat)), x, h1, h2, h3, rfl, h4 xs q⟩
def iEnumRev (K : PySem.W.Frag) (ta : TA) (k : Int) : TI := fun σ H R => ta σ H fun vs H1 => ∃ (a : Addr) (xs : List V), vs = [.ref a] ∧ SqL K H1 a xs ∧ R (Iter' K a xs.length k) H1
section
variable {M : Model} {A : Around} {E : Value → Shared → Prop} {s : Shared} {env : Env}
theorem callWith_typeKw {pos : Pos} {T : String} {e : Expr} {rest : List Expr} {kws : List Keyword} {Q : Value → Shared → Prop} (hall : (backToKw pos (keywordEach kws env)).all (·.1.isSome) = true)
    (h : wpAny M A (spliced (backTo pos (starEach (e :: rest) env))) (fun vs s₁ => wpAny M A (evalAll ((backToKw pos (keywordEach kws env)).map (·.2)))
      (fun ks s₂ => wpAny M A (call (.type T) vs (((backToKw pos (keywordEach kws env)).filterMap (·.1)).zip ks)) Q E s₂) E s₁) E s)
    (hplain : ((backTo pos (starEach (e :: rest) env)).any (·.1) || (backToKw pos (keywordEach kws env)).any (·.1.isNone)) = false) (he : starEach (e :: rest) env = (false, eval e env) :: starEach rest env) :
    wpAny M A (callWith pos (.type T) [] (backTo pos (starEach (e :: rest) env)) (backToKw pos (keywordEach kws env))) Q E s := by
  unfold callWith
  refine wpAny_bind (wpAny_holding (wpAny_mono (evalArgs_kw2 (f := .type T) (Q := fun a s₁ => wpAny M A (call (.type T) a.pos a.kw) Q E s₁) hall h he) (fun a s₁ h₁ => wpAny_bind (wpAny_standAt ?_)) fun _ _ x => x))
  simp only [hplain]
  refine wpAny_bind (wpAny_pure ?_)
  exact wpAny_bind (wpAny_mono h₁ (fun r s₂ hr => wpAny_bind (wpAny_holding (wpAny_point (wpAny_pure hr)))) fun _ _ x => x)
theorem Call_kws {func : Expr} {args : List Expr} {kws : List Keyword} {pos : Pos} {Q : Value → Shared → Prop}
    (h : wpAny M A (eval func env) (fun f s₁ => wpAny M A (callWith pos f [] (backTo pos (starEach args env)) (backToKw pos (keywordEach kws env))) Q E s₁) E s)
    (he : eval (.Call func args kws pos) env = (do callWith pos (← eval func env) [] (backTo pos (starEach args env)) (backToKw pos (keywordEach kws env))) := by rfl) :
    wpAny M A (eval (.Call func args kws pos) env) Q E s := by
  rw [he]; exact wpAny_bind h
end
theorem pi_enumRev {X : Cx} {e : Expr} {ta : TA} {p p2 pos pos2 kp jp tpos : Pos} {j : Nat} {k : Int} {elts : List Expr} {kk : Nat} (hk0 : -(2 ^ 63) ≤ k) (hk1 : k < 2 ^ 63) (hg : Gl X "enumerate") (hm : X.mg "enumerate" = none) (hg2 : Gl X "reversed") (hm2 : X.mg "reversed" = none) (ha : PA X [e] ta)
    (hs : starEach [e] X.env = [(false, eval e X.env)] := by rfl)
    (hs2 : starEach [.Call (.Name "reversed" p2) [e] [] pos2] X.env = (false, eval (.Call (.Name "reversed" p2) [e] [] pos2) X.env) :: starEach [] X.env := by rfl)
    (hst : ∀ q, (backTo q (starEach [.Call (.Name "reversed" p2) [e] [] pos2] X.env)).any (·.1) = false := by exact fun _ => rfl)
    (hbs : eval (.Call (.Name "reversed" p2) [e] [] pos2) X.env = (do callWith pos2 (← eval (.Name "reversed" p2) X.env) [] (backTo pos2 (starEach [e] X.env)) (backToKw pos2 (keywordEach [] X.env))) := by rfl) :
    PI X (.Tuple elts kk tpos) (.Call (.Name "enumerate" p) [.Call (.Name "reversed" p2) [e] [] pos2] [⟨some "start", .Constant (.int k) j jp, kp⟩] pos) (iEnumRev X.K ta k) := by
  refine ⟨fun pins s σ H R I h => ?_⟩
  refine Call_kws (ld_blt I hg hm boot_enumerate (callWith_typeKw rfl (args_cons ?_ hs2) (by rw [hst]; rfl) hs2))
  refine Call_ (ld_blt I hg2 hm2 PyProof.Rows.boot_reversed (PyProof.Rows.callWith_type1 (thn (ha.run pos2 pins s σ H _ I h) fun us s1 ⟨vs, H1, I1, r1, q1⟩ => ?_) hs rfl)) hbs
  obtain ⟨a, xs, ex, hq, q⟩ := q1
  subst ex
  cases r1 with
  | cons r rr =>
    cases rr
    cases r
    obtain ⟨its, rv, p', hz⟩ := I1.list hq
    have hl := rv.length
    have hal : a < s1.heap.objs.size := by obtain ⟨_, _, z, _⟩ := p'; exact Heap.lt_size z
    refine call_reversed_list p'.isList (args_nil (kws_cons (wpAny_Constant_int (kws_nil ?_))))
    have sz1 : (s1.heap.push { cls := .type "list_reverseiterator", data := .fields #[.ref a, rawInt (((its.toArray.size : Nat) : Int) - 1)] }).objs.size = s1.heap.objs.size + 1 := Heap.size_push ..
    have hit0 : (s1.heap.push { cls := .type "list_reverseiterator", data := .fields #[.ref a, rawInt (((its.toArray.size : Nat) : Int) - 1)] }).IsRevIter s1.heap.objs.size a (((its.toArray.size : Nat) : Int) - 1) := ⟨_, Heap.get?_push_size _ rfl, rfl, rfl⟩
    refine call_enum (self_rev s1.heap.objs.size a (((its.toArray.size : Nat) : Int) - 1)) hit0 hk0 hk1 ?_
    have he : IsEnum ((s1.heap.push { cls := .type "list_reverseiterator", data := .fields #[.ref a, rawInt (((its.toArray.size : Nat) : Int) - 1)] }).push { cls := .type "enumerate", data := .fields #[.none, .bool false, .ref s1.heap.objs.size, rawInt k, .none, .none] }) (s1.heap.objs.size + 1) s1.heap.objs.size k .none := by
      have := Heap.get?_push_size (s1.heap.push { cls := .type "list_reverseiterator", data := .fields #[.ref a, rawInt (((its.toArray.size : Nat) : Int) - 1)] }) (o := { cls := .type "enumerate", data := .fields #[.none, .bool false, .ref s1.heap.objs.size, rawInt k, .none, .none] }) rfl
      rw [sz1] at this; exact this
    show wpAny _ _ (pyIter (.ref (s1.heap.push { cls := .type "list_reverseiterator", data := .fields #[.ref a, rawInt (((its.toArray.size : Nat) : Int) - 1)] }).objs.size)) _ _ _
    rw [sz1]
    refine wpAny_pyIter_enum he ?_
    have hit1 := hit0.at (h' := (s1.heap.push { cls := .type "list_reverseiterator", data := .fields #[.ref a, rawInt (((its.toArray.size : Nat) : Int) - 1)] }).push { cls := .type "enumerate", data := .fields #[.none, .bool false, .ref s1.heap.objs.size, rawInt k, .none, .none] }) fun o q => Heap.get?_push_of_some _ q
    refine ⟨s1.heap.objs.size + 1, [s1.heap.objs.size + 1, s1.heap.objs.size], _, _, H1, rfl, ?_, turn_enumRev a (s1.heap.objs.size + 1) s1.heap.objs.size xs.length k (Nat.ne_of_lt hal) (Nat.succ_ne_self _) (Nat.ne_of_gt (Nat.lt_succ_of_lt hal)), ⟨⟨.none, ?_⟩, Nat.zero_le _, ?_⟩, fun b hb => ?_, q⟩
    · exact I1.kept fun b ob q => Heap.get?_push_of_some _ (Heap.get?_push_of_some _ q)
    · rw [show k + ((0 : Nat) : Int) = k by omega]; exact he
    · rw [show (xs.length : Int) - 1 - ((0 : Nat) : Int) = ((its.toArray.size : Nat) : Int) - 1 by rw [List.size_toArray]; omega]; exact hit1
    · have e' : b = s1.heap.objs.size + 1 ∨ b = s1.heap.objs.size := by simpa using hb
      have hle : s1.heap.objs.size ≤ b := by
        rcases e' with z | z
        · rw [z]; exact Nat.le_add_right _ _
        · rw [z]; exact Nat.le_refl _
      exact I1.fpOk hle (I1.hok.fresh hle)
end VE

/-! A method called with keywords. -/
namespace VP
open PySem PySem.Spec PyProof.Rows L2
/-- o.m(e, .., k = v, ..) -/
def tMethKw (C : Addr) (m : Str) (n j : Nat) (sp : Sp) (gV : List V → List V → List V) (E : XK) (ta : TE) (t tk : TA) : TE := fun σ H Q =>
  ta σ H fun x H1 => ∃ a dx fs, x = .ref a ∧ H1 a = some (.ins C dx fs) ∧ fs.lookup m = none ∧
    t σ H1 fun vs H2 => tk σ H2 fun zs H3 => vs.length = n ∧ zs.length = j ∧ sp (gV (x :: vs) zs) H3 Q E
theorem pe_methKw {X : Cx} {CX : CXT} {k n : Nat} {f C : Addr} {fd : FuncData} {ps ks : List Str} {sp : Sp} {E : XK} {m : Str} {pos apos : Pos} {o e : Expr} {es : List Expr} {kws : List Keyword} {ta : TE} {t tk : TA}
    {g : List Value → List Value → List Value} {gV : List V → List V → List V} {pl : Sem Bool}
    (he : PE X o ta) (c : Cls X.K C) (hm : Meth X.K C m f) (F : FnOk X.prog X.w X.K X.mg X.base CX k f fd ps sp) (hr : Room k X.A)
    (hb : KBn X.K fd ps (n + 1) ks g gV) (hx : Passes CX X E) (ha : PA X (e :: es) t) (hkw : PK X kws tk)
    (hall : (backToKw pos (keywordEach kws X.env)).all (·.1.isSome) = true := by rfl) (hks : (backToKw pos (keywordEach kws X.env)).filterMap (·.1) = ks := by rfl)
    (hst : starEach (e :: es) X.env = (false, eval e X.env) :: starEach es X.env := by rfl)
    (hpl : ((backTo pos (starEach (e :: es) X.env)).any (·.1) || (backToKw pos (keywordEach kws X.env)).any (·.1.isNone)) = false := by rfl)
    (ht : eval (.Call (.Attribute o m apos) (e :: es) kws pos) X.env = (do
      let ov ← eval o X.env
      standAt apos.atName
      let (f, first) ← holding [ov] (getMethod ov m pl)
      callWith pos f first (backTo pos (starEach (e :: es) X.env)) (backToKw pos (keywordEach kws X.env))) := by rfl) :
    PE X (.Call (.Attribute o m apos) (e :: es) kws pos) (tMethKw C m n ks.length sp gV E ta t tk) := by
  constructor
  intro pins s σ H Q I h
  refine PySem.W.methodCall_KW (pl := pl) (thn (he.run pins s σ H _ I h) ?_) ht
  rintro u s1 ⟨x, H1, I1, rx, a, dx, fs, ex, ea, l, q⟩
  subst ex
  obtain rfl : u = Value.ref a := rx
  refine getmeth_ok I1 ea c hm l ?_
  refine PySem.W.callWith_KW (first := [.ref a]) (h₀ := X.base) I.ok.mod.kin hm.kp hall (thn (ha.run pos pins s1 σ H1 _ I1 q) ?_) hpl hst
  rintro us s2 ⟨vs, H2, I2, r, q2⟩
  refine thn (hkw.run pos pins s2 σ H2 _ I2 q2) ?_
  rintro ws s3 ⟨zs, H3, I3, rz, l1, l2, q3⟩
  refine ⟨I3.kIn, ?_⟩
  rw [hks]
  have r1 : Vals (V.ref a :: vs) (Value.ref a :: us) := .cons rfl r
  have rel := hb.rel r1 rz
  have len : (Value.ref a :: us).length = n + 1 := by rw [List.length_cons, ← r.length, l1]
  have bind := hb.to s3 (Value.ref a :: us) ws I3.kIn len (rz.length.symm.trans l2)
  show wpAny _ _ (call (.ref f) (Value.ref a :: us) (ks.zip ws)) _ _ _
  refine wpAny_call (codeAny_mono (F.run X.A X.stack s3 H3 ⟨Value.ref a :: us, ks.zip ws⟩ _ _ Q E hr I3.env0 bind rel q3) ?_)
  intro res s' hq
  match res, hq with
  | .error e, hq => exact hx pins σ H3 s3 e s' I3 hq
  | .ok (.ret u), hq => exact I3.after hq
  | .ok .next, hq => exact False.elim hq
  | .ok .brk, hq => exact False.elim hq
  | .ok .cont, hq => exact False.elim hq
end VP

/-! == and != by an own __eq__ whatever stands on the right, repr by an own __repr__, None in an f-string. -/
namespace VN
open PySem PySem.Spec PyProof.Rows L2

section
variable {prog : Program} {w : World} {A : Around} {E : Value → Shared → Prop} {s : Shared} {K : PySem.W.Frag} {x C L f : Addr} {h₀ : Heap} {m : Str → Option Value} {ox : Obj} {od : Option Obj} {b tb : Value}
theorem bound_builtin {M : Model} {name : Str} {id : String} {args : List Value} {Q : Option Value → Shared → Prop} (X : K.In s.heap) (I : PySem.W.InstAt s.heap x ox C od) (hs : PySem.W.findIn K (.ref C) name = some (some (.builtin id)))
    (hb : ∀ self, bindSpecial (.builtin id) self = pure (.builtin id, [self]))
    (h : wpAny M A (call (.builtin id) (.ref x :: args)) (fun v => Q (some v)) E s) : wpAny M A (callSpecialIfBound? (.ref x) name args) Q E s := by
  simp only [callSpecialIfBound?, bindSpecialIfBound?]
  refine wpAny_holding (wpAny_bind (wpAny_bind (wpAny_bind (I.type.here ((PySem.W.looks_findIn X hs).here ?_)))))
  refine wpAny_bind (wpAny_askSetting (wpAny_ite ?_))
  have fin : wpAny M A (call (.builtin id) ([.ref x] ++ args) >>= fun v => pure (some v)) Q E s := wpAny_bind (wpAny_mono h (fun v s' h' => wpAny_pure h') fun _ _ h' => h')
  split
  · exact wpAny_bind ((PySem.W.Looks.of_pure (hb _)).here (wpAny_pure (by exact fin)))
  · exact wpAny_tryCatch (wpAny_bind ((PySem.W.Looks.of_pure (hb _)).here (wpAny_pure (by exact fin))))
open Builtin in
theorem obj_ne {Q : Value → Shared → Prop} (hu : A.in1.units < cLine) (X : K.In s.heap) (I : PySem.W.InstAt s.heap x ox C od) (hm : PySem.W.mroIn K C (.type "object") = some true)
    (hs : PySem.W.findIn K (.ref C) "__eq__" = some (some (.ref f))) (hf : PySem.W.isFn K (.ref f) = true)
    (h : wpAny (model prog w) A.in1 (call (.ref f) [.ref x, b]) (fun v s' => ∃ r, v = .bool r ∧ Q (.bool (!r)) s') E s) : wpAny (model prog w) A (call (.builtin "object.__ne__") [.ref x, b]) Q E s := by
  refine wpAny_call (codeAny_call_builtin PySem.F.slot_zip_ne.plain PySem.F.cmpEntry_ne (PySem.W.check_slot (i := "object.__ne__") (owner := "object") (n := "__ne__") PySem.F.cmpKind_ne PySem.F.cmpSplit_ne (I.type.andThen (PySem.W.looks_mroIn X hm)) (PySem.F.cmpArgs_ne _ _) ?_))
  unfold Builtin.«object.__ne__»
  refine wpAny_bind (m := slotArgs "__ne__" 1 _) (wpAny_pure ?_)
  refine wpAny_bind (m := cRoomFor _ _) (wpAny_cRoomFor hu ?_)
  refine wpAny_bind (m := callSpecialIfBound? (.ref x) (Str.ofString "__eq__") _) (PySem.W.ifBound_K X I hs hf (wpAny_mono h (fun r s' hq => ?_) fun _ _ y => y))
  obtain ⟨r, rfl, hq⟩ := hq
  exact wpAny_bind (wpAny_truthy_bool (wpAny_pure hq))
theorem ne_K {Q : Value → Shared → Prop} (hu : A.units + 1 < cLine) (F : PyProof.Rows.Fr h₀ L s.heap m) (X₀ : K.In h₀) (I : PySem.W.InstAt s.heap x ox C od) (hb : PySem.W.Looks (model prog w) s.heap (typeOf b) tb) (hn : PySem.W.notFirst K C tb = true)
    (hne : PySem.W.findIn K (.ref C) "__ne__" = some (some (.builtin "object.__ne__"))) (hm : PySem.W.mroIn K C (.type "object") = some true)
    (hs : PySem.W.findIn K (.ref C) "__eq__" = some (some (.ref f))) (hf : PySem.W.isFn K (.ref f) = true)
    (h : wpAny (model prog w) A.in1 (call (.ref f) [.ref x, b]) (fun v s' => ∃ r, v = .bool r ∧ Q (.bool (!r)) s') E s) : wpAny (model prog w) A (richCompare .NotEq (.ref x) b) Q E s := by
  have X := X₀.keeps F.keep
  have hu1 : A.in1.units < cLine := by show A.units + 1 < _; exact hu
  have one : wpAny (model prog w) A (tryCompare (.ref x) (cmpInfo .NotEq).2.1 b) (fun r s' => ∃ v, r = some v ∧ Q v s') E s := by
    unfold tryCompare
    refine wpAny_bind (bound_builtin X I hne PySem.F.slot_zip_ne.bind (obj_ne hu1 X I hm hs hf (wpAny_mono h (fun v s' hv => ?_) fun _ _ e => e)))
    obtain ⟨r, rfl, q⟩ := hv
    exact ⟨r, rfl, wpAny_pure ⟨_, rfl, q⟩⟩
  unfold richCompare
  simp only [oneThing_ref]
  refine wpAny_holding (wpAny_bind (wpAny_cRoomFor (by omega) ?_))
  refine wpAny_bind (I.type.here (wpAny_bind (hb.here ?_)))
  split
  · rename_i q
    have e : PySem.W.subIn K tb (.ref C) = some false := by
      rcases Bool.or_eq_true_iff.mp hn with e | e
      · rw [beq_iff_eq.mp e] at q; simp at q
      · exact beq_iff_eq.mp e
    refine wpAny_bind ((PySem.W.looks_subIn X e).here ?_)
    simp only [Bool.false_eq_true, if_false]
    refine wpAny_bind (wpAny_mono one (fun r s' z => ?_) fun _ _ e => e)
    obtain ⟨v, rfl, hq⟩ := z
    exact wpAny_pure hq
  · refine wpAny_bind (wpAny_pure ?_)
    simp only [Bool.false_eq_true, if_false]
    refine wpAny_bind (wpAny_mono one (fun r s' z => ?_) fun _ _ e => e)
    obtain ⟨v, rfl, hq⟩ := z
    exact wpAny_pure hq
end

/-- what of the text is true of an own class that is only a class: its instances' type, isinstance, != -/
structure IsC (K : PySem.W.Frag) (C : Addr) : Prop where
  ic : PySem.W.isClsIn K C = true
  ty : PySem.W.typeIn K (.ref C) = some (.type "type")
  gc : PySem.W.findIn K (.ref C) "__class__" = some (some (.builtin "object.__class__"))
  gn : PySem.W.specialIn K (.builtin "object.__class__") "__get__" = some (some (.builtin "getset_descriptor.__get__"))
  tk : PySem.W.takesIn K (.builtin "object.__class__") = some true
  ob : PySem.W.mroIn K C (.type "object") = some true
  ne : PySem.W.findIn K (.ref C) "__ne__" = some (some (.builtin "object.__ne__"))
/-- the built-in classes of the values that occur -/
def kinds : List String := ["NoneType", "bool", "int", "str", "list", "tuple", "dict"]
def allTy (l : List Value) : Bool := l.all fun v => match v with | .type _ => true | _ => false
theorem kinds_mro : kinds.all (fun n => (PySem.fastBuiltinMro n).any allTy) = true := by decide +kernel
theorem sub_ty {K : PySem.W.Frag} {C : Addr} {n : String} (h : n ∈ kinds) : PySem.W.subIn K (.type n) (.ref C) = some false := by
  have k := List.all_eq_true.mp kinds_mro n h
  show Option.map (fun x => List.contains x (Value.ref C)) (PySem.fastBuiltinMro n) = some false
  cases e : PySem.fastBuiltinMro n with
  | none => rw [e] at k; cases k
  | some l =>
    rw [e] at k
    have k : allTy l = true := k
    show some (List.contains l (Value.ref C)) = some false
    congr 1
    rw [List.contains_eq_any_beq, List.any_eq_false]
    intro y hy c
    have e2 := eq_of_beq c
    have := List.all_eq_true.mp k y hy
    rw [← e2] at this
    cases this
theorem notFirst_ty {K : PySem.W.Frag} {C : Addr} {n : String} (h : n ∈ kinds) : PySem.W.notFirst K C (.type n) = true := by
  unfold PySem.W.notFirst
  rw [sub_ty h]
  simp
theorem notFirst_own {K : PySem.W.Frag} {C : Addr} : PySem.W.notFirst K C (.ref C) = true := by
  unfold PySem.W.notFirst
  simp
theorem kit_self {K : PySem.W.Frag} {C : Addr} : PySem.W.kitOne K (.ref C) (.ref C) = some true := by
  unfold PySem.W.kitOne
  rw [if_pos (by simp)]
theorem kit_no {K : PySem.W.Frag} {C : Addr} {n : String} (c : IsC K C) (h : n ∈ kinds) : PySem.W.kitOne K (.type n) (.ref C) = some false := by
  have hc : (PySem.W.clsIn K C).isSome = true := c.ic
  unfold PySem.W.kitOne
  rw [if_neg (by simp)]
  unfold PySem.W.kitCls
  show (if ((PySem.W.clsIn K C).isSome && PySem.W.typeIn K (.ref C) == some (.type "type")) = true then PySem.W.subIn K (.type n) (.ref C) else none) = some false
  rw [hc, c.ty, if_pos (by simp), sub_ty h]
theorem IsC.typ {K : PySem.W.Frag} {C a dx : Addr} {H : Hp} {fs : List (Str × V)} (c : IsC K C) (cl : Cls K C) (e : H a = some (.ins C dx fs)) : TyX K H (.ref a) (.ref C) := .base (.ins e cl c.gc c.gn c.tk c.ob)
def rOwn (K : PySem.W.Frag) (C : Addr) (sp : Sp) (E : XK) : R2 := fun x y H Q => ∃ a dx fs t, x = .ref a ∧ H a = some (.ins C dx fs) ∧ TyX K H y t ∧ PySem.W.notFirst K C t = true ∧ sp [x, y] H (fun v H' => ∃ b, v = .bl b ∧ Q (.bl b) H') E
def rOwnN (K : PySem.W.Frag) (C : Addr) (sp : Sp) (E : XK) : R2 := fun x y H Q => ∃ a dx fs t, x = .ref a ∧ H a = some (.ins C dx fs) ∧ TyX K H y t ∧ PySem.W.notFirst K C t = true ∧ sp [x, y] H (fun v H' => ∃ b, v = .bl b ∧ Q (.bl (!b)) H') E
def rReprOwn (C : Addr) (sp : Sp) (E : XK) : List V → Hp → VK → Prop := fun xs H Q => ∃ a dx fs, xs = [.ref a] ∧ H a = some (.ins C dx fs) ∧ sp [.ref a] H (fun v H' => ∃ y, v = .str y ∧ Q (.str y) H') E
section
variable {X : Cx} {CX : CXT} {k : Nat} {f C : Addr} {fd : FuncData} {ps : List Str} {sp : Sp} {E : XK}
theorem op_eqOwn (F : FnOk X.prog X.w X.K X.mg X.base CX k f fd ps sp) (hr : Room k X.A) (o : Meth X.K C "__eq__" f) (c : IsC X.K C) (hb : Binds X.K fd ps []) (hx : Passes CX X E) : OpR X (compareOp .Eq) (rOwn X.K C sp E) := by
  intro pins s σ H x y v u Q I rx ry h
  obtain ⟨a, dx, fs, t, rfl, ea, ty, nf, hsp⟩ := h
  obtain rfl : v = Value.ref a := rx
  obtain ⟨mA, J, _⟩ := ins_get I.hok ea
  obtain ⟨od, J, _⟩ := J.look
  obtain ⟨m, hF⟩ := I.fr
  obtain ⟨P, Z, p, _⟩ := kit_of I ry ty
  show wpAny (model X.prog X.w) X.A (richCompare .Eq (.ref a) u) (EP X pins σ Q) X.xe s
  refine PySem.W.cmp_K (op := .Eq) (tb := t) hr.units0 hF I.ok.mod.kin J (Z.ty _ _ I.kIn p) nf o.at_ o.fn ?_
  have hl := F.len _ _ _ _ hsp
  have r2 : Vals [V.ref a, y] [Value.ref a, u] := .cons rfl (.cons ry .nil)
  refine wpAny_call (codeAny_mono (F.run X.A X.stack s H ⟨[.ref a, u], []⟩ [.ref a, u] [.ref a, y] _ E hr I.env0 (by
    have := hb s [.ref a, u] I.kIn (by simpa using hl)
    simpa using this) r2 hsp) fun r s' hq => ?_)
  cases r with
  | error e => exact hx pins σ H s e s' I hq
  | ok fl =>
    cases fl with
    | ret w =>
      obtain ⟨z, H', I', rz, b, ez, q⟩ := I.after hq
      subst ez
      cases rz
      exact ⟨.bl b, H', I', rfl, q⟩
    | next => exact False.elim hq
    | brk => exact False.elim hq
    | cont => exact False.elim hq
theorem op_neOwn (F : FnOk X.prog X.w X.K X.mg X.base CX k f fd ps sp) (hr : Room (k + 1) X.A) (o : Meth X.K C "__eq__" f) (c : IsC X.K C) (hb : Binds X.K fd ps []) (hx : Passes CX X E) : OpR X (compareOp .NotEq) (rOwnN X.K C sp E) := by
  intro pins s σ H x y v u Q I rx ry h
  obtain ⟨a, dx, fs, t, rfl, ea, ty, nf, hsp⟩ := h
  obtain rfl : v = Value.ref a := rx
  obtain ⟨mA, J, _⟩ := ins_get I.hok ea
  obtain ⟨od, J, _⟩ := J.look
  obtain ⟨m, hF⟩ := I.fr
  obtain ⟨P, Z, p, _⟩ := kit_of I ry ty
  show wpAny (model X.prog X.w) X.A (richCompare .NotEq (.ref a) u) (EP X pins σ Q) X.xe s
  refine ne_K (tb := t) (by have := hr.un; omega) hF I.ok.mod.kin J (Z.ty _ _ I.kIn p) nf c.ne c.ob o.at_ o.fn ?_
  have hl := F.len _ _ _ _ hsp
  have r2 : Vals [V.ref a, y] [Value.ref a, u] := .cons rfl (.cons ry .nil)
  refine wpAny_call (codeAny_mono (F.run X.A.in1 X.stack s H ⟨[.ref a, u], []⟩ [.ref a, u] [.ref a, y] _ E hr.in1 I.env0.in1 (by
    have := hb s [.ref a, u] I.kIn (by simpa using hl)
    simpa using this) r2 hsp) fun r s' hq => ?_)
  cases r with
  | error e => exact hx pins σ H s e s' I hq
  | ok fl =>
    cases fl with
    | ret w =>
      obtain ⟨z, H', I', rz, b, ez, q⟩ := I.after hq
      subst ez
      cases rz
      exact ⟨b, rfl, .bl (!b), H', I', rfl, q⟩
    | next => exact False.elim hq
    | brk => exact False.elim hq
    | cont => exact False.elim hq
theorem call_reprOwn (F : FnOk X.prog X.w X.K X.mg X.base CX k f fd ps sp) (hr : Room (k + 1) X.A) (o : Meth X.K C "__repr__" f) (hb : Binds X.K fd ps []) (hx : Passes CX X E) :
    CallR X (.builtin "repr") (rReprOwn C sp E) := by
  intro pins s σ H xs us Q I r h
  obtain ⟨a, dx, fs, rfl, ea, hsp⟩ := h
  obtain ⟨u, rfl, ru⟩ := vals1 r
  obtain rfl : u = Value.ref a := ru
  obtain ⟨mA, J, _⟩ := ins_get I.hok ea
  obtain ⟨od, J, _⟩ := J.look
  obtain ⟨m, hF⟩ := I.fr
  refine PySem.W.repr_K hr.in1.units0 hF I.ok.mod.kin J o.at_ o.fn ?_
  have hl := F.len _ _ _ _ hsp
  refine wpAny_call (codeAny_mono (F.run X.A.in1 X.stack s H ⟨[.ref a], []⟩ [.ref a] [.ref a] _ E hr.in1 I.env0.in1 (by
    have := hb s [.ref a] I.kIn (by simpa using hl)
    simpa using this) (.cons rfl .nil) hsp) fun r s' hq => ?_)
  cases r with
  | error e => exact hx pins σ H s e s' I hq
  | ok fl =>
    cases fl with
    | ret w =>
      obtain ⟨z, H', I', rz, y, ez, q⟩ := I.after hq
      subst ez
      obtain ⟨t, rfl⟩ := rz
      exact ⟨.str y, H', I', ⟨t, rfl⟩, q⟩
    | next => exact False.elim hq
    | brk => exact False.elim hq
    | cont => exact False.elim hq
theorem units1 {k : Nat} {A : Around} (hr : Room k A) : A.units + 1 < cLine := by
  have := hr.un
  omega
/-- {x}: a text, an int or None -/
def tFmtN (te : TE) : TE := fun σ H Q => te σ H fun x H1 => (∃ y : Str, x = .str y ∧ y.length ≤ sizeLine ∧ Q (.str y) H1) ∨ (∃ i : Int, x = .int i ∧ i.natAbs.log2 < 1920 ∧ Q (.str (toString i)) H1) ∨ (x = .non ∧ Q (.str "None") H1)
theorem pe_fmtN {e : Expr} {te : TE} {pos : Pos} (he : PE X e te) : PE X (.FormattedValue e (-1) none pos) (tFmtN te) := by
  refine ⟨fun pins s σ H Q I h => ?_⟩
  refine wpAny_FormattedValue_plain (thn (he.run pins s σ H _ I h) fun v s1 hv => ?_)
  obtain ⟨x, H1, I1, r1, q⟩ := hv
  rcases q with ⟨y, rfl, hz, q⟩ | ⟨i, rfl, hz, q⟩ | ⟨rfl, q⟩
  · obtain ⟨t, rfl⟩ := r1
    exact wpAny_formatField_str ⟨.str y, H1, I1, ⟨t, rfl⟩, q⟩ ⟨.str y, H1, I1.tok _, ⟨_, rfl⟩, q⟩ hz
  · obtain ⟨t, rfl⟩ := r1
    exact wpAny_formatField_int hz ⟨.str (toString i), H1, I1.tok _, ⟨_, rfl⟩, q⟩
  · cases r1
    exact wpAny_formatField_none ⟨.str "None", H1, I1.tok _, ⟨_, rfl⟩, q⟩
/-- str(None), str(int) -/
def rStrIN : List V → Hp → VK → Prop := fun xs H Q => (∃ i : Int, xs = [.int i] ∧ i.natAbs.log2 < 1920 ∧ Q (.str (toString i)) H) ∨ (xs = [.non] ∧ Q (.str "None") H)
theorem call_strIN : CallR X (.type "str") rStrIN := by
  intro pins s σ H xs us Q I r h
  rcases h with ⟨i, rfl, hz, q⟩ | ⟨rfl, q⟩
  · obtain ⟨u, rfl, t, rfl⟩ := vals1 r
    exact PySem.P.str_of_int hz ⟨.str _, H, I.tok _, ⟨_, rfl⟩, q⟩
  · obtain ⟨u, rfl, ru⟩ := vals1 r
    cases ru
    exact PySem.P.str_of_none ⟨.str _, H, I.tok _, ⟨_, rfl⟩, q⟩
end
end VN

/-! Own errors over any built-in base, with an __init__ that is walked as a def: made, raised, asked. -/
namespace VX
open PySem PySem.Spec PyProof.Rows L2
/-- a built-in base of errors -/
structure Bs (B newId initId : String) (bmB : List Value) : Prop where
  bs : ExcBaseFacts B newId initId bmB
  st : StoreFacts B bmB "object.__setattr__" "object"
theorem bsV : Bs "ValueError" "ValueError.__new__" "ValueError.__init__" [.type "ValueError", .type "Exception", .type "BaseException", .type "object"] := ⟨F.excBase_ValueError, F.store_ValueError⟩
theorem bsR : Bs "RuntimeError" "RuntimeError.__new__" "RuntimeError.__init__" [.type "RuntimeError", .type "Exception", .type "BaseException", .type "object"] := ⟨F.excBase_RuntimeError, F.store_RuntimeError⟩
theorem bsL : Bs "LookupError" "LookupError.__new__" "LookupError.__init__" [.type "LookupError", .type "Exception", .type "BaseException", .type "object"] := ⟨F.excBase_LookupError, F.store_LookupError⟩
theorem bsA : Bs "ArithmeticError" "ArithmeticError.__new__" "ArithmeticError.__init__" [.type "ArithmeticError", .type "Exception", .type "BaseException", .type "object"] := ⟨F.excBase_ArithmeticError, F.store_ArithmeticError⟩
/-- what the written part says of an own class of errors -/
structure Own (K : PySem.W.Frag) (C : Addr) : Prop where
  base : ∃ B newId initId bmB, Bs B newId initId bmB ∧ PySem.W.excInitIn K C bmB newId = true ∧ PySem.W.excOver K C bmB = true
  hasD : PySem.W.hasDictIn K C = true
  setA : PySem.W.findIn K (.ref C) "__setattr__" = some (some (.builtin "object.__setattr__"))
  isE : PySem.W.subIn K (.ref C) (.type "BaseException") = some true
  isT : PySem.W.typeIn K (.ref C) = some (.type "type")
  keep : PySem.W.keepIn K (.ref C) = true

section
variable {prog : Program} {w : World} {A : Around} {R : Result → Shared → Prop} {hp : Heap} {g : Array GenState} {d : Drawn} {t : Nat} {os : OsState} {K : PySem.W.Frag} {x C : Addr} {f : Str} {tk : Tok} {v : Value} {fv : Array Value}
open Builtin Builtin.ObjectAttr PySem.W PySem.Calls
theorem own_cls (O : Own K C) : ∃ cd, clsIn K C = some cd ∧ cd.hasDict = true := any_some O.hasD
/-- the first field: the dict is laid -/
theorem st_first (O : Own K C) (X : K.In hp) (hx : hp.get? x = some { cls := .ref C, data := .fields fv }) (no : findIn K (.ref C) f = some none)
    (q : ∀ h2 tk2 dj, (∀ b o, b ≠ x → hp.get? b = some o → h2.get? b = some o) → hp.objs.size ≤ dj → dj ≠ x → h2.get? x = some { cls := .ref C, dict := some dj, data := .fields fv } →
      h2.Ns1 dj (fun y => if y = f then some v else none) → R (.ok (.ret .none)) ⟨h2, g, d, tk2, os⟩) :
    codeAny (model prog w) A (.call (.builtin "object.__setattr__") ⟨[.ref x, .str f tk, v], []⟩) R ⟨hp, g, d, t, os⟩ := by
  obtain ⟨B, nI, iI, bmB, S, _, ov⟩ := O.base
  obtain ⟨cd, hc, hh⟩ := own_cls O
  have J : InstAt hp x { cls := .ref C, data := .fields fv } C none := ⟨hx, rfl, rfl, trivial⟩
  have far : x ≠ hp.objs.size := Nat.ne_of_lt (Heap.lt_size hx)
  have look : Looks (model prog w) hp (classData C) cd := looks_clsIn X hc
  refine osa_openX (r := none) S.st X J ov (by unfold takerIn; rw [no]; rfl) fun b => ?_
  obtain ⟨nm, bs, mro, ns, qn, hd, sn, sb, ab, col, del⟩ := cd
  dsimp only at hh
  subst hh
  show wpAny _ _ (storeInOwnDict (.ref x) (.ref C) (.str f tk) f v b) _ _ _
  unfold storeInOwnDict ownDictForStores
  repeat (first | with_reducible refine HandSPX.store_in_new ?_ ?_ | with_reducible refine wpAny_loadPart_at hx ?_ | with_reducible refine look.at ?_ | wp_step)
  · exact ⟨_, #[], _, (Heap.get?_update_ne _ _ _ _ far.symm).trans (Heap.get?_push_at rfl rfl), rfl, fun e he => absurd he (by simp), fun _ => rfl⟩
  · intro h2 tk2 ns2 same
    have there : (hp.push { cls := .type "dict", data := .dict #[] }).get? x = some { cls := .ref C, data := .fields fv } := Heap.get?_push_of_some _ hx
    exact q h2 tk2 hp.objs.size
      (fun b o nb e => (same.2 b (Nat.ne_of_lt (Heap.lt_size e))).trans ((Heap.get?_update_ne _ _ _ _ nb).trans (Heap.get?_push_of_some _ e)))
      (Nat.le_refl _) far.symm ((same.2 x far).trans (Heap.get?_update_self _ there rfl)) ns2
/-- a further field -/
theorem st_more {dj : Addr} {m0 : Str → Option Value} {nl : List Str} (O : Own K C) (X : K.In hp) (hx : hp.get? x = some { cls := .ref C, dict := some dj, data := .fields fv }) (hn : hp.Ns1 dj m0) (hw : Within m0 nl) (hz : nl.length ≤ 1000)
    (no : findIn K (.ref C) f = some none)
    (q : ∀ h2 tk2, (∀ b o, b ≠ dj → hp.get? b = some o → h2.get? b = some o) → h2.Ns1 dj (fun y => if y = f then some v else m0 y) → R (.ok (.ret .none)) ⟨h2, g, d, tk2, os⟩) :
    codeAny (model prog w) A (.call (.builtin "object.__setattr__") ⟨[.ref x, .str f tk, v], []⟩) R ⟨hp, g, d, t, os⟩ := by
  obtain ⟨B, nI, iI, bmB, S, _, ov⟩ := O.base
  obtain ⟨cd, hc, hh⟩ := own_cls O
  obtain ⟨od, _, _, hod, _, _⟩ := hn.count hw
  have J : InstAt hp x { cls := .ref C, dict := some dj, data := .fields fv } C (some od) := ⟨hx, rfl, rfl, hod⟩
  have look : Looks (model prog w) hp (classData C) cd := looks_clsIn X hc
  refine osa_openX (r := none) S.st X J ov (by unfold takerIn; rw [no]; rfl) fun b => ?_
  obtain ⟨nm, bs, mro, ns, qn, hd, sn, sb, ab, col, del⟩ := cd
  dsimp only at hh
  subst hh
  show wpAny _ _ (storeInOwnDict (.ref x) (.ref C) (.str f tk) f v b) _ _ _
  unfold storeInOwnDict ownDictForStores
  repeat (first | with_reducible refine OEX.store_in_old hn hw hz ?_ | with_reducible refine wpAny_loadPart_at hx ?_ | with_reducible refine look.at ?_ | wp_step)
  exact fun h2 tk2 ns2 same => q h2 tk2 (fun b o nb e => (same.2 b nb).trans e) ns2
end

section
variable {X : Cx} {pins : List (Addr × Obj)} {σ : L2.St} {H : Hp} {s : Shared} {a C dj : Addr} {f : Str} {y : V} {u : Value} {fs : List (Str × V)} {Q : Unit → Shared → Prop} {E : Value → Shared → Prop} {A : Around}
/-- self.f = y on a new error -/
theorem put_first (O : Own X.K C) (I : Inv X pins σ H s) (e : H a = some (exo a C none)) (no : PySem.W.findIn X.K (.ref C) f = some none) (ry : RelV y u)
    (k : ∀ dj s2, H dj = none → dj ≠ a → Inv X pins σ (upd (upd H dj (exd dj [(f, y)])) a (exo a C (some dj))) s2 → Q () s2) : wpAny (model X.prog X.w) A (setAttr (.ref a) f u) Q E s := by
  obtain ⟨t1, ho⟩ := exo_at I.hok e
  obtain ⟨hp, g, d, t, os⟩ := s
  refine PySem.W.set_plain I.kIn (od := none) ⟨ho, rfl, rfl, trivial⟩ O.setA (st_first O I.kIn ho no fun h2 tk2 dj kp big nda hx hn => ?_)
  have free : H dj = none := I.hok.fresh big
  have far : ∀ {b : Addr} {o : Obj}, hp.get? b = some o → b ≠ dj := fun q => Nat.ne_of_lt (Nat.lt_of_lt_of_le (Heap.lt_size q) big)
  have nota : ∀ {b : Addr}, H b = none → b ≠ a := fun n z => by rw [z, e] at n; cases n
  have same : ∀ b u0, b ≠ a → H b = some u0 → upd (upd H dj (exd dj [(f, y)])) a (exo a C (some dj)) b = some u0 := fun b u0 nb q => by rw [upd_ne nb, upd_ne (ne_of_none q free)]; exact q
  refine k dj _ free nda (I.un (t' := tk2) ⟨fun b o q n _ _ => kp b o (nota n) q, fun b o q n _ _ => ⟨o.slots, kp b o (nota n) q⟩,
    fun b o q n _ => by rw [upd_ne (nota n), upd_ne (far q)]; exact n,
    fun b o q _ => if z : b = a then ⟨_, z ▸ hx⟩ else ⟨o, kp b o z q⟩,
    fun b xs q => same b _ (at_ne e q exo_tup) q, fun b o v q => same b _ (at_ne e q exo_frz) q, fun b ps q => ⟨#[], by rw [same b _ (at_ne e q exo_tbl) q]; simp⟩⟩ fun b o q => ?_)
  by_cases z : b = a
  · subst z; rw [upd_same] at q; cases q; exact exo_ok hx
  · rw [upd_ne z] at q
    by_cases z2 : b = dj
    · subst z2; rw [upd_same] at q; cases q
      exact exd_ok hn (relO_put (fs := []) ry fun _ => True.intro)
    · rw [upd_ne z2] at q
      refine (I.hok b o q).stay (fun c v hc w => kp c v ?_ w) (fun c hc => same c _ (at_ne e hc exo_own) hc) fun c xs hc => same c _ (at_ne e hc exo_tup) hc
      rcases hc with hc | hc
      · rw [hc]; exact z
      · exact at_ne e hc exo_own
/-- self.f = y, a further field -/
theorem put_more (O : Own X.K C) (I : Inv X pins σ H s) (e : H a = some (exo a C (some dj))) (ed : H dj = some (exd dj fs)) (hl : fs.length ≤ 900) (no : PySem.W.findIn X.K (.ref C) f = some none) (ry : RelV y u)
    (k : ∀ s2, Inv X pins σ (upd H dj (exd dj ((f, y) :: fs))) s2 → Q () s2) : wpAny (model X.prog X.w) A (setAttr (.ref a) f u) Q E s := by
  obtain ⟨t1, ho⟩ := exo_at I.hok e
  obtain ⟨mA, hn, rel⟩ := exd_at I.hok ed
  have hw := within_of rel
  obtain ⟨hp, g, d, t, os⟩ := s
  obtain ⟨od, _, _, hod, _, _⟩ := hn.count hw
  refine PySem.W.set_plain I.kIn (od := some od) ⟨ho, rfl, rfl, hod⟩ O.setA (st_more O I.kIn ho hn hw (by rw [List.length_map]; omega) no fun h2 tk2 kp hn2 => ?_)
  have hd : ∃ o, h2.get? dj = some o := by obtain ⟨o, _, _, z, _⟩ := hn2; exact ⟨o, z⟩
  exact k _ (I.write (t' := tk2) (x := dj) (e := dj) (by rw [ed]; exact True.intro) (.inl rfl) kp hd (exd_ok hn2 (relO_put ry rel)))
end

/-- self.f = e in an error's __init__ -/
def tPut (K : PySem.W.Frag) (f : Str) (to te : TE) : TS := fun D σ H => te σ H fun y H1 => to σ H1 fun x H2 => ∃ a C : Addr, x = .ref a ∧ Own K C ∧ PySem.W.findIn K (.ref C) f = some none ∧
  ((H2 a = some (exo a C none) ∧ ∀ dj, H2 dj = none → dj ≠ a → D.nx σ (upd (upd H2 dj (exd dj [(f, y)])) a (exo a C (some dj)))) ∨
    ∃ (dj : Addr) (fs : List (Str × V)), H2 a = some (exo a C (some dj)) ∧ H2 dj = some (exd dj fs) ∧ fs.length ≤ 900 ∧ D.nx σ (upd H2 dj (exd dj ((f, y) :: fs))))
/-- C(e, ..), by C's own __init__ -/
def tNew (C : Addr) (sp : Sp) (ta : TA) : L2.St → Hp → XK → Prop := fun σ H Q => ta σ H fun vs H1 => vs.length ≤ 1000 ∧ ∀ a, H1 a = none → sp (.ref a :: vs) (upd H1 a (exo a C none))
  (fun v H2 => v = .non ∧ ∃ (d : Addr) (fs : List (Str × V)), H2 a = some (exo a C (some d)) ∧ H2 d = some (exd d fs) ∧ H1 d = none ∧ Q (.ref C) (some d) (upd (del H2 a) d (.xd fs))) (fun _ _ _ => False)
section
variable {X : Cx} {o e : Expr} {es : List Expr} {to te : TE} {ta : TA} {f : Str} {p p' pos : Pos}
theorem ps_put (ho : PE X o to) (he : PE X e te) (hs : swapsWith e (some (.Attribute o f p')) pos.line X.env = pure false := by rfl) : PS X (.Assign [.Attribute o f p'] e pos) (tPut X.K f to te) := by
  refine ⟨fun pins s σ H D I h => plainObj_wpAny_Assign_Attribute (thn (he.run pins s σ H _ I h) ?_) hs⟩
  rintro v s1 ⟨y, H1, I1, r1, q1⟩
  refine thn (ho.run pins s1 σ H1 _ I1 q1) ?_
  rintro u s2 ⟨x, H2, I2, r2, a, C, rfl, O, no, q⟩
  obtain rfl : u = Value.ref a := r2
  rcases q with ⟨ea, q⟩ | ⟨dj, fs, ea, ed, hl, q⟩
  · exact put_first O I2 ea no r1 fun dj s3 n ne J => ⟨σ, _, J, q dj n ne⟩
  · exact put_more O I2 ea ed hl no r1 fun s3 J => ⟨σ, _, J, q⟩
theorem pmk_new {CX : CXT} {x : Str} {C fI : Addr} {k : Nat} {fd : FuncData} {ps : List Str} {sp : Sp} (O : Own X.K C) (iC : PySem.W.findIn X.K (.ref C) "__init__" = some (some (.ref fI))) (tI : PySem.W.typeIn X.K (.ref fI) = some (.type "function"))
    (Fi : FnOk X.prog X.w X.K X.mg X.base CX k fI fd ps sp) (hr : Room (k + 1) X.A) (hb : Binds X.K fd ps []) (hx : Passes CX X (fun _ _ _ => False)) (hg : Gl X x) (hm : X.mg x = some (.ref C)) (ha : PA X (e :: es) ta)
    (hdb : (x == ("__debug__" : Str)) = false := by decide) (he : starEach (e :: es) X.env = (false, eval e X.env) :: starEach es X.env := by rfl) (hpl : (backTo pos (starEach es X.env)).any (·.1) = false := by rfl) :
    PMk X (.Call (.Name x p) (e :: es) [] pos) (tNew C sp ta) := by
  intro pins s σ H Q I h
  obtain ⟨B, nI, iI, bmB, S, ini, _⟩ := O.base
  refine wpAny_Call_Name_kw (ld_glob I hg hm ?_ hdb)
  refine PySem.W.callWith_K (h₀ := X.base) I.ok.mod.kin O.keep (thn (ha.run pos pins s σ H _ I h) ?_) he hpl
  rintro us ⟨hp, g, dr, tk, os⟩ ⟨vs, H1, I1, r1, hz, q1⟩
  refine ⟨I1.kIn, ?_⟩
  show wpAny _ _ (call (.ref C) us) _ _ _
  obtain ⟨nm, N, qn, bs, bm, hdct, sn, sub, ab, col, dd, k0, k1, k2, k3, k5, hC, tail⟩ := PySem.W.excInit_of I1.kIn ini
  have up : hp.objs.size ≤ hp.objs.size + 1 := Nat.le_succ _
  have want := q1 (hp.objs.size + 1) (I1.hok.fresh up)
  have kept : ∀ b o, hp.get? b = some o → ((hp.push (PySem.W.kdv_tup us)).push (HandSPX.excO C hp.objs.size)).get? b = some o := fun b o z => Heap.get?_push_of_some _ (Heap.get?_push_of_some _ z)
  have new : ((hp.push (PySem.W.kdv_tup us)).push (HandSPX.excO C hp.objs.size)).get? (hp.objs.size + 1) = some (HandSPX.excO C hp.objs.size) := by heap_get
  have J : Inv X pins σ (upd H1 (hp.objs.size + 1) (exo (hp.objs.size + 1) C none)) ⟨(hp.push (PySem.W.kdv_tup us)).push (HandSPX.excO C hp.objs.size), g, dr, tk, os⟩ := I1.laid (t' := tk) kept up (exo_ok new)
  have rel : Vals (V.ref (hp.objs.size + 1) :: vs) (Value.ref (hp.objs.size + 1) :: us) := .cons rfl r1
  have len : (Value.ref (hp.objs.size + 1) :: us).length = ps.length := rel.length.symm.trans (Fi.len _ _ _ _ want)
  have bind := hb _ (Value.ref (hp.objs.size + 1) :: us) J.kIn (by rw [List.append_nil]; exact len)
  rw [List.append_nil] at bind
  refine wpAny_call (HandSPX.call_own S.bs tail hC (PySem.W.looks_findIn I1.kIn iC) (fun self => PySem.W.bind_fn I1.kIn self tI) (by rw [← Paired.length r1, sizeLine_eq]; omega)
    (codeAny_mono (Fi.run _ X.stack _ _ ⟨Value.ref (hp.objs.size + 1) :: us, []⟩ _ _ _ (fun _ _ _ => False) (hr.make C us []) (J.env0.make C us []) bind rel want) ?_))
  intro r s' w
  match r, w with
  | .error er, w => exact hx pins σ _ _ er s' J w
  | .ok .next, w => exact False.elim w
  | .ok .brk, w => exact False.elim w
  | .ok .cont, w => exact False.elim w
  | .ok (.ret u), w =>
    obtain ⟨v, H2, os2, bare2, un2, hok2, rv, rfl, d, fs, ea, ed, free, q2⟩ := w
    obtain ⟨h2, g2, d2, t2, os'⟩ := s'
    exact ⟨rv, mk_end (raises_own O.isE O.isT) I1 up kept un2 hok2 os2 bare2 ea ed free q2⟩
end

/-! ### what is asked of a caught error -/
structure Asked (K : PySem.W.Frag) (D : Addr) : Prop where
  cl : (PySem.W.clsIn K D).isSome = true
  ga : PySem.W.findIn K (.ref D) "__getattribute__" = some (some (.builtin "BaseException.__getattribute__"))
  gt : PySem.W.findIn K (.ref D) "__getattr__" = some none
  sb : PySem.W.subIn K (.ref D) (.type "BaseException") = some true
  cc : PySem.W.findIn K (.ref D) "__class__" = some (some (.builtin "object.__class__"))
  gn : PySem.W.specialIn K (.builtin "object.__class__") "__get__" = some (some (.builtin "getset_descriptor.__get__"))
  tk : PySem.W.takesIn K (.builtin "object.__class__") = some true
  mr : PySem.W.mroIn K D (.type "object") = some true
theorem isC {K : PySem.W.Frag} {C : Addr} (h : PySem.W.hasDictIn K C = true) : (PySem.W.clsIn K C).isSome = true := by
  obtain ⟨cd, e, _⟩ := PySem.W.any_some h
  rw [e]
  rfl
/-- isinstance(e, c), isinstance(e, (c, ..)) -/
def rAsk (K : PySem.W.Frag) (a : Addr) (cls : Value) (d : Option Addr) (D : Addr) : List V → Hp → VK → Prop := fun xs H Q => cls = .ref D ∧ ∃ (dj : Addr) (fs : List (Str × V)) (c : V) (b : Bool), d = some dj ∧ H dj = some (.xd fs) ∧ xs = [.ref a, c] ∧
  ((∃ cv, (∀ u, RelV c u → u = cv) ∧ PySem.W.kitOne K (.ref D) cv = some b) ∨ ∃ (tp : Addr) (cs : List V) (us : List Value), c = .ref tp ∧ H tp = some (.tup cs) ∧ (∀ ws, Vals cs ws → ws = us) ∧ PySem.W.kitAny K (.ref D) us = some b) ∧ Q (.bl b) H
theorem call_ask {X : Cx} {a D : Addr} {oe : Obj} {cls : Value} {d : Option Addr} {pn : List (Addr × Obj)} (C : Asked X.K D) (hz : Zc cls d oe) (hf : ∃ vs, oe.data = .fields vs) : CallR (X.suite a ((a, oe) :: pn)) (.builtin "isinstance") (rAsk X.K a cls d D) := by
  intro pins s σ H xs us Q I r h
  obtain ⟨rfl, dj, fs, c, b, rfl, hd, rfl, ask, q⟩ := h
  obtain ⟨u1, u2, rfl, r1, r2⟩ := vals2 r
  obtain rfl : u1 = Value.ref a := r1
  obtain ⟨there, _⟩ := I.pin (a, oe) (List.mem_append.mpr (.inl List.mem_cons_self))
  obtain ⟨vs, hv⟩ := hf
  have low : ObjOk X.prog X.w H s.heap dj (.xd fs) := I.hok dj _ hd
  obtain ⟨mA, ⟨od, es, ep, ho, _⟩, _⟩ := low
  have J : PySem.W.InstAt s.heap a oe D (some od) := ⟨there, hz.1, by unfold PySem.W.notCls; rw [hv] <;> rfl, by rw [hz.2]; exact ho⟩
  have Z := PySem.W.kitx_exc (x := a) (ox := oe) (od := some od) C.cl C.ga C.gt C.sb C.cc C.gn C.tk C.mr
  have fin : ∀ tk : Nat, EP (X.suite a ((a, oe) :: pn)) pins σ Q (.bool b) { s with toks := tk } := fun tk => ⟨.bl b, H, I.kept (t' := tk) fun _ _ z => z, rfl, q⟩
  rcases ask with ⟨cv, hc, e⟩ | ⟨tp, cs, ws, rfl, ht, hc, e⟩
  · rw [hc u2 r2]
    exact PySem.W.kia_one Z I.kIn J e (fun z => nomatch z) fin
  · obtain rfl : u2 = Value.ref tp := r2
    have tup : ObjOk X.prog X.w H s.heap tp (.tup cs) := I.hok tp _ ht
    obtain ⟨_, its, rv, o, h1, h2, n, h3⟩ := tup
    rw [← hc its rv] at e
    obtain ⟨oc, oda, dt, sl⟩ := o
    simp only at h2 h3
    subst h2 h3
    exact PySem.W.kia_tup Z I.kIn J h1 e (fun z => nomatch z) fin
end VX

/-! The greatest number of units in windows; the form of such a curve; curves at most others; plain Lean. -/
namespace VM
def maxTo (g : Nat → Int) : Nat → Int
  | 0 => g 0
  | n + 1 => max (maxTo g n) (g (n + 1))
theorem maxTo_ge {g : Nat → Int} : ∀ {n i : Nat}, i ≤ n → g i ≤ maxTo g n
  | 0, i, h => by have : i = 0 := by omega
                  subst this; exact Int.le_refl _
  | n + 1, i, h => by
    unfold maxTo
    by_cases c : i = n + 1
    · subst c; omega
    · have := maxTo_ge (g := g) (n := n) (i := i) (by omega)
      omega
theorem maxTo_at {g : Nat → Int} : ∀ n : Nat, ∃ i, i ≤ n ∧ maxTo g n = g i
  | 0 => ⟨0, Nat.le_refl _, rfl⟩
  | n + 1 => by
    obtain ⟨i, hi, e⟩ := maxTo_at (g := g) n
    unfold maxTo
    by_cases c : maxTo g n ≤ g (n + 1)
    · exact ⟨n + 1, Nat.le_refl _, by omega⟩
    · exact ⟨i, by omega, by omega⟩
theorem maxTo_is {g : Nat → Int} {n : Nat} {m : Int} (h : m ∈ (List.range (n + 1)).map g) (h2 : ∀ y ∈ (List.range (n + 1)).map g, y ≤ m) : m = maxTo g n := by
  obtain ⟨i, hi, e⟩ := maxTo_at (g := g) n
  obtain ⟨j, hj, ej⟩ := List.mem_map.mp h
  have a := h2 (g i) (List.mem_map.mpr ⟨i, List.mem_range.mpr (by omega), rfl⟩)
  have b := maxTo_ge (g := g) (n := n) (i := j) (by have := List.mem_range.mp hj; omega)
  omega
/-- the greatest number of units in k successive ticks -/
def mostM (us : List Int) (k : Nat) : Int := if us.length ≤ k then us.sum else maxTo (fun s => win us s k) (us.length - k)
theorem win_all {us : List Int} : win us ((0 : Nat) : Int) us.length = us.sum := by
  unfold win
  rw [show ((0 : Nat) : Int) + (us.length : Int) = us.length by omega, pre_all, show ((0 : Nat) : Int) = 0 from rfl, pre_zero]
  omega
theorem most_ge {us : List Int} {s k : Nat} (h : s + k ≤ us.length) : win us s k ≤ mostM us k := by
  unfold mostM
  by_cases c : us.length ≤ k
  · rw [if_pos c]
    have e : s = 0 := by omega
    have e2 : k = us.length := by omega
    subst e e2
    rw [win_all]
    exact Int.le_refl _
  · rw [if_neg c]
    exact maxTo_ge (g := fun s => win us s k) (n := us.length - k) (i := s) (by omega)
theorem most_at {us : List Int} {k : Nat} (h : k ≤ us.length) : ∃ s : Nat, s + k ≤ us.length ∧ mostM us k = win us s k := by
  unfold mostM
  by_cases c : us.length ≤ k
  · rw [if_pos c]
    have e2 : k = us.length := by omega
    subst e2
    exact ⟨0, by omega, win_all.symm⟩
  · rw [if_neg c]
    obtain ⟨s, hs, e⟩ := maxTo_at (g := fun s : Nat => win us s k) (us.length - k)
    exact ⟨s, by omega, e⟩
theorem most_far {us : List Int} {k : Nat} (h : us.length ≤ k) : mostM us k = us.sum := by unfold mostM; rw [if_pos h]
theorem pre_mono {us : List Int} (N : ∀ u ∈ us, 0 ≤ u) (i : Nat) (h : i < us.length) : pre us i ≤ pre us ((i : Int) + 1) := by
  rw [pre_step h]
  have := N us[i] (List.getElem_mem h)
  rw [List.getD_eq_getElem?_getD, List.getElem?_eq_getElem h]
  show _ ≤ _ + us[i]
  omega
theorem most_zero {us : List Int} : mostM us 0 = 0 := by
  obtain ⟨s, hs, e⟩ := most_at (us := us) (k := 0) (Nat.zero_le _)
  rw [e]
  unfold win
  rw [show (s : Int) + ((0 : Nat) : Int) = s by omega]
  omega
theorem most_up {us : List Int} (N : ∀ u ∈ us, 0 ≤ u) (k : Nat) : mostM us k ≤ mostM us (k + 1) := by
  by_cases c : us.length ≤ k
  · rw [most_far c, most_far (by omega)]
    exact Int.le_refl _
  · obtain ⟨s, hs, e⟩ := most_at (us := us) (k := k) (by omega)
    rw [e]
    by_cases d : s + (k + 1) ≤ us.length
    · have a := most_ge (us := us) (s := s) (k := k + 1) d
      have b := pre_mono N (s + k) (by omega)
      unfold win at a ⊢
      rw [show (s : Int) + ((k + 1 : Nat) : Int) = ((s + k : Nat) : Int) + 1 by omega] at a
      rw [show (s : Int) + (k : Int) = ((s + k : Nat) : Int) by omega]
      omega
    · have a := most_ge (us := us) (s := s - 1) (k := k + 1) (by omega)
      have b := pre_mono N (s - 1) (by omega)
      unfold win at a ⊢
      rw [show ((s - 1 : Nat) : Int) + ((k + 1 : Nat) : Int) = (s : Int) + k by omega] at a
      rw [show ((s - 1 : Nat) : Int) + 1 = (s : Int) by omega] at b
      omega
theorem most_mono {us : List Int} (N : ∀ u ∈ us, 0 ≤ u) (a : Nat) : ∀ d : Nat, mostM us a ≤ mostM us (a + d)
  | 0 => Int.le_refl _
  | d + 1 => Int.le_trans (most_mono N a d) (most_up N (a + d))
theorem most_nn {us : List Int} (N : ∀ u ∈ us, 0 ≤ u) (a : Nat) : 0 ≤ mostM us a := by
  have := most_mono N 0 a
  rw [most_zero, Nat.zero_add] at this
  exact this
theorem most_sum {us : List Int} (N : ∀ u ∈ us, 0 ≤ u) (a : Nat) : mostM us a ≤ us.sum := by
  by_cases c : us.length ≤ a
  · rw [most_far c]; exact Int.le_refl _
  · have := most_mono N a (us.length - a)
    rw [most_far (us := us) (k := a + (us.length - a)) (by omega)] at this
    exact this
/-- the function of the tightest curve -/
def tF (us : List Int) (t : Int) : Int := mostM us t.toNat
theorem tF_zero {us : List Int} : tF us 0 = 0 := most_zero
theorem tF_nat {us : List Int} {k : Nat} : tF us k = mostM us k := by unfold tF; rw [Int.toNat_natCast]
theorem most_add {us : List Int} (N : ∀ u ∈ us, 0 ≤ u) (a b : Nat) : mostM us (a + b) ≤ mostM us a + mostM us b := by
  have key : ∀ k a b : Nat, k ≤ us.length → k = a + b → mostM us k ≤ mostM us a + mostM us b := fun k a b hk e => by
    obtain ⟨s, hs, q⟩ := most_at (us := us) hk
    have w1 := most_ge (us := us) (s := s) (k := a) (by omega)
    have w2 := most_ge (us := us) (s := s + a) (k := b) (by omega)
    rw [q]
    unfold win at *
    rw [show ((s + a : Nat) : Int) + (b : Int) = (s : Int) + k by omega] at w2
    rw [show ((s + a : Nat) : Int) = (s : Int) + a by omega] at w2
    omega
  by_cases c : a + b ≤ us.length
  · exact key _ a b c rfl
  · by_cases d : us.length ≤ a
    · have := most_nn N b
      rw [most_far (by omega), most_far d]
      omega
    · have z := key us.length a (us.length - a) (Nat.le_refl _) (by omega)
      have y := most_mono N (us.length - a) (b - (us.length - a))
      rw [show us.length - a + (b - (us.length - a)) = b by omega] at y
      rw [most_far (us := us) (k := a + b) (by omega)]
      rw [most_far (us := us) (k := us.length) (Nat.le_refl _)] at z
      omega
/-- the values that the package writes first -/
def tV (us : List Int) : List Int := if us = [] then [0] else vals (tF us) us.length
theorem tV_length {us : List Int} : (tV us).length = max us.length 1 := by
  unfold tV
  by_cases c : us = []
  · subst c; rfl
  · rw [if_neg c, vals_length]
    have : us.length ≠ 0 := fun z => c (List.length_eq_zero_iff.mp z)
    omega
theorem tV_at {us : List Int} : ∀ t : Int, 0 ≤ t → cvAt (tV us) 1 0 t = tF us t := by
  have R : Rep (tF us) (max us.length 1 : Nat) 1 0 := fun t ht => by
    unfold tF
    rw [most_far (by omega), most_far (by omega)]
    omega
  by_cases c : us = []
  · intro t ht
    subst c
    have e : tF [] = fun _ => 0 := by funext t; unfold tF; rw [most_far (Nat.zero_le _)]; rfl
    rw [e]
    have R0 : Rep (cvAt (tV []) 1 0) ((tV []).length : Nat) 1 0 := Rep.cvAt (by decide) (by decide)
    obtain ⟨n, rfl⟩ : ∃ n : Nat, t = n := ⟨t.toNat, by omega⟩
    induction n with
    | zero => exact cvAt_zero
    | succ n ih =>
      by_cases z : n = 0
      · subst z; rfl
      · rw [R0 _ (by show (((tV []).length : Nat) : Int) < _; rw [tV_length]; show ((max 0 1 : Nat) : Int) < _; omega), show ((n + 1 : Nat) : Int) - 1 = n by omega, ih (by omega)]
        rfl
  · have n0 : us.length ≠ 0 := fun z => c (List.length_eq_zero_iff.mp z)
    unfold tV
    rw [if_neg c]
    rw [show max us.length 1 = us.length by omega] at R
    exact cvAt_vals (by decide) (by omega) tF_zero R
theorem tV_p {us : List Int} : formP (tV us) 1 0 = (1, 0) := by
  show leastFrom _ _ _ (1 - 1 : Int).toNat 1 = _
  rw [show ((1 : Int) - 1).toNat = 0 from rfl]
  unfold leastFrom
  have R0 : Rep (cvAt (tV us) 1 0) ((tV us).length : Nat) 1 0 := Rep.cvAt (by decide) (by rw [tV_length]; omega)
  rw [R0 _ (by omega), show (((tV us).length : Nat) : Int) + 1 - 1 = (tV us).length by omega]
  congr 1
  omega
theorem shr_congr {f g : Int → Int} {s : Int} : ∀ m : Nat, (∀ t : Int, 0 ≤ t → f t = g t) → shr f 1 s m = shr g 1 s m
  | 0, _ => rfl
  | m + 1, h => by
    unfold shr
    rw [h _ (by omega), h (((m + 1 : Nat) : Int) - 1) (by omega), shr_congr m h]
theorem vals_congr {f g : Int → Int} {m : Nat} (h : ∀ t : Int, 0 ≤ t → f t = g t) : vals f m = vals g m := by
  unfold vals
  exact List.map_congr_left fun i _ => h _ (by omega)
/-- the form of the tightest curve -/
def tM (us : List Int) : Nat := shr (tF us) 1 0 (us.length + 1)
def tW (us : List Int) : List Int := vals (tF us) (tM us)
theorem tM_eq {us : List Int} : formM (tV us) 1 0 = tM us := by
  unfold formM tM
  rw [tV_p, shr_congr (g := tF us) _ tV_at, tV_length]
  by_cases c : us.length = 0
  · rw [c]; rfl
  · have : shr (tF us) 1 0 (us.length + 1) = shr (tF us) 1 0 us.length := by
      show (if (1 : Int) < ((us.length + 1 : Nat) : Int) ∧ _ then _ else _) = _
      rw [if_pos]
      refine ⟨by omega, ?_⟩
      rw [tF_nat, show ((us.length + 1 : Nat) : Int) - 1 = ((us.length : Nat) : Int) by omega, tF_nat, most_far (by omega), most_far (Nat.le_refl _)]
      omega
    rw [this, show max us.length 1 = us.length by omega]
theorem tW_eq {us : List Int} : formV (tV us) 1 0 = tW us := by
  unfold formV tW
  rw [tM_eq]
  exact vals_congr tV_at
theorem shr_pos {f : Int → Int} : ∀ m : Nat, 1 ≤ m → 1 ≤ shr f 1 0 m ∧ shr f 1 0 m ≤ m
  | 0, h => absurd h (by decide)
  | m + 1, _ => by
    unfold shr
    by_cases c : (1 : Int) < ((m + 1 : Nat) : Int) ∧ f ((m + 1 : Nat) : Int) = f (((m + 1 : Nat) : Int) - 1) + 0
    · rw [if_pos c]
      have := shr_pos (f := f) m (by omega)
      omega
    · rw [if_neg c]; omega
theorem tW_at {us : List Int} : ∀ t : Int, 0 ≤ t → cvAt (tW us) 1 0 t = tF us t := fun t ht => by
  obtain ⟨_, _, _, _, h⟩ := form_spec (vs := tV us) (p := 1) (g := 0) (by decide) (by rw [tV_length]; omega)
  have := h t ht
  rw [tW_eq, tV_p] at this
  rw [this, tV_at t ht]
theorem tW_len {us : List Int} : 1 ≤ (tW us).length ∧ (tW us).length ≤ us.length + 1 := by
  unfold tW
  rw [vals_length]
  exact shr_pos _ (by omega)
theorem tW_kept {us : List Int} : Kept (cvAt (tW us) 1 0) us := fun s k h1 h2 => by
  rw [tW_at _ (by omega), tF_nat]
  exact most_ge h2
theorem tW_good {us : List Int} (N : ∀ u ∈ us, 0 ≤ u) (a b : Int) (ha : 0 ≤ a) (hb : 0 ≤ b) : cvAt (tW us) 1 0 (a + b) ≤ cvAt (tW us) 1 0 a + cvAt (tW us) 1 0 b := by
  rw [tW_at _ (by omega), tW_at _ ha, tW_at _ hb]
  have := most_add N a.toNat b.toNat
  unfold tF
  rw [show (a + b).toNat = a.toNat + b.toNat by omega]
  exact this
/-! ### the record turned round, with an empty tick behind -/
theorem sum_rev (us : List Int) : us.reverse.sum = us.sum := by
  induction us with
  | nil => rfl
  | cons u us ih => rw [List.reverse_cons, List.sum_append, ih, List.sum_cons]; simp; omega
theorem pre_rev {us : List Int} {i : Nat} (h : i ≤ us.length) : pre us.reverse i = us.sum - pre us ((us.length - i : Nat) : Int) := by
  unfold pre
  rw [Int.toNat_natCast, Int.toNat_natCast, List.take_reverse, sum_rev]
  have e := List.take_append_drop (us.length - i) us
  have s : us.sum = (us.take (us.length - i)).sum + (us.drop (us.length - i)).sum := by rw [← List.sum_append, e]
  omega
theorem win_rev {us : List Int} {s k : Nat} (h : s + k ≤ us.length) : win us.reverse s k = win us ((us.length - s - k : Nat) : Int) k := by
  unfold win
  rw [show (s : Int) + (k : Int) = ((s + k : Nat) : Int) by omega, pre_rev h, pre_rev (by omega), show ((us.length - s - k : Nat) : Int) + (k : Int) = ((us.length - s : Nat) : Int) by omega, show us.length - (s + k) = us.length - s - k by omega]
  omega
theorem win_push {us : List Int} {x : Int} {s k : Nat} (h : s + k ≤ us.length) : win (us ++ [x]) s k = win us s k := by
  unfold win
  rw [pre_push (by omega), pre_push (by omega)]
theorem most_back {us : List Int} (N : ∀ u ∈ us, 0 ≤ u) (k : Nat) : mostM (us.reverse ++ [0]) k = mostM us k := by
  have len : (us.reverse ++ [0]).length = us.length + 1 := by rw [List.length_append, List.length_reverse]; rfl
  have sm : (us.reverse ++ [0]).sum = us.sum := by rw [List.sum_append, sum_rev]; simp
  by_cases c : us.length < k
  · rw [most_far (by omega), most_far (by omega), sm]
  · apply Int.le_antisymm
    · obtain ⟨s, hs, e⟩ := most_at (us := us.reverse ++ [0]) (k := k) (by omega)
      rw [len] at hs
      rw [e]
      by_cases d : s + k ≤ us.length
      · rw [win_push (by rw [List.length_reverse]; exact d), win_rev d]
        exact most_ge (by omega)
      · by_cases k0 : k = 0
        · subst k0
          rw [most_zero]
          unfold win
          rw [show (s : Int) + ((0 : Nat) : Int) = s by omega]
          omega
        · have p1 : pre (us.reverse ++ [0]) ((s : Int) + k) = us.sum := by
            rw [pre_last (by rw [List.length_reverse]; omega), pre_all, sum_rev]
            omega
          have p2 : pre (us.reverse ++ [0]) s = us.sum - pre us ((us.length - s : Nat) : Int) := by
            rw [pre_push (by rw [List.length_reverse]; omega), pre_rev (by omega)]
          have w : win (us.reverse ++ [0]) s k = win us ((0 : Nat) : Int) (k - 1 : Nat) := by
            unfold win
            rw [p1, p2, show ((0 : Nat) : Int) + ((k - 1 : Nat) : Int) = ((us.length - s : Nat) : Int) by omega, show ((0 : Nat) : Int) = 0 from rfl, pre_zero]
            omega
          rw [w]
          have a := most_ge (us := us) (s := 0) (k := k - 1) (by omega)
          have b := most_up N (k - 1)
          rw [show k - 1 + 1 = k by omega] at b
          omega
    · obtain ⟨s, hs, e⟩ := most_at (us := us) (k := k) (by omega)
      rw [e]
      have a := most_ge (us := us.reverse ++ [0]) (s := us.length - s - k) (k := k) (by omega)
      rw [win_push (by rw [List.length_reverse]; omega), win_rev (by omega), show us.length - (us.length - s - k) - k = s by omega] at a
      exact a
theorem tW_back {us : List Int} (N : ∀ u ∈ us, 0 ≤ u) : tW (us.reverse ++ [0]) = tW us := by
  have F : tF (us.reverse ++ [0]) = tF us := by
    funext t
    unfold tF
    exact most_back N t.toNat
  have M : tM (us.reverse ++ [0]) = tM us := by
    unfold tM
    rw [F, List.length_append, List.length_reverse]
    show shr (tF us) 1 0 (us.length + 1 + 1) = _
    show (if (1 : Int) < ((us.length + 1 + 1 : Nat) : Int) ∧ _ then _ else _) = _
    rw [if_pos]
    refine ⟨by omega, ?_⟩
    rw [tF_nat, show ((us.length + 1 + 1 : Nat) : Int) - 1 = ((us.length + 1 : Nat) : Int) by omega, tF_nat, most_far (by omega), most_far (by omega)]
    omega
  unfold tW
  rw [F, M]
/-! ### at most -/
/-- is one curve at most another one, as the package looks -/
def amN (n1 n2 : Nat) (p1 p2 : Int) : Nat := (max ((n1 : Int) - p1) ((n2 : Int) - p2) + (Nat.lcm p1.toNat p2.toNat : Nat)).toNat
def amM (f1 f2 : Int → Int) (n1 n2 : Nat) (p1 g1 p2 g2 : Int) : Bool :=
  if g2 * ((Nat.lcm p1.toNat p2.toNat : Nat) / p2) < g1 * ((Nat.lcm p1.toNat p2.toNat : Nat) / p1) then false else
    (List.range (amN n1 n2 p1 p2)).all fun i : Nat => decide (f1 ((i : Int) + 1) ≤ f2 ((i : Int) + 1))
theorem all_iff {n : Nat} {f g : Int → Int} : ((List.range n).all fun i : Nat => decide (f ((i : Int) + 1) ≤ g ((i : Int) + 1))) = true ↔ ∀ t : Int, 1 ≤ t → t ≤ n → f t ≤ g t := by
  rw [List.all_eq_true]
  constructor
  · intro h t h1 h2
    have := of_decide_eq_true (h (t - 1).toNat (List.mem_range.mpr (by omega)))
    rw [show (((t - 1).toNat : Nat) : Int) + 1 = t by omega] at this
    exact this
  · intro h i hi
    exact decide_eq_true (h _ (by omega) (by have := List.mem_range.mp hi; omega))
/-- the tightest curve is at most a curve exactly if the record keeps it -/
theorem am_tight {us : List Int} (N : ∀ u ∈ us, 0 ≤ u) {f : Int → Int} {n2 : Nat} {p g : Int} (hp : 0 < p) (hpn : p ≤ n2) (hg : 0 ≤ g) (h0 : 0 ≤ f 1) (up : ∀ k : Nat, 1 ≤ k → f k ≤ f ((k : Int) + 1)) :
    amM (cvAt (tW us) 1 0) f (tW us).length n2 1 0 p g = (List.range us.length).all fun i : Nat => decide (tF us ((i : Int) + 1) ≤ f ((i : Int) + 1)) := by
  have L : Nat.lcm (1 : Int).toNat p.toNat = p.toNat := by rw [show (1 : Int).toNat = 1 from rfl]; exact Nat.lcm_one_left _
  have fm : ∀ (d k : Nat), 1 ≤ k → f k ≤ f ((k + d : Nat) : Int) := fun d k hk => by
    induction d with
    | zero => exact Int.le_refl _
    | succ d ih =>
      have := up (k + d) (by omega)
      rw [show ((k + d : Nat) : Int) + 1 = ((k + (d + 1) : Nat) : Int) by omega] at this
      omega
  have fmi : ∀ a b : Int, 1 ≤ a → a ≤ b → f a ≤ f b := fun a b h1 h2 => by
    have := fm (b - a).toNat a.toNat (by omega)
    rw [show ((a.toNat + (b - a).toNat : Nat) : Int) = b by omega, show ((a.toNat : Nat) : Int) = a by omega] at this
    exact this
  obtain ⟨l1, l2⟩ := tW_len (us := us)
  have gg : ¬ g * ((Nat.lcm (1 : Int).toNat p.toNat : Nat) / p) < 0 * ((Nat.lcm (1 : Int).toNat p.toNat : Nat) / (1 : Int)) := by
    rw [L, Int.zero_mul, show ((p.toNat : Nat) : Int) = p by omega, Int.ediv_self (by omega)]
    omega
  unfold amM
  rw [if_neg gg, Bool.eq_iff_iff, all_iff, all_iff]
  have nn : ((amN (tW us).length n2 1 p : Nat) : Int) = max (((tW us).length : Int) - 1) ((n2 : Int) - p) + p := by
    unfold amN
    rw [L]
    omega
  constructor
  · intro h t h1 h2
    rw [← tW_at _ (by omega)]
    by_cases c : t ≤ (amN (tW us).length n2 1 p : Nat)
    · exact h t h1 c
    · have R : Rep (cvAt (tW us) 1 0) (tW us).length 1 0 := Rep.cvAt (by decide) (by omega)
      have flat : ∀ d : Nat, cvAt (tW us) 1 0 (((tW us).length + d : Nat) : Int) = cvAt (tW us) 1 0 (tW us).length := fun d => by
        induction d with
        | zero => rfl
        | succ d ih =>
          rw [R _ (by omega), show (((tW us).length + (d + 1) : Nat) : Int) - 1 = (((tW us).length + d : Nat) : Int) by omega, ih]
          omega
      have e := flat (t - (tW us).length).toNat
      rw [show (((tW us).length + (t - (tW us).length).toNat : Nat) : Int) = t by omega] at e
      rw [e]
      exact Int.le_trans (h _ (by omega) (by omega)) (fmi _ _ (by omega) (by omega))
  · intro h t h1 h2
    rw [tW_at _ (by omega)]
    by_cases c : t ≤ us.length
    · exact h t h1 c
    · unfold tF
      rw [most_far (by omega)]
      by_cases z : us.length = 0
      · have : us = [] := List.length_eq_zero_iff.mp z
        subst this
        exact Int.le_trans h0 (fmi 1 t (by decide) h1)
      · have a := h us.length (by omega) (Int.le_refl _)
        rw [tF_nat, most_far (Nat.le_refl _)] at a
        exact Int.le_trans a (fmi _ _ (by omega) (by omega))
end VM

/-! Data in an f-string, repr by an own __repr__ that shows data, lcm. -/
namespace VQ
open PySem PySem.Spec PyProof.Rows L2
section
variable {X : Cx}
/-- {x}: data that repr may be asked of -/
def tFmtD (K : PySem.W.Frag) (te : TE) : TE := fun σ H Q => te σ H fun x H1 => ∃ (a : Addr) (d : PyData), x = .ref a ∧ Dp K H1 x d ∧ d.showable = true ∧ d.depth ≤ 60 ∧ d.shown.length ≤ sizeLine ∧ Q (.str d.shown) H1
theorem pe_fmtD {e : Expr} {te : TE} {pos : Pos} (hg : X.A.guards = some []) (hu : X.A.units + 64 < cLine) (he : PE X e te) : PE X (.FormattedValue e (-1) none pos) (tFmtD X.K te) := by
  refine ⟨fun pins s σ H Q I h => wpAny_FormattedValue_plain (thn (he.run pins s σ H _ I h) ?_)⟩
  rintro v s1 ⟨x, H1, I1, r1, a, d, rfl, dp, sh, de, sz, q⟩
  obtain rfl : v = Value.ref a := r1
  have nd := (VG.dp_noDict X.K H1).1 d _ dp
  obtain ⟨as, rd⟩ := Dp.reads I1 d _ _ dp rfl
  exact formatField_of_reads rd sh (fun z => by rw [nd] at z; cases z) hg (by omega) (fun _ _ z => z) (fun h' u tk k => ⟨.str _, H1, I1.kept (t' := tk) k, ⟨_, rfl⟩, q⟩) sz
variable {CX : CXT} {k : Nat} {f C : Addr} {fd : FuncData} {ps : List Str} {sp : Sp} {E : XK}
/-- repr of an instance whose own __repr__ asks for empty guards -/
theorem call_reprOwnG (F : VG.FnG X.prog X.w X.K X.mg X.base CX k f fd ps sp) (hA : X.A.guards = some []) (hr : Room (k + 1) X.A) (o : Meth X.K C "__repr__" f) (hb : Binds X.K fd ps []) (hx : Passes CX X E) :
    CallR X (.builtin "repr") (VN.rReprOwn C sp E) := by
  intro pins s σ H xs us Q I r h
  obtain ⟨a, dx, fs, rfl, ea, hsp⟩ := h
  obtain ⟨u, rfl, ru⟩ := vals1 r
  obtain rfl : u = Value.ref a := ru
  obtain ⟨mA, J, _⟩ := ins_get I.hok ea
  obtain ⟨od, J, _⟩ := J.look
  obtain ⟨m, hF⟩ := I.fr
  have len := F.arity _ _ _ _ hsp
  have bind := hb s [.ref a] I.kIn (by simpa using len)
  rw [List.append_nil] at bind
  refine PySem.W.repr_K hr.in1.units0 hF I.ok.mod.kin J o.at_ o.fn (wpAny_call (codeAny_mono (F.go X.A.in1 X.stack s H ⟨[.ref a], []⟩ [.ref a] [.ref a] _ E hA hr.in1 I.env0.in1 bind (.cons rfl .nil) hsp) ?_))
  intro res s' hq
  match res, hq with
  | .error e, hq => exact hx pins σ H s e s' I hq
  | .ok .next, hq => exact False.elim hq
  | .ok .brk, hq => exact False.elim hq
  | .ok .cont, hq => exact False.elim hq
  | .ok (.ret w), hq =>
    obtain ⟨z, H', J', rz, y, rfl, q⟩ := I.after hq
    obtain ⟨t, rfl⟩ := rz
    exact ⟨.str y, H', J', ⟨t, rfl⟩, q⟩
/-- lcm of small numbers -/
def rLcm : List V → Hp → VK → Prop := fun vs H Q => ∃ a b : Int, vs = [.int a, .int b] ∧ 0 < a ∧ a ≤ 1000 ∧ 0 < b ∧ b ≤ 1000 ∧ Q (.int ((Nat.lcm a.toNat b.toNat : Nat) : Int)) H
theorem cr_lcm : CallR X (.builtin "math.lcm") rLcm := by
  intro pins s σ H vs us Q I r h
  obtain ⟨a, b, rfl, a0, a1, b0, b1, q⟩ := h
  obtain ⟨t, u, rfl⟩ := Vals.int2 r
  have ea : a.natAbs = a.toNat := by omega
  have eb : b.natAbs = b.toNat := by omega
  have z : (Nat.lcm 1 a.natAbs).lcm b.natAbs = Nat.lcm a.toNat b.toNat := by rw [Nat.lcm_one_left, ea, eb]
  have big : Nat.lcm a.toNat b.toNat ≤ 1000000 := by
    have p : Nat.lcm a.toNat b.toNat ∣ a.toNat * b.toNat := Nat.lcm_dvd_mul _ _
    have m := Nat.le_of_dvd (Nat.mul_pos (by omega) (by omega)) p
    have y : a.toNat * b.toNat ≤ 1000 * 1000 := Nat.mul_le_mul (by omega) (by omega)
    omega
  have lg : (Nat.lcm a.toNat b.toNat).log2 < 64 := by
    by_cases n0 : Nat.lcm a.toNat b.toNat = 0
    · rw [n0]; decide
    · exact (Nat.log2_lt n0).mpr (Nat.lt_of_le_of_lt big (by decide))
  refine PySem.W.mg_lcm (by omega) (by omega) ?_ ⟨.int _, H, I.tok _, ⟨_, rfl⟩, ?_⟩
  · rw [z, Int.natAbs_natCast]
    exact Nat.lt_trans lg (by decide)
  · rw [z]; exact q
end
end VQ

/-! The sum of two objects of an own class, by its own __add__. -/
namespace VO
open PySem PySem.Spec PyProof.Rows L2
def rAddOwn (C : Addr) (sp : Sp) (E : XK) : R2 := fun x y H Q => ∃ a dx fs b dy gs, x = .ref a ∧ H a = some (.ins C dx fs) ∧ y = .ref b ∧ H b = some (.ins C dy gs) ∧ sp [x, y] H (fun v H' => ∃ c, v = .ref c ∧ Q (.ref c) H') E
section
variable {X : Cx} {CX : CXT} {k : Nat} {f C : Addr} {fd : FuncData} {ps : List Str} {sp : Sp} {E : XK}
theorem op_addOwn (F : FnOk X.prog X.w X.K X.mg X.base CX k f fd ps sp) (hr : Room k X.A) (o : Meth X.K C "__add__" f) (c : PySem.W.selfFirst X.K C = true) (hb : Binds X.K fd ps []) (hx : Passes CX X E) : OpR X (binaryOp .Add) (rAddOwn C sp E) := by
  intro pins s σ H x y v u Q I rx ry h
  obtain ⟨a, dx, fs, b, dy, gs, rfl, ea, rfl, eb, hsp⟩ := h
  obtain rfl : v = Value.ref a := rx
  obtain rfl : u = Value.ref b := ry
  obtain ⟨mA, J, _⟩ := ins_get I.hok ea
  obtain ⟨od, J, _⟩ := J.look
  obtain ⟨mB, J2, _⟩ := ins_get I.hok eb
  obtain ⟨od2, J2, _⟩ := J2.look
  obtain ⟨m, hF⟩ := I.fr
  show wpAny (model X.prog X.w) X.A (binaryOp .Add (.ref a) (.ref b)) (EP X pins σ Q) X.xe s
  refine PySem.W.binop_K (op := .Add) hF I.ok.mod.kin J J2.type c o.at_ o.fn ?_
  have hl := F.len _ _ _ _ hsp
  have r2 : Vals [V.ref a, V.ref b] [Value.ref a, Value.ref b] := .cons rfl (.cons rfl .nil)
  refine wpAny_call (codeAny_mono (F.run X.A X.stack s H ⟨[.ref a, .ref b], []⟩ [.ref a, .ref b] [.ref a, .ref b] _ E hr I.env0 (by
    have := hb s [.ref a, .ref b] I.kIn (by simpa using hl)
    simpa using this) r2 hsp) fun r s' hq => ?_)
  cases r with
  | error e => exact hx pins σ H s e s' I hq
  | ok fl =>
    cases fl with
    | ret w =>
      obtain ⟨z, H', I', rz, b, ez, q⟩ := I.after hq
      subst ez
      cases rz
      exact ⟨.ref b, H', I', rfl, q⟩
    | next => exact False.elim hq
    | brk => exact False.elim hq
    | cont => exact False.elim hq
end
end VO

/-! The first break of a curve; a curve later; the sum of two. -/
namespace VM
theorem least_nat {P : Nat → Prop} (h : ∃ n, P n) : ∃ n, P n ∧ ∀ m, m < n → ¬ P m := by
  obtain ⟨n, hn⟩ := h
  induction n using Nat.strongRecOn with
  | ind n ih =>
    by_cases z : ∃ m, m < n ∧ P m
    · obtain ⟨m, hm, pm⟩ := z
      exact ih m hm pm
    · exact ⟨n, hn, fun m hm pm => z ⟨m, hm, pm⟩⟩
/-- the first break among all pairs, or that there is none -/
def First (f : Int → Int) : Option (Int × Int) → Prop
  | none => ∀ a b : Int, 1 ≤ a → a ≤ b → f (a + b) ≤ f a + f b
  | some (a, b) => 1 ≤ a ∧ a ≤ b ∧ f a + f b < f (a + b) ∧ ∀ x y : Int, 1 ≤ x → x ≤ y → (x + y < a + b ∨ (x + y = a + b ∧ x < a)) → f (x + y) ≤ f x + f y
theorem first_ex (f : Int → Int) : ∃ o, First f o := by
  by_cases h : ∃ s : Nat, ∃ a : Nat, 1 ≤ a ∧ 2 * a ≤ s ∧ f a + f (s - a) < f s
  · obtain ⟨s, ⟨a0, ha0⟩, hs⟩ := least_nat h
    obtain ⟨a, ⟨a1, a2, a3⟩, ha⟩ := least_nat (P := fun a : Nat => 1 ≤ a ∧ 2 * a ≤ s ∧ f a + f (s - a) < f s) ⟨a0, ha0⟩
    refine ⟨some ((a : Int), (s : Int) - a), by omega, by omega, ?_, fun x y hx hxy lt => ?_⟩
    · rw [show (a : Int) + (s - a) = s by omega]; exact a3
    · by_cases c : f (x + y) ≤ f x + f y
      · exact c
      · exfalso
        have e1 : ((x.toNat : Nat) : Int) = x := by omega
        have e2 : (((x + y).toNat : Nat) : Int) = x + y := by omega
        have key : 1 ≤ x.toNat ∧ 2 * x.toNat ≤ (x + y).toNat ∧ f (x.toNat : Nat) + f (((x + y).toNat : Nat) - (x.toNat : Nat) : Int) < f ((x + y).toNat : Nat) := by
          refine ⟨by omega, by omega, ?_⟩
          rw [e1, e2, show x + y - x = y by omega]
          omega
        rcases lt with lt | ⟨lt, lt2⟩
        · exact hs (x + y).toNat (by omega) ⟨x.toNat, key⟩
        · refine ha x.toNat (by omega) ?_
          have e3 : (x + y).toNat = s := by omega
          rw [e3] at key
          exact key
  · refine ⟨none, fun a b ha hab => ?_⟩
    by_cases c : f (a + b) ≤ f a + f b
    · exact c
    · exfalso
      apply h
      refine ⟨(a + b).toNat, a.toNat, by omega, by omega, ?_⟩
      rw [show ((a.toNat : Nat) : Int) = a by omega, show (((a + b).toNat : Nat) : Int) = a + b by omega, show a + b - a = b by omega]
      omega
theorem First.congr {f h : Int → Int} {o : Option (Int × Int)} (e : ∀ t : Int, 0 ≤ t → f t = h t) (F : First f o) : First h o := by
  cases o with
  | none => exact fun a b h1 h2 => by rw [← e (a + b) (by omega), ← e a (by omega), ← e b (by omega)]; exact F a b h1 h2
  | some ab =>
    obtain ⟨a, b⟩ := ab
    obtain ⟨a1, a2, a3, a4⟩ := F
    refine ⟨a1, a2, ?_, fun x y h1 h2 lt => ?_⟩
    · rw [← e (a + b) (by omega), ← e a (by omega), ← e b (by omega)]; exact a3
    · rw [← e (x + y) (by omega), ← e x (by omega), ← e y (by omega)]; exact a4 x y h1 h2 lt
/-- neither length of the first break is greater than the number of values -/
theorem first_le {f : Int → Int} {n p g a b : Int} (R : Rep f n p g) (hp : 0 < p) (hpn : p ≤ n) (F : First f (some (a, b))) : b ≤ n := by
  obtain ⟨a1, a2, a3, a4⟩ := F
  by_cases c : b ≤ n
  · exact c
  exfalso
  have r1 := R b (by omega)
  have r2 := R (a + b) (by omega)
  by_cases z : a ≤ b - p
  · have := a4 a (b - p) a1 z (.inl (by omega))
    rw [show a + (b - p) = a + b - p by omega] at this
    omega
  · have := a4 (b - p) a (by omega) (by omega) (.inl (by omega))
    rw [show b - p + a = a + b - p by omega] at this
    omega
/-- a function later by n -/
def laterF (f : Int → Int) (n : Int) (t : Int) : Int := if t ≤ n then 0 else f (t - n)
theorem later_vals {f : Int → Int} {n m : Nat} : List.replicate n (0 : Int) ++ vals f m = vals (laterF f n) (n + m) := by
  refine List.ext_getElem? fun i => ?_
  by_cases h : i < n
  · rw [List.getElem?_append_left (by rw [List.length_replicate]; exact h), List.getElem?_replicate, if_pos h]
    unfold vals
    rw [List.getElem?_map, List.getElem?_range (by omega)]
    show some (0 : Int) = some (laterF f n ((i : Int) + 1))
    unfold laterF
    rw [if_pos (by omega)]
  · rw [List.getElem?_append_right (by rw [List.length_replicate]; omega), List.length_replicate]
    unfold vals
    by_cases c : i < n + m
    · rw [List.getElem?_map, List.getElem?_map, List.getElem?_range (by omega), List.getElem?_range (by omega)]
      show some (f (((i - n : Nat) : Int) + 1)) = some (laterF f n ((i : Int) + 1))
      unfold laterF
      rw [if_neg (by omega), show ((i - n : Nat) : Int) + 1 = (i : Int) + 1 - n by omega]
    · rw [List.getElem?_eq_none (by simp; omega), List.getElem?_eq_none (by simp; omega)]
theorem later_rep {f : Int → Int} {n m p g : Int} (R : Rep f m p g) (hp : 0 < p) (hpm : p ≤ m) (hn : 0 ≤ n) (h0 : f 0 = 0) : Rep (laterF f n) (n + m) p g := by
  intro t ht
  unfold laterF
  by_cases c : t - p ≤ n
  · rw [if_neg (by omega), if_pos c]
    have := R (t - n) (by omega)
    rw [show t - n - p = 0 by omega, h0] at this
    exact this
  · rw [if_neg (by omega), if_neg c, R (t - n) (by omega), show t - n - p = t - p - n by omega]
theorem later_zero {f : Int → Int} {n : Int} (hn : 0 ≤ n) : laterF f n 0 = 0 := by unfold laterF; rw [if_pos hn]
theorem vals_self {cs : List Int} {p g : Int} : vals (cvAt cs p g) cs.length = cs := by
  refine List.ext_getElem? fun i => ?_
  unfold vals
  by_cases h : i < cs.length
  · rw [List.getElem?_map, List.getElem?_range h, List.getElem?_eq_getElem h]
    show some (cvAt cs p g ((i : Int) + 1)) = _
    rw [cvAt_in (by omega) (by omega), show ((i : Int) + 1 - 1).toNat = i by omega, List.getD_eq_getElem?_getD, List.getElem?_eq_getElem h]
    rfl
  · rw [List.getElem?_eq_none (by simp; omega), List.getElem?_eq_none (by omega)]
/-- zeros in front: the curve later -/
theorem cvAt_later {cs : List Int} {p g : Int} {n : Nat} (hp : 0 < p) (hpn : p ≤ cs.length) {t : Int} (ht : 0 ≤ t) :
    cvAt (List.replicate n 0 ++ cs) p g t = laterF (cvAt cs p g) n t := by
  have e : List.replicate n (0 : Int) ++ cs = vals (laterF (cvAt cs p g) n) (n + cs.length) := by
    rw [← later_vals, vals_self]
  rw [e]
  refine cvAt_vals hp (by omega) (later_zero (by omega)) ?_ t ht
  have := later_rep (n := (n : Int)) (Rep.cvAt (g := g) hp hpn) hp hpn (by omega) cvAt_zero
  rw [show (((n + cs.length : Nat)) : Int) = (n : Int) + cs.length by omega]
  exact this
theorem Rep.times {f : Int → Int} {n p g : Int} (R : Rep f n p g) (hp : 0 < p) (k : Nat) : ∀ t, n + (k : Int) * p < t + p → f t = f (t - k * p) + k * g := by
  induction k with
  | zero => intro t ht; simp
  | succ k ih =>
    intro t ht
    have e1 : ((k + 1 : Nat) : Int) * p = k * p + p := by rw [show ((k + 1 : Nat) : Int) = (k : Int) + 1 by omega, Int.add_mul, Int.one_mul]
    have e2 : ((k + 1 : Nat) : Int) * g = k * g + g := by rw [show ((k + 1 : Nat) : Int) = (k : Int) + 1 by omega, Int.add_mul, Int.one_mul]
    rw [e1] at ht ⊢
    rw [e2, ih t (by omega), R (t - k * p) (by omega), show t - k * p - p = t - (k * p + p) by omega]
    omega
/-- with a multiple of the period -/
theorem Rep.mul {f : Int → Int} {n p g N P : Int} (R : Rep f n p g) (hp : 0 < p) (hd : p ∣ P) (hP : 0 < P) (hN : n - p + P ≤ N) : Rep f N P (g * (P / p)) := by
  intro t ht
  obtain ⟨k, rfl⟩ := hd
  have k0 : 0 < k := by
    by_cases z : 0 < k
    · exact z
    · exfalso
      have := Int.mul_nonpos_of_nonneg_of_nonpos (show 0 ≤ p by omega) (show k ≤ 0 by omega)
      omega
  obtain ⟨m, rfl⟩ : ∃ m : Nat, k = (m : Int) := ⟨k.toNat, by omega⟩
  have := R.times hp m t (by rw [Int.mul_comm p] at hN; omega)
  rw [Int.mul_ediv_cancel_left _ (by omega : p ≠ 0), Int.mul_comm p, this, Int.mul_comm g]
theorem Rep.add {f h : Int → Int} {N P g1 g2 : Int} (R : Rep f N P g1) (S : Rep h N P g2) : Rep (fun t => f t + h t) N P (g1 + g2) := by
  intro t ht
  show f t + h t = f (t - P) + h (t - P) + (g1 + g2)
  rw [R t ht, S t ht]
  omega
end VM

/-! repr of data, or of an empty dict. -/
namespace VZ
open PySem PySem.Spec PyProof.Rows L2
def Dz (K : PySem.W.Frag) (H : Hp) (v : V) (d : PyData) : Prop := Dp K H v d ∨ ∃ a, v = .ref a ∧ H a = some (.dK []) ∧ d = .dict []
def rReprZ (K : PySem.W.Frag) : List V → Hp → VK → Prop := fun xs H Q =>
  ∃ v d, xs = [v] ∧ Dz K H v d ∧ d.showable = true ∧ d.depth ≤ 60 ∧ d.shown.length ≤ sizeLine ∧ Q (.str d.shown) H
theorem empty_show : (PyData.dict []).showable = true ∧ (PyData.dict []).depth ≤ 60 ∧ (PyData.dict []).shown.length ≤ sizeLine := ⟨rfl, by decide, by decide⟩
theorem call_reprZ {X : Cx} (hg : X.A.guards = some []) (hu : X.A.units + 64 < cLine) : CallR X (.builtin "repr") (rReprZ X.K) := by
  intro pins s σ H xs us Q I r h
  obtain ⟨v, d, rfl, hd, hs, hdep, hz, q⟩ := h
  rcases hd with hd | ⟨a, rfl, ha, rfl⟩
  · exact VG.call_repr hg hu pins s σ H _ us Q I r ⟨v, d, rfl, hd, hs, hdep, hz, q⟩
  · obtain ⟨u, rfl, rv⟩ := vals1 r
    cases rv
    obtain ⟨_, ns, vs, kv, o, es, ep, e1, e2, e3, e4, e5, e6⟩ := (show ObjOk X.prog X.w H s.heap a (.dK []) from I.hok a _ ha)
    cases kv
    have e0 : es.toList = [] := by
      cases h : es.toList with
      | nil => rfl
      | cons z zs => rw [h] at e5; cases e5
    have rd : Reads s.heap (.ref a) (.dict []) (a :: [] ++ []) := Reads.dict (es := es) e1 e2.1 e3 (by rw [e0]; exact .nil) (by rw [e0]; exact .nil)
    have keep : ∀ (h' : Heap) (t' : Nat), (∀ b o, s.heap.get? b = some o → h'.get? b = some o) → Inv X pins σ H { s with heap := h', toks := t' } :=
      fun h' t' k => I.kept (t' := t') k
    exact repr_of_reads' rd hs (fun _ m => by simp at m; subst m; simp at ns) hg (by omega) (fun _ _ e => e) (fun h' w tk k => ⟨.str _, H, keep h' tk k, ⟨_, rfl⟩, q⟩) hz
end VZ

/-! A method of an own class that may raise, called where errors are caught. -/
namespace VX
open PySem PySem.Spec PyProof.Rows L2
/-- a statement behind which nothing comes -/
def tStop (t : TS) : TS := fun D σ H => t { D with nx := fun _ _ => False } σ H
theorem pss_stop {X : Cx} {st : Stmt} {more : List Stmt} {t : TS} (h1 : PS X st t) : PSs X (st :: more) (tStop t) := by
  constructor
  intro pins s σ H D I hm
  refine wpAny_execs_cons (thn (h1.run pins s σ H _ I hm) ?_)
  intro fl s1 q
  match fl, q with
  | .next, ⟨σ', H', I', q⟩ => exact q.elim
  | .ret v, q => exact q
  | .brk, q => exact q
  | .cont, q => exact q
def tMethS (C : Addr) (m : Str) (sp : Sp) (E : L2.St → XK) (ta : TE) (t : TA) : TE := fun σ H Q => ta σ H fun x H1 => ∃ a dx fs, x = .ref a ∧ H1 a = some (.ins C dx fs) ∧ fs.lookup m = none ∧ t σ H1 fun vs H2 => sp (x :: vs) H2 Q (E σ)
theorem pe_fldK {X : Cx} {K' : PySem.W.Frag} {e : Expr} {ta : TE} {f : Str} {pos : Pos} (he : PE X e ta) (hb : attributeBase e f X.env (eval e X.env) = eval e X.env) (hK : X.K = K') : PE X (.Attribute e f pos) (tFld K' ta f) := by
  subst hK
  exact pe_fld he hb
section
variable {X : Cx} {CX : CXT} {k : Nat} {f C : Addr} {fd : FuncData} {ps : List Str} {sp : Sp} {E : L2.St → XK} {x m : Str} {p pos apos : Pos} {e o : Expr} {es : List Expr} {ta : TE} {t : TA}
theorem pe_methS {pl : Sem Bool} (he : PE X o ta) (c : Cls X.K C) (hm : Meth X.K C m f) (F : FnOk X.prog X.w X.K X.mg X.base CX k f fd ps sp) (hr : Room k X.A) (hb : Binds X.K fd ps []) (hx : ∀ σ, PassesAt CX X σ (E σ)) (ha : PA X (e :: es) t)
    (hst : starEach (e :: es) X.env = (false, eval e X.env) :: starEach es X.env := by rfl) (hpl : (backTo pos (starEach es X.env)).any (·.1) = false := by rfl)
    (ht : eval (.Call (.Attribute o m apos) (e :: es) [] pos) X.env = (do
      let ov ← eval o X.env
      standAt apos.atName
      let (f, first) ← holding [ov] (getMethod ov m pl)
      callWith pos f first (backTo pos (starEach (e :: es) X.env)) (backToKw pos (keywordEach [] X.env))) := by rfl) :
    PE X (.Call (.Attribute o m apos) (e :: es) [] pos) (tMethS C m sp E ta t) := by
  refine ⟨fun pins s σ H Q I h => ?_⟩
  refine PySem.W.methodCall_KW (pl := pl) (thn (he.run pins s σ H _ I h) fun u s1 ⟨x, H1, I1, rx, a, dx, fs, ex, ea, l, q⟩ => ?_) ht
  subst ex
  obtain rfl : u = Value.ref a := rx
  refine getmeth_ok I1 ea c hm l ?_
  refine PySem.W.callWith_K (first := [.ref a]) (h₀ := X.base) I.ok.mod.kin hm.kp (thn (ha.run pos pins s1 σ H1 _ I1 q) fun us s2 ⟨vs, H2, I2, r, q2⟩ => ⟨I2.kIn, ?_⟩) hst hpl
  exact run_fnS (us := .ref a :: us) (vs := .ref a :: vs) F hr hb (hx σ) I2 (.cons rfl r) q2
end
end VX

/-! The least length with something, of a function that repeats. -/
namespace VM
/-- the least length from lo on where h is positive, or that there is none -/
def LeastR (h : Int → Int) (lo : Int) : Option Int → Prop
  | none => ∀ t : Int, lo ≤ t → h t ≤ 0
  | some t => lo ≤ t ∧ 0 < h t ∧ ∀ s : Int, lo ≤ s → s < t → h s ≤ 0
theorem LeastR.uniq {h : Int → Int} {lo : Int} {o o' : Option Int} (a : LeastR h lo o) (b : LeastR h lo o') : o = o' := by
  cases o with
  | none =>
    cases o' with
    | none => rfl
    | some t => have := a t b.1; have := b.2.1; omega
  | some s =>
    cases o' with
    | none => have := b s a.1; have := a.2.1; omega
    | some t =>
      by_cases c : s < t
      · have := b.2.2 s a.1 c; have := a.2.1; omega
      · by_cases c2 : t < s
        · have := a.2.2 t b.1 c2; have := b.2.1; omega
        · rw [show s = t by omega]
theorem least_ex (h : Int → Int) (lo : Int) : ∃ o, LeastR h lo o := by
  by_cases c : ∃ n : Nat, 0 < h (lo + n)
  · obtain ⟨n, hn, no⟩ := least_nat c
    refine ⟨some (lo + n), by omega, hn, fun s h1 h2 => ?_⟩
    have := no (s - lo).toNat (by omega)
    rw [show lo + ((s - lo).toNat : Int) = s by omega] at this
    omega
  · refine ⟨none, fun t ht => ?_⟩
    by_cases z : 0 < h t
    · exact absurd ⟨(t - lo).toNat, by rw [show lo + ((t - lo).toNat : Int) = t by omega]; exact z⟩ c
    · omega
theorem filt_none {P : Nat → Bool} : ∀ {n : Nat}, (∀ i, i < n → P i = false) → (List.range n).filter P = []
  | n, h => by
    rw [List.filter_eq_nil_iff]
    intro i hi
    rw [h i (List.mem_range.mp hi)]
    decide
theorem filt_some {P : Nat → Bool} {t : Nat} (ht : P t = true) (no : ∀ i, i < t → P i = false) : ∀ {n : Nat}, t < n → ∃ ys, (List.range n).filter P = t :: ys := by
  intro n
  induction n with
  | zero => intro h; omega
  | succ n ih =>
    intro h
    rw [List.range_succ, List.filter_append]
    by_cases c : t < n
    · obtain ⟨ys, e⟩ := ih c
      rw [e]
      exact ⟨_, rfl⟩
    · have e : t = n := by omega
      subst e
      rw [filt_none no]
      refine ⟨[], ?_⟩
      simp [List.filter, ht]
theorem LeastR.congr {h k : Int → Int} {lo : Int} {o : Option Int} (e : ∀ t : Int, lo ≤ t → h t = k t) (a : LeastR h lo o) : LeastR k lo o := by
  cases o with
  | none => exact fun t ht => by rw [← e t ht]; exact a t ht
  | some t => exact ⟨a.1, by rw [← e t a.1]; exact a.2.1, fun s hs hst => by rw [← e s hs]; exact a.2.2 s hs hst⟩
/-- each length behind n is one of the last period and some periods more -/
theorem last_of {n p t : Int} (hp : 0 < p) (ht : n < t) : ∃ (l : Int) (k : Nat), 1 ≤ k ∧ n - p < l ∧ l ≤ n ∧ t = l + k * p := by
  obtain ⟨r1, r2, r3⟩ := rounds_spec hp ht
  refine ⟨t - (t - n + p - 1) / p * p, ((t - n + p - 1) / p).toNat, by omega, by omega, by omega, ?_⟩
  rw [Int.toNat_of_nonneg (by omega)]
  omega
theorem Rep.at_ {h : Int → Int} {n p G l : Int} (R : Rep h n p G) (hp : 0 < p) (h1 : n - p < l) (k : Nat) : h (l + k * p) = h l + k * G := by
  have := R.times hp k (l + k * p) (by omega)
  rw [show l + (k : Int) * p - k * p = l by omega] at this
  exact this
theorem least_none {h : Int → Int} {n p G lo : Int} (R : Rep h n p G) (hp : 0 < p) (hlo : lo ≤ n - p + 1) (hG : G ≤ 0) (no : ∀ t : Int, lo ≤ t → t ≤ n → h t ≤ 0) : LeastR h lo none := by
  intro t ht
  by_cases c : t ≤ n
  · exact no t ht c
  · obtain ⟨l, k, k1, l1, l2, rfl⟩ := last_of (n := n) hp (show n < t by omega)
    rw [R.at_ hp l1 k]
    have := no l (by omega) l2
    have := Int.mul_nonpos_of_nonneg_of_nonpos (show (0 : Int) ≤ k by omega) hG
    omega
/-- when a length of the last period comes up -/
def candM (h : Int → Int) (p G l : Int) : Int := l + p * (-(h l) / G + 1)
theorem least_min {h : Int → Int} {n p G lo m : Int} (R : Rep h n p G) (hp : 0 < p) (hlo : lo ≤ n - p + 1) (hG : 0 < G) (no : ∀ t : Int, lo ≤ t → t ≤ n → h t ≤ 0)
    (hm : ∃ l : Int, n - p < l ∧ l ≤ n ∧ m = candM h p G l) (hx : ∀ l : Int, n - p < l → l ≤ n → m ≤ candM h p G l) : LeastR h lo (some m) := by
  obtain ⟨l, l1, l2, rfl⟩ := hm
  have hl := no l (by omega) l2
  have q0 : 0 ≤ -(h l) / G := Int.ediv_nonneg (by omega) (by omega)
  have e : candM h p G l = l + ((-(h l) / G + 1).toNat : Nat) * p := by
    unfold candM
    rw [Int.toNat_of_nonneg (by omega), Int.mul_comm]
  have pos : 0 < p * (-(h l) / G + 1) := Int.mul_pos hp (by omega)
  refine ⟨by unfold candM; omega, ?_, fun s hs hst => ?_⟩
  · rw [e, R.at_ hp l1, Int.toNat_of_nonneg (by omega)]
    have := Int.lt_ediv_add_one_mul_self (-(h l)) hG
    omega
  · by_cases c : s ≤ n
    · exact no s hs c
    · obtain ⟨l', k, k1, l1', l2', rfl⟩ := last_of (n := n) hp (show n < s by omega)
      rw [R.at_ hp l1' k]
      by_cases z : h l' + k * G ≤ 0
      · exact z
      · exfalso
        have hl' := no l' (by omega) l2'
        have x := hx l' l1' l2'
        have ge : -(h l') / G + 1 ≤ k := by
          have : -(h l') / G < k := Int.ediv_lt_of_lt_mul hG (by omega)
          omega
        have m1 := Int.mul_le_mul_of_nonneg_left ge (show 0 ≤ p by omega)
        unfold candM at x hst
        rw [Int.mul_comm (k : Int) p] at hst
        omega
/-- it comes within the first lengths, where each dozen more adds nothing -/
theorem least_low {h : Int → Int} {N P D lo t : Int} (R : Rep h N P D) (hP : 0 < P) (hlo : lo ≤ N + 1 - P) (hD : D ≤ 0) (F : LeastR h lo (some t)) : t ≤ N := by
  by_cases c : t ≤ N
  · exact c
  · exfalso
    have r := R t (by omega)
    have := F.2.2 (t - P) (by omega) (by omega)
    have := F.2.1
    omega
theorem least_high {h : Int → Int} {N P D lo t : Int} (R : Rep h N P D) (hP : 0 < P) (hlo : lo ≤ N) (hD : 1 ≤ D) (k : Nat) (hk : 1 ≤ h N + k) (F : LeastR h lo (some t)) : t ≤ N + k * P := by
  by_cases c : t ≤ N + k * P
  · exact c
  · exfalso
    have r := R.at_ hP (show N - P < N by omega) k
    have k2 := Int.mul_le_mul_of_nonneg_left hD (show (0 : Int) ≤ k by omega)
    have k3 := Int.mul_nonneg (show (0 : Int) ≤ k by omega) (show (0 : Int) ≤ P by omega)
    have := F.2.2 (N + k * P) (by omega) (by omega)
    omega
/-- the sum of some curves that are later -/
structure RowD where
  xs : List Int
  p : Int
  g : Int
  k : Nat
def rowF (r : RowD) (t : Int) : Int := laterF (cvAt r.xs r.p r.g) r.k t
def sumF : List RowD → Int → Int
  | [], _ => 0
  | r :: rs, t => rowF r t + sumF rs t
def dozM : List RowD → Int
  | [] => 0
  | r :: rs => r.g * (12 / r.p) + dozM rs
structure RowD.Ok (r : RowD) : Prop where
  p0 : 0 < r.p
  pn : r.p ≤ r.xs.length
  dv : r.p ∣ 12
theorem sum_rep : ∀ {rs : List RowD} {N : Int}, (∀ r ∈ rs, r.Ok) → (∀ r ∈ rs, (r.xs.length : Int) + r.k + 12 ≤ N) → Rep (sumF rs) N 12 (dozM rs)
  | [], N, _, _ => fun t _ => by simp [sumF, dozM]
  | r :: rs, N, h, hN => by
    have o := h r (List.mem_cons_self ..)
    have b := hN r (List.mem_cons_self ..)
    have R1 := (later_rep (n := (r.k : Int)) (Rep.cvAt (g := r.g) o.p0 o.pn) o.p0 o.pn (by omega) cvAt_zero).mul (N := N) o.p0 o.dv (by decide) (by have := o.p0; omega)
    exact R1.add (sum_rep (fun x hx => h x (List.mem_cons_of_mem _ hx)) (fun x hx => hN x (List.mem_cons_of_mem _ hx)))
end VM

/-! for i, x in enumerate(xs, start=k) -/
namespace VE
open PySem PySem.Spec PyProof.Rows L2
/-- k, k + 1, .. with the list at a (n items, which the loop leaves there), in new pairs -/
def Itk (K : PySem.W.Frag) (a : Addr) (n : Nat) (k : Int) : It :=
  ⟨fun i H => i < n ∧ ∃ xs : List V, SqL K H a xs ∧ xs.length = n, fun i H v H' => ∃ T x, v = .ref T ∧ H T = none ∧ H' = upd H T (.tup [.int (k + (i : Nat)), x]) ∧ ∀ xs, SqL K H a xs → xs[i]? = some x,
    fun i H => n ≤ i ∧ ∃ xs : List V, SqL K H a xs ∧ xs.length = n⟩
theorem turn_enumK {P : Program} {w : World} {K : PySem.W.Frag} {elts : List Expr} {kk : Nat} {tpos : Pos} (a e it : Addr) (n : Nat) (k : Int) (hai : a ≠ it) (hei : e ≠ it) (hea : e ≠ a) :
    Turn P w K (.Tuple elts kk tpos) (Itk K a n k) [e, it] e (fun i h => (∃ old, IsEnum h e it (k + (i : Nat)) old) ∧ i ≤ n ∧ h.IsListIter it a i) where
  mem := by simp
  obj := fun i h st b hb => by
    obtain ⟨⟨old, he⟩, _, o, ho, hc, hd⟩ := st
    have e' : b = e ∨ b = it := by simpa using hb
    rcases e' with z | z
    · rw [z]; exact ⟨_, he, fun v q => nomatch q⟩
    · rw [z]; exact ⟨o, ho, fun v q => by rw [hd] at q; cases q⟩
  keep := fun i h h' st kp => let ⟨⟨old, he⟩, hn, hi⟩ := st; ⟨⟨old, kp e (by simp) _ he⟩, hn, hi.at fun o q => kp it (by simp) o q⟩
  item := by
    intro X hP hw hK hc i pins s σ H E I hf st hg
    subst hP hw hK
    obtain ⟨⟨old, he⟩, hin, hit⟩ := st
    obtain ⟨hlt, xs, hq, hl⟩ := hg
    have hx : xs[i]? = some (xs[i]'(by omega)) := List.getElem?_eq_getElem (by omega)
    obtain ⟨its, rv, p, hz⟩ := I.list hq
    have hh : X.A.in1.handled = none := I.ok.hd hc
    have hel : e < s.heap.objs.size := Heap.lt_size he
    have hil : it < s.heap.objs.size := by obtain ⟨_, q, _⟩ := hit; exact Heap.lt_size q
    obtain ⟨u', hu', ru⟩ := rv.get hx
    have hn : its.toArray.size = n := by rw [List.size_toArray, ← rv.length]; exact hl
    have D := Draws.list (prog := X.prog) (w := X.w) (A := X.A.in1) hh it a hai its.toArray
    rw [hn] at D
    refine wpAny_pyNext_enum_itemC D he ⟨hit, p.isList⟩ hlt hei (by simp [hei, hea]) fun u h' tk hP ho hs' hT hsz hkp => ?_
    obtain ⟨hit', _⟩ := hs'
    have hP' : its[i]? = some u := by simpa using hP
    have euu : u' = u := by rw [hP'] at hu'; exact (Option.some.inj hu').symm
    subst euu
    refine ⟨_, rfl, wpAny_letOwnedTupleGo_enum (s := { s with heap := h', toks := tk + 1 }) ho fun h'' he' sb => ?_⟩
    have hT2 : h''.get? s.heap.objs.size = some { cls := .type "tuple", data := .seq #[.int (k + (i : Nat)) tk, u'] } := (sb.2 _ (Nat.ne_of_gt hel)).trans hT
    have new : ObjOk X.prog X.w (upd H s.heap.objs.size (.tup [.int (k + (i : Nat)), xs[i]'(by omega)])) h'' s.heap.objs.size (.tup [.int (k + (i : Nat)), xs[i]'(by omega)]) :=
      ⟨by show 2 ≤ sizeLine; decide, [.int (k + (i : Nat)) tk, u'], .cons ⟨_, rfl⟩ (.cons ru .nil), ⟨_, hT2, rfl, _, rfl⟩⟩
    have I1 : Inv X pins σ (upd H s.heap.objs.size (.tup [.int (k + (i : Nat)), xs[i]'(by omega)])) { s with heap := h'', toks := tk + 1 } :=
      I.turnedNew (ch := [e, it]) (fun b ob hb q => (sb.2 b (fun z => hb (by simp [z]))).trans (hkp b ob (fun z => hb (by simp [z])) (fun z => hb (by simp [z])) q)) hf (Nat.le_refl _) new
    refine ⟨.ref s.heap.objs.size, _, I1, rfl, ⟨_, _, rfl, I.hok.fresh (Nat.le_refl _), rfl, fun ys hy => by rw [I.list_inj hy hq]; exact hx⟩, ⟨⟨u', ?_⟩, hlt, hit'.at fun o q => (sb.2 it (Ne.symm hei)).trans q⟩, fun b hb => ?_⟩
    · have e1 : k + ((i + 1 : Nat) : Int) = k + (i : Int) + 1 := by omega
      rw [e1]; exact he'
    · have hb' : b < s.heap.objs.size := by
        have e' : b = e ∨ b = it := by simpa using hb
        rcases e' with z | z
        · rw [z]; exact hel
        · rw [z]; exact hil
      rw [upd_ne (Nat.ne_of_lt hb')]
      exact (hf b hb).1
  done := by
    intro X hP hw hK hc i pins s σ H E I hf st hg
    subst hP hw hK
    obtain ⟨⟨old, he⟩, hin, hit⟩ := st
    obtain ⟨hge, xs, hq, hl⟩ := hg
    obtain ⟨its, rv, p, hz⟩ := I.list hq
    have hn : its.toArray.size = n := by rw [List.size_toArray, ← rv.length]; exact hl
    have hh : X.A.in1.handled = none := I.ok.hd hc
    obtain ⟨f0, f1, f2, f3, f4, f5⟩ := hf it (by simp)
    have D := Draws.list (prog := X.prog) (w := X.w) (A := X.A.in1) hh it a hai its.toArray
    rw [hn] at D
    have ei : i = n := by omega
    subst ei
    exact wpAny_pyNext_enum_endD D he ⟨hit, p.isList⟩ fun h' eb => ⟨rfl, I.turned (t' := s.toks) (fun b o hb q => eb b o hb q) f0 f1 f3 f4 f5⟩
  self := fun A i s Q E st h => let ⟨⟨_, he⟩, _⟩ := st; wpAny_pyIter_enum he h
theorem walk_enumK {K : PySem.W.Frag} {a : Addr} {xs : List V} {k : Int} : Walk (Itk K a xs.length k) xs.length (fun H => SqL K H a xs) (YPair (fun i => some (.int (k + (i : Nat)))) (fun i => xs[i]?)) := by
  refine ⟨fun i _ hi q => ⟨hi, xs, q, rfl⟩, fun _ q => ⟨Nat.le_refl _, xs, q, rfl⟩, fun i H v H' _ q y => ?_⟩
  obtain ⟨T, x, h1, h2, h3, h4⟩ := y
  exact ⟨T, .int (k + (i : Nat)), x, h1, h2, h3, rfl, h4 xs q⟩
def iEnumK (K : PySem.W.Frag) (ta : TA) (k : Int) : TI := fun σ H R => ta σ H fun vs H1 => ∃ (a : Addr) (xs : List V), vs = [.ref a] ∧ SqL K H1 a xs ∧ R (Itk K a xs.length k) H1
theorem pi_enumK {X : Cx} {e : Expr} {ta : TA} {p pos kp jp tpos : Pos} {j : Nat} {k : Int} {elts : List Expr} {kk : Nat} (hk0 : -(2 ^ 63) ≤ k) (hk1 : k < 2 ^ 63) (hg : Gl X "enumerate") (hm : X.mg "enumerate" = none) (ha : PA X [e] ta)
    (hs : starEach [e] X.env = (false, eval e X.env) :: starEach [] X.env := by rfl)
    (hst : ∀ q, (backTo q (starEach [e] X.env)).any (·.1) = false := by exact fun _ => rfl) :
    PI X (.Tuple elts kk tpos) (.Call (.Name "enumerate" p) [e] [⟨some "start", .Constant (.int k) j jp, kp⟩] pos) (iEnumK X.K ta k) := by
  refine ⟨fun pins s σ H R I h => ?_⟩
  refine Call_kws (ld_blt I hg hm boot_enumerate (callWith_typeKw rfl ?_ (by rw [hst]; rfl) hs))
  refine thn (ha.run pos pins s σ H _ I h) fun us s1 ⟨vs, H1, I1, r1, q1⟩ => ?_
  obtain ⟨a, xs, ex, hq, q⟩ := q1
  subst ex
  cases r1 with
  | cons r rr =>
    cases rr
    cases r
    obtain ⟨its, rv, p', hz⟩ := I1.list hq
    have hal : a < s1.heap.objs.size := by obtain ⟨_, _, z, _⟩ := p'; exact Heap.lt_size z
    refine kws_cons (wpAny_Constant_int (kws_nil ?_))
    refine enum_begins_start (begins_list a its.toArray) p'.isList hk0 hk1 fun h' he hit hsz hkp => wpAny_pyIter_enum he ?_
    have I2 : Inv X pins σ H1 { s1 with heap := h', toks := s1.toks + 1 } := I1.kept hkp
    refine ⟨s1.heap.objs.size + 1, [s1.heap.objs.size + 1, s1.heap.objs.size], _, _, H1, rfl, I2, turn_enumK a (s1.heap.objs.size + 1) s1.heap.objs.size xs.length k (Nat.ne_of_lt hal) (Nat.succ_ne_self _) (Nat.ne_of_gt (Nat.lt_succ_of_lt hal)), ⟨⟨.none, ?_⟩, Nat.zero_le _, ⟨_, hit, rfl, rfl⟩⟩, fun b hb => ?_, q⟩
    · rw [show k + ((0 : Nat) : Int) = k by omega]; exact he
    · have e' : b = s1.heap.objs.size + 1 ∨ b = s1.heap.objs.size := by simpa using hb
      have hle : s1.heap.objs.size ≤ b := by
        rcases e' with z | z
        · rw [z]; exact Nat.le_add_right _ _
        · rw [z]; exact Nat.le_refl _
      exact I1.fpOk hle (I1.hok.fresh hle)
end VE

/-! Curves with the same values have the same form. -/
namespace VM
theorem Rep.congr {f h : Int → Int} {n p g : Int} (e : ∀ t : Int, 0 ≤ t → f t = h t) (hp : 0 < p) (hpn : p ≤ n) (R : Rep f n p g) : Rep h n p g := fun t ht => by
  rw [← e t (by omega), ← e (t - p) (by omega)]; exact R t ht
theorem Rep.weak {f : Int → Int} {n m p g : Int} (R : Rep f n p g) (h : n ≤ m) : Rep f m p g := fun t ht => R t (by omega)
/-- from somewhere on each d further lengths add the same -/
def Per (f : Int → Int) (d : Nat) : Prop := 0 < d ∧ ∃ N s : Int, Rep f N d s
theorem rep_gain {f : Int → Int} {n m p g e : Int} (R : Rep f n p g) (S : Rep f m p e) : g = e := by
  by_cases c : n ≤ m
  · have a := R (m + 1) (by omega)
    have b := S (m + 1) (by omega)
    omega
  · have a := R (n + 1) (by omega)
    have b := S (n + 1) (by omega)
    omega
/-- the least one divides each -/
theorem per_dvd' {f : Int → Int} {d : Nat} (D : Per f d) (no : ∀ c, Per f c → d ≤ c) {p : Nat} (P : Per f p) : d ∣ p := by
  by_cases z : p % d = 0
  · exact Nat.dvd_of_mod_eq_zero z
  exfalso
  obtain ⟨d0, N, s, R⟩ := D
  obtain ⟨p0, M, g, S⟩ := P
  have lt := Nat.mod_lt p d0
  have eq := Nat.div_add_mod p d
  have hc : Per f (p % d) := by
    refine ⟨by omega, max (N + (p / d : Nat) * (d : Int) + p) M, g - (p / d : Nat) * s, fun t ht => ?_⟩
    have a := S t (by omega)
    have b := R.times (by omega) (p / d) (t - ((p % d : Nat) : Int)) (by omega)
    have e2 : ((p / d : Nat) : Int) * (d : Int) + ((p % d : Nat) : Int) = (p : Int) := by
      have : d * (p / d) + p % d = p := eq
      rw [Nat.mul_comm] at this
      exact_mod_cast this
    rw [show t - ((p % d : Nat) : Int) - ((p / d : Nat) : Int) * (d : Int) = t - p by omega] at b
    omega
  have := no _ hc
  omega
theorem steps_of {f : Int → Int} {n p d s : Int} (h : ∀ t : Int, n < t → t ≤ n + p → f t = f (t - d) + s) : stepsEq f n p d = true := by
  unfold stepsEq
  rw [List.all_eq_true]
  intro i hi
  have hi := List.mem_range.mp hi
  have a := h (n + 1 + i) (by omega) (by omega)
  have b := h (n + 1) (by omega) (by omega)
  exact decide_eq_true (by omega)
/-- what holds from somewhere on holds behind n -/
theorem per_now {f : Int → Int} {n p g N d s : Int} (R : Rep f n p g) (hp : 0 < p) (S : Rep f N d s) (hd : 0 < d) (hdp : d ≤ p) : Rep f n d s := by
  intro t ht
  obtain ⟨k, hk⟩ : ∃ k : Nat, N < t + (k : Int) * p := by
    refine ⟨(N - t + 1).toNat, ?_⟩
    have := Int.mul_le_mul_of_nonneg_left (show (1 : Int) ≤ p by omega) (show (0 : Int) ≤ ((N - t + 1).toNat : Int) by omega)
    omega
  have a := R.times hp k (t + k * p) (by omega)
  have b := R.times hp k (t - d + k * p) (by omega)
  have c := S (t + k * p) hk
  rw [show t + (k : Int) * p - k * p = t by omega] at a
  rw [show t - d + (k : Int) * p - k * p = t - d by omega] at b
  rw [show t + (k : Int) * p - d = t - d + k * p by omega] at c
  omega
theorem leastFrom_is {f : Int → Int} {n p g : Int} {d : Nat} (R : Rep f n p g) (hp : 0 < p) (D : Per f d) (no : ∀ c, Per f c → d ≤ c) (dv : (d : Int) ∣ p) : ∀ (k : Nat) (c : Int), 0 < c → c + k = p → c ≤ d → (leastFrom f n p k c).1 = d
  | 0, c, hc, e, hcd => by
    have := Int.le_of_dvd hp dv
    unfold leastFrom
    show p = d
    omega
  | k + 1, c, hc, e, hcd => by
    have dp := Int.le_of_dvd hp dv
    unfold leastFrom
    by_cases z : p % c = 0 ∧ stepsEq f n p c = true
    · rw [if_pos z]
      have pc : Per f c.toNat := ⟨by omega, n, _, by rw [Int.toNat_of_nonneg (by omega)]; exact R.of_steps hc (by omega) z.2⟩
      have := no _ pc
      show c = d
      omega
    · rw [if_neg z]
      refine leastFrom_is R hp D no dv k (c + 1) (by omega) (by omega) ?_
      by_cases y : c = d
      · exfalso
        apply z
        subst y
        obtain ⟨d0, N, s, S⟩ := D
        exact ⟨Int.emod_eq_zero_of_dvd dv, steps_of fun t h1 h2 => per_now R hp S (by omega) dp t h1⟩
      · omega
theorem shr_min {f : Int → Int} {d s : Int} : ∀ m : Nat, shr f d s m = 0 ∨ (shr f d s m : Int) ≤ d ∨ f (shr f d s m) ≠ f ((shr f d s m : Nat) - d) + s
  | 0 => .inl rfl
  | m + 1 => by
    unfold shr
    by_cases c : d < (m + 1 : Nat) ∧ f ((m + 1 : Nat) : Int) = f ((m + 1 : Nat) - d) + s
    · rw [if_pos c]; exact shr_min m
    · rw [if_neg c]
      refine .inr ?_
      by_cases z : ((m + 1 : Nat) : Int) ≤ d
      · exact .inl z
      · exact .inr fun y => c ⟨by omega, y⟩
theorem shr_uniq {f : Int → Int} {d s : Int} (hd : 0 < d) {m k : Nat} (h1 : d ≤ m) (h2 : d ≤ k) (R : Rep f m d s) (S : Rep f k d s) : shr f d s m = shr f d s k := by
  obtain ⟨a1, a2, a3⟩ := shr_spec hd m h1 R
  obtain ⟨b1, b2, b3⟩ := shr_spec hd k h2 S
  have m1 := shr_min (f := f) (d := d) (s := s) m
  have m2 := shr_min (f := f) (d := d) (s := s) k
  by_cases c : shr f d s m < shr f d s k
  · exfalso
    rcases m2 with h | h | h
    · omega
    · omega
    · exact h (a3 _ (by omega))
  · by_cases c2 : shr f d s k < shr f d s m
    · exfalso
      rcases m1 with h | h | h
      · omega
      · omega
      · exact h (b3 _ (by omega))
    · omega
theorem shr_cong {f h : Int → Int} {d s : Int} (e : ∀ t : Int, 0 ≤ t → f t = h t) : ∀ m : Nat, shr f d s m = shr h d s m
  | 0 => rfl
  | m + 1 => by
    unfold shr
    by_cases c : d < (m + 1 : Nat)
    · rw [e _ (by omega), e ((m + 1 : Nat) - d) (by omega), shr_cong e m]
    · rw [if_neg (fun z => c z.1), if_neg (fun z => c z.1)]
/-- curves with the same values have the same form -/
theorem form_unique {vs ws : List Int} {p g q e : Int} (hp : 0 < p) (hpn : p ≤ vs.length) (hq : 0 < q) (hqn : q ≤ ws.length) (eq : ∀ t : Int, 0 ≤ t → cvAt vs p g t = cvAt ws q e t) :
    formP vs p g = formP ws q e ∧ formV vs p g = formV ws q e := by
  have R : Rep (cvAt vs p g) vs.length p g := Rep.cvAt hp hpn
  have S : Rep (cvAt ws q e) ws.length q e := Rep.cvAt hq hqn
  have S' : Rep (cvAt vs p g) ws.length q e := S.congr (fun t ht => (eq t ht).symm) hq hqn
  have Pp : Per (cvAt vs p g) p.toNat := ⟨by omega, _, _, by rw [Int.toNat_of_nonneg (by omega)]; exact R⟩
  have Pq : Per (cvAt vs p g) q.toNat := ⟨by omega, _, _, by rw [Int.toNat_of_nonneg (by omega)]; exact S'⟩
  obtain ⟨d, D, no⟩ := least_nat ⟨p.toNat, Pp⟩
  have no' : ∀ c, Per (cvAt vs p g) c → d ≤ c := fun c hc => by
    by_cases z : d ≤ c
    · exact z
    · exact absurd hc (no c (by omega))
  have toI : ∀ {x : Int}, 0 < x → d ∣ x.toNat → (d : Int) ∣ x := fun {x} hx h => by
    have := Int.natCast_dvd_natCast.mpr h
    rwa [Int.toNat_of_nonneg (by omega)] at this
  have dvp := toI hp (per_dvd' D no' Pp)
  have dvq := toI hq (per_dvd' D no' Pq)
  have D' : Per (cvAt ws q e) d := by
    obtain ⟨d0, N, s, T⟩ := D
    have dq := Int.le_of_dvd hq dvq
    exact ⟨d0, ws.length, s, (per_now S' hq T (by omega) dq).congr eq (by omega) (by omega)⟩
  have no2 : ∀ c, Per (cvAt ws q e) c → d ≤ c := fun c hc => by
    obtain ⟨c0, N, s, T⟩ := hc
    refine no' c ⟨c0, max N c, s, Rep.congr (fun t ht => (eq t ht).symm) (by omega) (by omega) (T.weak (by omega))⟩
  have e1 : (formP vs p g).1 = d := leastFrom_is R hp D no' dvp _ 1 (by omega) (by omega) (by have := D.1; omega)
  have e2 : (formP ws q e).1 = d := leastFrom_is S hq D' no2 dvq _ 1 (by omega) (by omega) (by have := D.1; omega)
  obtain ⟨a1, a2, a3⟩ := leastP_spec R hp
  obtain ⟨b1, b2, b3⟩ := leastP_spec S hq
  have a3 : Rep (cvAt vs p g) vs.length (formP vs p g).1 (formP vs p g).2 := a3
  have b3 : Rep (cvAt ws q e) ws.length (formP ws q e).1 (formP ws q e).2 := b3
  have a2 : (formP vs p g).1 ≤ p := a2
  have b2 : (formP ws q e).1 ≤ q := b2
  have a1 : 0 < (formP vs p g).1 := a1
  have b1 : 0 < (formP ws q e).1 := b1
  have b3' : Rep (cvAt vs p g) ws.length (formP ws q e).1 (formP ws q e).2 := b3.congr (fun t ht => (eq t ht).symm) b1 (by omega)
  have ep : (formP vs p g).1 = (formP ws q e).1 := by rw [e1, e2]
  rw [← ep] at b3' b2
  have eg : (formP vs p g).2 = (formP ws q e).2 := rep_gain a3 b3'
  rw [← eg] at b3'
  have E : formP vs p g = formP ws q e := Prod.ext ep eg
  refine ⟨E, ?_⟩
  unfold formV formM
  rw [← E, ← shr_cong eq ws.length, shr_uniq a1 (by omega) (by omega) a3 b3']
  exact vals_congr eq
end VM

/-! str(x) of an object with an own __str__ -/
namespace VO
open PySem PySem.Spec PyProof.Rows L2
section
variable {X : Cx} {CX : CXT} {k : Nat} {f C : Addr} {fd : FuncData} {ps : List Str} {sp : Sp} {E : XK}
theorem call_strOwn (F : FnOk X.prog X.w X.K X.mg X.base CX k f fd ps sp) (hr : Room (k + 2) X.A) (o : Meth X.K C "__str__" f) (hb : Binds X.K fd ps []) (hx : Passes CX X E) :
    CallR X (.type "str") (VN.rReprOwn C sp E) := by
  intro pins s σ H xs us Q I r h
  obtain ⟨a, dx, fs, rfl, ea, hsp⟩ := h
  obtain ⟨u, rfl, ru⟩ := vals1 r
  obtain rfl : u = Value.ref a := ru
  obtain ⟨mA, J, _⟩ := ins_get I.hok ea
  obtain ⟨od, J, _⟩ := J.look
  refine PySem.W.kso_call hr.in1.in1.units0 I.kIn J o.at_ o.fn ?_
  have hl := F.len _ _ _ _ hsp
  refine wpAny_call (codeAny_mono (F.run X.A.in1.in1 X.stack s H ⟨[.ref a], []⟩ [.ref a] [.ref a] _ E hr.in1.in1 I.env0.in1.in1 (by
    have := hb s [.ref a] I.kIn (by simpa using hl)
    simpa using this) (.cons rfl .nil) hsp) fun r s' hq => ?_)
  cases r with
  | error e => exact hx pins σ H s e s' I hq
  | ok fl =>
    cases fl with
    | ret w =>
      obtain ⟨z, H', I', rz, y, ez, q⟩ := I.after hq
      subst ez
      obtain ⟨t, rfl⟩ := rz
      exact ⟨.str y, H', I', ⟨t, rfl⟩, q⟩
    | next => exact False.elim hq
    | brk => exact False.elim hq
    | cont => exact False.elim hq
end
end VO

/-! Texts made of plain texts: how long their repr may be. -/
namespace VT
open PySem PySem.Spec PyProof.Rows L2
def Asc (x : Str) : Prop := ∀ c ∈ x.cps.toList, c < 16 ^ 8
theorem Asc.app {a b : Str} (h : Asc a) (k : Asc b) : Asc (a ++ b) := fun c hc => by
  rw [PySem.Str.cps_append, Array.toList_append, List.mem_append] at hc
  exact hc.elim (h c) (k c)
theorem Asc.of (s : String) : Asc (Str.ofString s) := fun c hc => by
  rw [PySem.Str.ofString_eq_toList] at hc
  simp only [List.mem_map] at hc
  obtain ⟨y, _, rfl⟩ := hc
  have h : y.val.toNat < 1114112 := by
    rcases y.valid with h | ⟨_, h⟩
    · exact Nat.lt_trans h (by decide)
    · exact h
  exact Nat.lt_of_lt_of_le h (by decide)
theorem Asc.int (i : Int) : Asc ((toString i : String) : Str) := Asc.of _
theorem Asc.from_ : ∀ (ts : List Str) (k : Nat) (acc : Str), Asc acc → (∀ t ∈ ts, Asc t) → Asc (textFrom k acc ts)
  | [], k, acc, h, _ => h
  | t :: ts, k, acc, h, ht => by
    unfold textFrom
    refine Asc.from_ ts _ _ ?_ fun x hx => ht x (List.mem_cons_of_mem _ hx)
    exact (h.app (Asc.of _)).app (ht t (List.mem_cons_self ..))
theorem Asc.list {ts : List Str} (h : ∀ t ∈ ts, Asc t) : Asc (listText ts) := (Asc.from_ ts 0 "[" (Asc.of _) h).app (Asc.of _)
theorem Asc.sjoin {sep : Str} (hs : Asc sep) : ∀ {l : List Str}, (∀ t ∈ l, Asc t) → Asc (Str.join sep l)
  | [], _ => Asc.of ""
  | [x], h => h x (by simp)
  | x :: y :: l, h => by
    show Asc (x ++ sep ++ Str.join sep (y :: l))
    exact ((h x (by simp)).app hs).app (Asc.sjoin hs fun t ht => h t (List.mem_cons_of_mem _ ht))
theorem Asc.join {sep : Str} (hs : Asc sep) {l : List Str} (h : ∀ t ∈ l, Asc t) : Asc (Txt.join sep l) := by
  cases l with
  | nil => exact Asc.of ""
  | cons a r =>
    have e : Txt.join sep (a :: r) = Str.join sep (a :: r) := StrLaws.glued_eq_join ..
    rw [e]
    exact Asc.sjoin hs h
theorem Asc.ints (us : List Int) : Asc (PyData.shown (.list (us.map PyData.int))) := by
  simp only [PyData.shown]
  refine Asc.list fun t ht => ?_
  have e : ∀ us : List Int, PyData.shownAll (us.map PyData.int) = us.map fun i => (toString i : Str) := by
    intro us
    induction us with
    | nil => rfl
    | cons u us ih => simp only [List.map_cons, PyData.shownAll, ih, PyData.shown]
  rw [e] at ht
  obtain ⟨u, _, rfl⟩ := List.mem_map.mp ht
  exact Asc.int u
theorem Sz.str {x : Str} {n : Nat} (h : Asc x) (hn : x.length ≤ n) : VR.Sz 0 (10 * n + 2) (.str x) :=
  ⟨rfl, Nat.zero_le _, by
    have := StrLaws.reprText_len x h
    show (reprText x).length ≤ _
    omega⟩
end VT

/-! A method called with keywords alone; further rules. -/
namespace VP
open PySem PySem.Spec PyProof.Rows L2
def tMethKw0 (C : Addr) (m : Str) (j : Nat) (sp : Sp) (gV : List V → List V → List V) (E : XK) (ta : TE) (tk : TA) : TE := fun σ H Q =>
  ta σ H fun x H1 => ∃ a dx fs, x = .ref a ∧ H1 a = some (.ins C dx fs) ∧ fs.lookup m = none ∧ tk σ H1 fun zs H3 => zs.length = j ∧ sp (gV [x] zs) H3 Q E
theorem pe_methKw0 {X : Cx} {CX : CXT} {k : Nat} {f C : Addr} {fd : FuncData} {ps ks : List Str} {sp : Sp} {E : XK} {m : Str} {pos apos : Pos} {o : Expr} {kws : List Keyword} {ta : TE} {tk : TA}
    {g : List Value → List Value → List Value} {gV : List V → List V → List V} {pl : Sem Bool}
    (he : PE X o ta) (c : Cls X.K C) (hm : Meth X.K C m f) (F : FnOk X.prog X.w X.K X.mg X.base CX k f fd ps sp) (hr : Room k X.A)
    (hb : KBn X.K fd ps 1 ks g gV) (hx : Passes CX X E) (hkw : PK X kws tk)
    (hall : (backToKw pos (keywordEach kws X.env)).all (·.1.isSome) = true := by rfl) (hks : (backToKw pos (keywordEach kws X.env)).filterMap (·.1) = ks := by rfl)
    (hpl : ((backTo pos (starEach [] X.env)).any (·.1) || (backToKw pos (keywordEach kws X.env)).any (·.1.isNone)) = false := by rfl)
    (ht : eval (.Call (.Attribute o m apos) [] kws pos) X.env = (do
      let ov ← eval o X.env
      standAt apos.atName
      let (f, first) ← holding [ov] (getMethod ov m pl)
      callWith pos f first (backTo pos (starEach [] X.env)) (backToKw pos (keywordEach kws X.env))) := by rfl) :
    PE X (.Call (.Attribute o m apos) [] kws pos) (tMethKw0 C m ks.length sp gV E ta tk) := by
  constructor
  intro pins s σ H Q I h
  refine PySem.W.methodCall_KW (pl := pl) (thn (he.run pins s σ H _ I h) ?_) ht
  rintro u s1 ⟨x, H1, I1, rx, a, dx, fs, ex, ea, l, q⟩
  subst ex
  obtain rfl : u = Value.ref a := rx
  refine getmeth_ok I1 ea c hm l ?_
  refine PySem.W.callWith_KW0 (first := [.ref a]) (h₀ := X.base) I1.ok.mod.kin hm.kp hall ?_ hpl
  refine thn (hkw.run pos pins s1 σ H1 _ I1 q) ?_
  rintro ws s3 ⟨zs, H3, I3, rz, l2, q3⟩
  refine ⟨I3.kIn, ?_⟩
  rw [hks]
  have r1 : Vals [V.ref a] [Value.ref a] := .cons rfl .nil
  have rel := hb.rel r1 rz
  have bind := hb.to s3 [Value.ref a] ws I3.kIn rfl (rz.length.symm.trans l2)
  show wpAny _ _ (call (.ref f) [Value.ref a] (ks.zip ws)) _ _ _
  refine wpAny_call (codeAny_mono (F.run X.A X.stack s3 H3 ⟨[Value.ref a], ks.zip ws⟩ _ _ Q E hr I3.env0 bind rel q3) ?_)
  intro res s' hq
  match res, hq with
  | .error e, hq => exact hx pins σ H3 s3 e s' I3 hq
  | .ok (.ret u), hq => exact I3.after hq
  | .ok .next, hq => exact False.elim hq
  | .ok .brk, hq => exact False.elim hq
  | .ok .cont, hq => exact False.elim hq
/-- c(e, .., k = v, ..), where the i-th slot holds the class at C -/
def tMakeKL (i : Nat) (C : Addr) (n m : Nat) (sp : Sp) (gV : List V → List V → List V) (E : XK) (t tk : TA) : TE := fun σ H Q => σ[i]? = some (some (.ref C)) ∧ tMakeK C n m sp gV E t tk σ H Q
theorem pe_makeKL {X : Cx} {CX : CXT} {k n i : Nat} {f C : Addr} {fd : FuncData} {ps ks : List Str} {sp : Sp} {E : XK} {x : Str} {p pos : Pos} {e : Expr} {es : List Expr} {kws : List Keyword} {t tk : TA}
    {g : List Value → List Value → List Value} {gV : List V → List V → List V} (M : Mk X.K C f) (F : FnOk X.prog X.w X.K X.mg X.base CX k f fd ps sp) (hr : Room (k + 1) X.A) (hN : X.N[i]? = some x) (hv : Vis X.env.scope x)
    (hb : KBn X.K fd ps (n + 1) ks g gV) (hx : Passes CX X E) (ha : PA X (e :: es) t) (hkw : PK X kws tk)
    (hall : (backToKw pos (keywordEach kws X.env)).all (·.1.isSome) = true := by rfl) (hks : (backToKw pos (keywordEach kws X.env)).filterMap (·.1) = ks := by rfl) (hdb : (x == ("__debug__" : Str)) = false := by decide) (hcd : (x == ("__classdict__" : Str)) = false := by decide)
    (he : starEach (e :: es) X.env = (false, eval e X.env) :: starEach es X.env := by rfl) (hpl : ((backTo pos (starEach (e :: es) X.env)).any (·.1) || (backToKw pos (keywordEach kws X.env)).any (·.1.isNone)) = false := by rfl) :
    PE X (.Call (.Name x p) (e :: es) kws pos) (tMakeKL i C n ks.length sp gV E t tk) := by
  refine ⟨fun pins s σ H Q I h => ?_⟩
  obtain ⟨hs, ht⟩ := h
  refine wpAny_Call_Name_kw (thn ((pe_var (pos := p) hN hv hdb hcd).run pins s σ H (fun v H1 => v = .ref C ∧ H1 = H) I ⟨.ref C, hs, rfl, rfl⟩) fun u s1 ⟨v, H1, I1, r1, q1⟩ => ?_)
  obtain ⟨rfl, rfl⟩ := q1
  cases r1
  refine PySem.W.callWith_KW (h₀ := X.base) I.ok.mod.kin M.kp hall (thn (ha.run pos pins s1 σ _ _ I1 ht) fun us s1 ⟨vs, H1, I1, r, q⟩ => ?_) hpl he
  refine thn (hkw.run pos pins s1 σ H1 _ I1 q) fun ws s2 ⟨zs, H2, I2, rz, l1, l2, q2⟩ => ⟨I2.kIn, ?_⟩
  rw [hks]
  exact run_makeK M F hr hb hx I2 r rz l1 l2 q2
/-- a def f(a, *v), no exception leaves it -/
theorem okStar {P : Program} {w : World} {K : PySem.W.Frag} {mg : Str → Option Value} {base : Heap} {x qual p1 pv : Str} {st : Stmt} {f : Addr} {fd : FuncData} {N : List Str} {k : Nat} {sp : Sp} (F : Fun K x qual st f fd) (S : FnScope N [p1, pv] (defScope st))
    (h0 : ∀ kV doc pm an cdv ct a, bindArgs (PySem.W.fnOf x qual (defArgs st) (defBody st) (defScope st) .none kV doc pm an cdv ct) ⟨[a], []⟩ = (newTuple [] >>= fun t => pure [(p1, a), (pv, t)]))
    (h1 : ∀ kV doc pm an cdv ct a r rs, bindArgs (PySem.W.fnOf x qual (defArgs st) (defBody st) (defScope st) .none kV doc pm an cdv ct) ⟨a :: r :: rs, []⟩ = (newTuple (r :: rs) >>= fun t => pure [(p1, a), (pv, t)]))
    (hbody : ∀ (cdv : Value) (A : Around) (outer : List Env) (s : Shared) (H : Hp) (vs : List V) (Q : VK) (E : XK), Room k (A.deeper (envOfC qual (defScope st) s.heap.objs.size f cdv)) → sp vs H Q E →
      ∃ t, PSs (cxOf CX0 P w K mg base N qual (defScope st) f cdv A outer s H E).nox (defBody st) t ∧ t { nx := fun _ H' => Q .non H', rt := Q } (start N vs) H) :
    FnR P w K mg base CX0 (k + 1) f (fun vs H Q E => ∃ a rest, vs = a :: rest ∧ rest.length ≤ sizeLine ∧ ∀ p, H p = Option.none → sp [a, V.ref p] (upd H p (.tup rest)) Q E) := by
  obtain ⟨oc, od, kV, doc, pm, an, cdv, ct, osl, rfl, lk, hcd⟩ := F.ex
  refine (StX.fn_star (ps := [p1]) lk hcd S StX.cxUp_none (fun us rest hl => StX.bind_star1 (B := fun vs => bindArgs _ ⟨vs, []⟩) (fun a => h0 _ _ _ _ _ _ a) (fun a r rs => h1 _ _ _ _ _ _ a r rs) us rest hl) (fun A outer s H vs Q E hr hsp => ?_)).imp fun vs H Q E ⟨a, rest, e, hz, hq⟩ => ⟨[a], rest, e, rfl, hz, hq⟩
  obtain ⟨t, h, q⟩ := hbody cdv A outer s H vs Q E hr hsp
  exact ⟨t, h.nox, q⟩
/-- .. exceptions may leave it -/
theorem okStarX {P : Program} {w : World} {K : PySem.W.Frag} {mg : Str → Option Value} {base : Heap} {x qual p1 pv : Str} {st : Stmt} {f : Addr} {fd : FuncData} {N : List Str} {k : Nat} {sp : Sp} (F : Fun K x qual st f fd) (S : FnScope N [p1, pv] (defScope st))
    (h0 : ∀ kV doc pm an cdv ct a, bindArgs (PySem.W.fnOf x qual (defArgs st) (defBody st) (defScope st) .none kV doc pm an cdv ct) ⟨[a], []⟩ = (newTuple [] >>= fun t => pure [(p1, a), (pv, t)]))
    (h1 : ∀ kV doc pm an cdv ct a r rs, bindArgs (PySem.W.fnOf x qual (defArgs st) (defBody st) (defScope st) .none kV doc pm an cdv ct) ⟨a :: r :: rs, []⟩ = (newTuple (r :: rs) >>= fun t => pure [(p1, a), (pv, t)]))
    (hbody : ∀ (cdv : Value) (A : Around) (outer : List Env) (s : Shared) (H : Hp) (vs : List V) (Q : VK) (E : XK), Room k (A.deeper (envOfC qual (defScope st) s.heap.objs.size f cdv)) → sp vs H Q E →
      ∃ t, PSs (cxOf (L2.CX P w) P w K mg base N qual (defScope st) f cdv A outer s H E) (defBody st) t ∧ t { nx := fun _ H' => Q .non H', rt := Q } (start N vs) H) :
    FnR P w K mg base (L2.CX P w) (k + 1) f (fun vs H Q E => ∃ a rest, vs = a :: rest ∧ rest.length ≤ sizeLine ∧ ∀ p, H p = Option.none → sp [a, V.ref p] (upd H p (.tup rest)) Q E) := by
  obtain ⟨oc, od, kV, doc, pm, an, cdv, ct, osl, rfl, lk, hcd⟩ := F.ex
  refine (StX.fn_star (ps := [p1]) lk hcd S StX.cxUp (fun us rest hl => StX.bind_star1 (B := fun vs => bindArgs _ ⟨vs, []⟩) (fun a => h0 _ _ _ _ _ _ a) (fun a r rs => h1 _ _ _ _ _ _ a r rs) us rest hl) (fun A outer s H vs Q E hr hsp => ?_)).imp fun vs H Q E ⟨a, rest, e, hz, hq⟩ => ⟨[a], rest, e, rfl, hz, hq⟩
  exact hbody cdv A outer s H vs Q E hr hsp
theorem pi_listK {X : Cx} {K' : PySem.W.Frag} {tg l : Expr} {tl : TE} (hl : PE X l tl) (hK : X.K = K') : PI X tg l (iList K' tl) := by
  subst hK; exact pi_list hl
theorem pi_tupK {X : Cx} {K' : PySem.W.Frag} {tg l : Expr} {tl : TE} (hl : PE X l tl) (hK : X.K = K') : PI X tg l (iTup K' tl) := by
  subst hK; exact pi_tup hl
/-- C.m(), m a classmethod of the class at C -/
theorem pe_cmeth0 {X : Cx} {CX : CXT} {k : Nat} {C p g : Addr} {mc : Value} {sp : Sp} {E : XK} {o : Expr} {m : Str} {pos apos : Pos} {ta : TE} {pl : Sem Bool} (he : PE X o ta) (r : ClX.CRead X.K C mc) (c : ClX.CMet X.K C mc m p g) (F : FnR X.prog X.w X.K X.mg X.base CX k g sp) (hr : Room k X.A) (hx : Passes CX X E)
    (ht : eval (.Call (.Attribute o m apos) [] [] pos) X.env = (do
      let ov ← eval o X.env
      standAt apos.atName
      let (f, first) ← holding [ov] (getMethod ov m pl)
      callWith pos f first (backTo pos (starEach [] X.env)) (backToKw pos (keywordEach [] X.env))) := by rfl) :
    PE X (.Call (.Attribute o m apos) [] [] pos) (ClX.tCMeth C sp E ta tNil) := by
  refine ⟨fun pins s σ H Q I h => ?_⟩
  refine PySem.W.methodCall_KW (pl := pl) (thn (he.run pins s σ H _ I h) fun u s1 ⟨x, H1, I1, rx, ex, q⟩ => ?_) ht
  subst ex
  obtain rfl : u = Value.ref C := rx
  refine ClX.getmethcm_ok I1 r c fun s2 I2 => ?_
  exact PySem.W.callWith_M0 (first := []) ⟨ClX.pin_at I2, I2.kIn⟩ c.fi (ClX.run_cm (us := []) (vs := []) F hr hx I2 .nil q)
end VP

/-! for i, x in enumerate(t), t a tuple -/
namespace PySem
open Sem (wp)
open AutoSeq1 (wpAny_loadPart')
set_option maxHeartbeats 1000000 in
theorem meets_enumerate_one {v : Value} {o : Obj} {H : Heap → Prop} (B : Begins v o H) :
    Meets (Builtin.«enumerate.__new__» ⟨[.type "enumerate", v], []⟩) (fun _ R s => H s.heap ∧
      R (.ok (.ret (.ref (s.heap.push o).objs.size))) { s with heap := (s.heap.push o).push { cls := .type "enumerate", data := .fields #[.none, .bool false, .ref s.heap.objs.size, rawInt 0, .none, .none] } }) :=
  .of_wp fun prog w A R s h => by
    obtain ⟨hp, g, d, tk, os⟩ := s; obtain ⟨h1, h⟩ := h
    have hsub := sub_enumerate
    have q1 : ∀ {A' : Around} {E : Value → Shared → Prop} {Q : Value → Shared → Prop}, Q (.ref hp.objs.size) ⟨hp.push o, g, d, tk, os⟩ → wpAny (model prog w) A' (pyIter v) Q E ⟨hp, g, d, tk, os⟩ :=
      fun q => B.iter prog w _ _ ⟨hp, g, d, tk, os⟩ _ h1 q
    wp_walk using q1
    refine wpAny_stack_any fun st => wpAny_pure ?_
    split
    · rename_i c _ _ _ _ _
      cases (c == Value.type "enumerate")
      · wp_walk using q1
        exact ⟨_, rfl, h⟩
      · wp_walk using q1
        exact ⟨_, rfl, h⟩
    · wp_walk using q1
      exact ⟨_, rfl, h⟩
theorem call_enumerate_one {prog : Program} {w : World} {A : Around} {E : Value → Shared → Prop} {s : Shared} {v : Value} {o : Obj} {H : Heap → Prop} {Q : Value → Shared → Prop} (B : Begins v o H) (h1 : H s.heap)
    (h : ∀ h', IsEnum h' (s.heap.objs.size + 1) s.heap.objs.size 0 .none → h'.get? s.heap.objs.size = some o → h'.objs.size = s.heap.objs.size + 2 →
      (∀ b o, s.heap.get? b = some o → h'.get? b = some o) → Q (.ref (s.heap.objs.size + 1)) { s with heap := h' }) :
    wpAny (model prog w) A (call (.type "enumerate") [v]) Q E s := by
  refine callType_new F.called_enumerate (by decide) (F.typeCall_enumerate_1 _) (F.newCall_enumerate_1 _) (fun obj => F.args_object_init_2 obj _) F.entry_enumerate_new
    (meets_enumerate_one B) ⟨h1, ?_⟩
  have hz : (s.heap.push o).objs.size = s.heap.objs.size + 1 := Heap.size_push ..
  show _ ∧ _
  rw [hz]
  have he : IsEnum ((s.heap.push o).push { cls := .type "enumerate", data := .fields #[.none, .bool false, .ref s.heap.objs.size, rawInt 0, .none, .none] }) (s.heap.objs.size + 1) s.heap.objs.size 0 .none := by
    have := Heap.get?_push_size (s.heap.push o) (o := { cls := .type "enumerate", data := .fields #[.none, .bool false, .ref s.heap.objs.size, rawInt 0, .none, .none] }) rfl
    rw [hz] at this; exact this
  refine ⟨⟨_, he, rfl⟩, h _ he (Heap.get?_push_of_some _ (Heap.get?_push_size _ B.free)) (by rw [Heap.size_push, hz]) fun b o x => Heap.get?_push_of_some _ (Heap.get?_push_of_some _ x)⟩
end PySem
namespace VE
open PySem PySem.Spec PyProof.Rows L2
/-- k, k + 1, .. with the list at a (n items, which the loop leaves there), in new pairs -/
def Itt_ (K : PySem.W.Frag) (a : Addr) (n : Nat) (k : Int) : It :=
  ⟨fun i H => i < n ∧ ∃ xs : List V, SqT K H a xs ∧ xs.length = n, fun i H v H' => ∃ T x, v = .ref T ∧ H T = none ∧ H' = upd H T (.tup [.int (k + (i : Nat)), x]) ∧ ∀ xs, SqT K H a xs → xs[i]? = some x,
    fun i H => n ≤ i ∧ ∃ xs : List V, SqT K H a xs ∧ xs.length = n⟩
theorem turn_enumT {P : Program} {w : World} {K : PySem.W.Frag} {elts : List Expr} {kk : Nat} {tpos : Pos} (a e it : Addr) (n : Nat) (k : Int) (hai : a ≠ it) (hei : e ≠ it) (hea : e ≠ a) :
    Turn P w K (.Tuple elts kk tpos) (Itt_ K a n k) [e, it] e (fun i h => (∃ old, IsEnum h e it (k + (i : Nat)) old) ∧ i ≤ n ∧ h.IsTupleIter it a i) where
  mem := by simp
  obj := fun i h st b hb => by
    obtain ⟨⟨old, he⟩, _, o, ho, hc, hd⟩ := st
    have e' : b = e ∨ b = it := by simpa using hb
    rcases e' with z | z
    · rw [z]; exact ⟨_, he, fun v q => nomatch q⟩
    · rw [z]; exact ⟨o, ho, fun v q => by rw [hd] at q; cases q⟩
  keep := fun i h h' st kp => let ⟨⟨old, he⟩, hn, hi⟩ := st; ⟨⟨old, kp e (by simp) _ he⟩, hn, hi.at fun o q => kp it (by simp) o q⟩
  item := by
    intro X hP hw hK hc i pins s σ H E I hf st hg
    subst hP hw hK
    obtain ⟨⟨old, he⟩, hin, hit⟩ := st
    obtain ⟨hlt, xs, hq, hl⟩ := hg
    have hx : xs[i]? = some (xs[i]'(by omega)) := List.getElem?_eq_getElem (by omega)
    obtain ⟨its, rv, p, hz⟩ := I.tuple hq
    have hh : X.A.in1.handled = none := I.ok.hd hc
    have hel : e < s.heap.objs.size := Heap.lt_size he
    have hil : it < s.heap.objs.size := by obtain ⟨_, q, _⟩ := hit; exact Heap.lt_size q
    obtain ⟨u', hu', ru⟩ := rv.get hx
    have hn : its.toArray.size = n := by rw [List.size_toArray, ← rv.length]; exact hl
    have D := Draws.tuple (prog := X.prog) (w := X.w) (A := X.A.in1) hh it a hai its.toArray
    rw [hn] at D
    refine wpAny_pyNext_enum_itemC D he ⟨hit, p⟩ hlt hei (by simp [hei, hea]) fun u h' tk hP ho hs' hT hsz hkp => ?_
    obtain ⟨hit', _⟩ := hs'
    have hP' : its[i]? = some u := by simpa using hP
    have euu : u' = u := by rw [hP'] at hu'; exact (Option.some.inj hu').symm
    subst euu
    refine ⟨_, rfl, wpAny_letOwnedTupleGo_enum (s := { s with heap := h', toks := tk + 1 }) ho fun h'' he' sb => ?_⟩
    have hT2 : h''.get? s.heap.objs.size = some { cls := .type "tuple", data := .seq #[.int (k + (i : Nat)) tk, u'] } := (sb.2 _ (Nat.ne_of_gt hel)).trans hT
    have new : ObjOk X.prog X.w (upd H s.heap.objs.size (.tup [.int (k + (i : Nat)), xs[i]'(by omega)])) h'' s.heap.objs.size (.tup [.int (k + (i : Nat)), xs[i]'(by omega)]) :=
      ⟨by show 2 ≤ sizeLine; decide, [.int (k + (i : Nat)) tk, u'], .cons ⟨_, rfl⟩ (.cons ru .nil), ⟨_, hT2, rfl, _, rfl⟩⟩
    have I1 : Inv X pins σ (upd H s.heap.objs.size (.tup [.int (k + (i : Nat)), xs[i]'(by omega)])) { s with heap := h'', toks := tk + 1 } :=
      I.turnedNew (ch := [e, it]) (fun b ob hb q => (sb.2 b (fun z => hb (by simp [z]))).trans (hkp b ob (fun z => hb (by simp [z])) (fun z => hb (by simp [z])) q)) hf (Nat.le_refl _) new
    refine ⟨.ref s.heap.objs.size, _, I1, rfl, ⟨_, _, rfl, I.hok.fresh (Nat.le_refl _), rfl, fun ys hy => by rw [I.tuple_inj hy hq]; exact hx⟩, ⟨⟨u', ?_⟩, hlt, hit'.at fun o q => (sb.2 it (Ne.symm hei)).trans q⟩, fun b hb => ?_⟩
    · have e1 : k + ((i + 1 : Nat) : Int) = k + (i : Int) + 1 := by omega
      rw [e1]; exact he'
    · have hb' : b < s.heap.objs.size := by
        have e' : b = e ∨ b = it := by simpa using hb
        rcases e' with z | z
        · rw [z]; exact hel
        · rw [z]; exact hil
      rw [upd_ne (Nat.ne_of_lt hb')]
      exact (hf b hb).1
  done := by
    intro X hP hw hK hc i pins s σ H E I hf st hg
    subst hP hw hK
    obtain ⟨⟨old, he⟩, hin, hit⟩ := st
    obtain ⟨hge, xs, hq, hl⟩ := hg
    obtain ⟨its, rv, p, hz⟩ := I.tuple hq
    have hn : its.toArray.size = n := by rw [List.size_toArray, ← rv.length]; exact hl
    have hh : X.A.in1.handled = none := I.ok.hd hc
    obtain ⟨f0, f1, f2, f3, f4, f5⟩ := hf it (by simp)
    have D := Draws.tuple (prog := X.prog) (w := X.w) (A := X.A.in1) hh it a hai its.toArray
    rw [hn] at D
    have ei : i = n := by omega
    subst ei
    exact wpAny_pyNext_enum_endD D he ⟨hit, p⟩ fun h' eb => ⟨rfl, I.turned (t' := s.toks) (fun b o hb q => eb b o hb q) f0 f1 f3 f4 f5⟩
  self := fun A i s Q E st h => let ⟨⟨_, he⟩, _⟩ := st; wpAny_pyIter_enum he h
theorem walk_enumT {K : PySem.W.Frag} {a : Addr} {xs : List V} {k : Int} : Walk (Itt_ K a xs.length k) xs.length (fun H => SqT K H a xs) (YPair (fun i => some (.int (k + (i : Nat)))) (fun i => xs[i]?)) := by
  refine ⟨fun i _ hi q => ⟨hi, xs, q, rfl⟩, fun _ q => ⟨Nat.le_refl _, xs, q, rfl⟩, fun i H v H' _ q y => ?_⟩
  obtain ⟨T, x, h1, h2, h3, h4⟩ := y
  exact ⟨T, .int (k + (i : Nat)), x, h1, h2, h3, rfl, h4 xs q⟩
def iEnumT (K : PySem.W.Frag) (ta : TA) (k : Int) : TI := fun σ H R => ta σ H fun vs H1 => ∃ (a : Addr) (xs : List V), vs = [.ref a] ∧ SqT K H1 a xs ∧ R (Itt_ K a xs.length k) H1
theorem pi_enumT {X : Cx} {e : Expr} {ta : TA} {p pos tpos : Pos} {elts : List Expr} {kk : Nat} (hg : Gl X "enumerate") (hm : X.mg "enumerate" = none) (ha : PA X [e] ta) (hs : starEach [e] X.env = [(false, eval e X.env)] := by rfl) :
    PI X (.Tuple elts kk tpos) (.Call (.Name "enumerate" p) [e] [] pos) (iEnumT X.K ta 0) := by
  refine ⟨fun pins s σ H R I h => ?_⟩
  refine Call_ (ld_blt I hg hm boot_enumerate (PyProof.Rows.callWith_type1 (thn (ha.run pos pins s σ H _ I h) fun us s1 ⟨vs, H1, I1, r1, q1⟩ => ?_) hs rfl))
  obtain ⟨a, xs, ex, hq, q⟩ := q1
  subst ex
  cases r1 with
  | cons r rr =>
    cases rr
    cases r
    obtain ⟨its, rv, p', hz⟩ := I1.tuple hq
    have hT : s1.heap.IsTuple a its.toArray := p'
    have hal : a < s1.heap.objs.size := by obtain ⟨_, z, _⟩ := hT; exact Heap.lt_size z
    refine call_enumerate_one (begins_tuple a its.toArray) hT fun h' he hit hsz hkp => wpAny_pyIter_enum he ?_
    have I2 : Inv X pins σ H1 { s1 with heap := h' } := I1.kept (t' := s1.toks) hkp
    refine ⟨s1.heap.objs.size + 1, [s1.heap.objs.size + 1, s1.heap.objs.size], _, _, H1, rfl, I2, turn_enumT a (s1.heap.objs.size + 1) s1.heap.objs.size xs.length 0 (Nat.ne_of_lt hal) (Nat.succ_ne_self _) (Nat.ne_of_gt (Nat.lt_succ_of_lt hal)), ⟨⟨.none, ?_⟩, Nat.zero_le _, ⟨_, hit, rfl, rfl⟩⟩, fun b hb => ?_, q⟩
    · rw [show (0 : Int) + ((0 : Nat) : Int) = 0 by omega]; exact he
    · have e' : b = s1.heap.objs.size + 1 ∨ b = s1.heap.objs.size := by simpa using hb
      have hle : s1.heap.objs.size ≤ b := by
        rcases e' with z | z
        · rw [z]; exact Nat.le_add_right _ _
        · rw [z]; exact Nat.le_refl _
      exact I1.fpOk hle (I1.hok.fresh hle)
end VE

/-! Lines: what pieces of curves allow. -/
namespace VM
structure Pc where
  b : Int
  u : Int
  t : Int
structure Pc.Ok (q : Pc) : Prop where
  b0 : 0 ≤ q.b
  b1 : q.b ≤ 60
  u0 : 0 ≤ q.u
  u1 : q.u ≤ 60
  t_ : q.t = 1 ∨ q.t = 2 ∨ q.t = 3 ∨ q.t = 4 ∨ q.t = 6 ∨ q.t = 12
def Pc.at (q : Pc) (x : Int) : Int := q.b + (q.u * x + q.t - 1) / q.t
/-- units in twelve ticks -/
def Pc.r (q : Pc) : Int := q.u * 12 / q.t
theorem Pc.Ok.r0 {q : Pc} (h : q.Ok) : 0 ≤ q.r ∧ q.r ≤ 720 := by
  have a := h.u0
  have b := h.u1
  unfold Pc.r
  rcases h.t_ with e | e | e | e | e | e <;> rw [e] <;> omega
theorem Pc.Ok.at_eq {q : Pc} (h : q.Ok) (x : Int) : q.at x = q.b + (q.r * x + 11) / 12 := by
  unfold Pc.at Pc.r
  rcases h.t_ with e | e | e | e | e | e <;> rw [e]
  · rw [show q.u * 12 / 1 = 12 * q.u by omega, Int.mul_assoc]; omega
  · rw [show q.u * 12 / 2 = 6 * q.u by omega, Int.mul_assoc]; omega
  · rw [show q.u * 12 / 3 = 4 * q.u by omega, Int.mul_assoc]; omega
  · rw [show q.u * 12 / 4 = 3 * q.u by omega, Int.mul_assoc]; omega
  · rw [show q.u * 12 / 6 = 2 * q.u by omega, Int.mul_assoc]; omega
  · rw [show q.u * 12 / 12 = 1 * q.u by omega, Int.mul_assoc]; omega
/-- rounded down of the negative, subtracted -/
theorem Pc.Ok.at_neg {q : Pc} (h : q.Ok) (x : Int) : q.b - (-q.u * x) / q.t = q.at x := by
  unfold Pc.at
  rw [Int.neg_mul]
  rcases h.t_ with e | e | e | e | e | e <;> rw [e] <;> omega
/-- rounded down, one more for a rest -/
theorem Pc.Ok.at_rest {q : Pc} (h : q.Ok) (x : Int) : q.b + (q.u * x) / q.t + (if (q.u * x) % q.t > 0 then 1 else 0) = q.at x := by
  unfold Pc.at
  rcases h.t_ with e | e | e | e | e | e <;> rw [e] <;> split <;> omega
theorem Pc.Ok.up {q : Pc} (h : q.Ok) (x : Int) : q.at x ≤ q.at (x + 1) := by
  have := h.r0.1
  rw [h.at_eq, h.at_eq, Int.mul_add]
  omega
theorem Pc.Ok.nn {q : Pc} (h : q.Ok) {x : Int} (hx : 0 ≤ x) : 0 ≤ q.at x := by
  have := Int.mul_nonneg h.r0.1 hx
  have := h.b0
  rw [h.at_eq]
  omega
theorem Pc.Ok.hi {q : Pc} (h : q.Ok) {x : Int} (hx : 0 ≤ x) : q.at x ≤ 60 + 60 * x := by
  have := Int.mul_le_mul_of_nonneg_right h.r0.2 hx
  have := h.b1
  rw [h.at_eq]
  omega
theorem Pc.Ok.far {q : Pc} (h : q.Ok) (x : Int) : q.at (x + 12) = q.at x + q.r := by
  rw [h.at_eq, h.at_eq, Int.mul_add]
  omega
def minOf {α : Type} (f : α → Int) : List α → Int
  | [] => 0
  | [a] => f a
  | a :: b :: l => min (f a) (minOf f (b :: l))
theorem minOf_is {α : Type} (f : α → Int) : ∀ {l : List α}, l ≠ [] → (∃ a ∈ l, minOf f l = f a) ∧ ∀ a ∈ l, minOf f l ≤ f a
  | [], h => absurd rfl h
  | [a], _ => ⟨⟨a, List.mem_singleton.mpr rfl, rfl⟩, fun b hb => by rw [List.mem_singleton.mp hb]; exact Int.le_refl _⟩
  | a :: b :: l, _ => by
    obtain ⟨⟨c, hc, e⟩, lo⟩ := minOf_is f (l := b :: l) (by simp)
    have d : minOf f (a :: b :: l) = min (f a) (minOf f (b :: l)) := rfl
    rw [d]
    refine ⟨?_, fun x hx => ?_⟩
    · by_cases z : f a ≤ minOf f (b :: l)
      · exact ⟨a, List.mem_cons_self, by omega⟩
      · exact ⟨c, List.mem_cons_of_mem _ hc, by omega⟩
    · rcases List.mem_cons.mp hx with h | h
      · subst h; omega
      · have := lo x h; omega
theorem minOf_eq {α : Type} {f : α → Int} {l : List α} {m : Int} (hm : m ∈ l.map f) (h : ∀ y ∈ l.map f, m ≤ y) : m = minOf f l := by
  have ne : l ≠ [] := fun z => by subst z; cases hm
  obtain ⟨⟨a, ha, e⟩, lo⟩ := minOf_is f ne
  obtain ⟨c, hc, rfl⟩ := List.mem_map.mp hm
  have := lo c hc
  have := h (f a) (List.mem_map.mpr ⟨a, ha, rfl⟩)
  omega
def maxOf {α : Type} (f : α → Int) (l : List α) : Int := -(minOf (fun a => -(f a)) l)
theorem maxOf_is {α : Type} (f : α → Int) {l : List α} (h : l ≠ []) : (∃ a ∈ l, maxOf f l = f a) ∧ ∀ a ∈ l, f a ≤ maxOf f l := by
  obtain ⟨⟨a, ha, e⟩, lo⟩ := minOf_is (fun a => -(f a)) h
  unfold maxOf
  exact ⟨⟨a, ha, by omega⟩, fun c hc => by have := lo c hc; omega⟩
theorem maxOf_eq {α : Type} {f : α → Int} {l : List α} {m : Int} (hm : m ∈ l.map f) (h : ∀ y ∈ l.map f, y ≤ m) : m = maxOf f l := by
  have ne : l ≠ [] := fun z => by subst z; cases hm
  obtain ⟨⟨a, ha, e⟩, lo⟩ := maxOf_is f ne
  obtain ⟨c, hc, rfl⟩ := List.mem_map.mp hm
  have := lo c hc
  have := h (f a) (List.mem_map.mpr ⟨a, ha, rfl⟩)
  omega
/-- the least of the lines -/
def lnF (qs : List Pc) (x : Int) : Int := if x = 0 then 0 else minOf (fun q => q.at x) qs
theorem lnF_pos {qs : List Pc} {x : Int} (h : 0 < x) : lnF qs x = minOf (fun q => q.at x) qs := by unfold lnF; rw [if_neg (by omega)]
theorem lnF_zero {qs : List Pc} : lnF qs 0 = 0 := by unfold lnF; rw [if_pos rfl]
/-- how many values are written, and the gain in twelve ticks -/
def lnN (qs : List Pc) : Int := 12 * (maxOf Pc.b qs + 2)
def lnG (qs : List Pc) : Int := minOf Pc.r qs
theorem lnN_b {qs : List Pc} (ne : qs ≠ []) (ok : ∀ q ∈ qs, q.Ok) : 24 ≤ lnN qs ∧ lnN qs ≤ 744 := by
  obtain ⟨⟨a, ha, e⟩, _⟩ := maxOf_is Pc.b ne
  have := (ok a ha).b0
  have := (ok a ha).b1
  unfold lnN
  omega
theorem lnG_b {qs : List Pc} (ne : qs ≠ []) (ok : ∀ q ∈ qs, q.Ok) : 0 ≤ lnG qs ∧ lnG qs ≤ 720 := by
  obtain ⟨⟨a, ha, e⟩, _⟩ := minOf_is Pc.r ne
  have := (ok a ha).r0
  unfold lnG
  omega
theorem ln_rep {qs : List Pc} (ne : qs ≠ []) (ok : ∀ q ∈ qs, q.Ok) : Rep (lnF qs) (lnN qs) 12 (lnG qs) := fun t ht => by
  have nb := lnN_b ne ok
  obtain ⟨⟨q0, h0, e0⟩, l0⟩ := minOf_is Pc.r ne
  obtain ⟨_, lb⟩ := maxOf_is Pc.b ne
  have hN : lnN qs = 12 * (maxOf Pc.b qs + 2) := rfl
  obtain ⟨s, rfl⟩ : ∃ s, t = s + 12 := ⟨t - 12, by omega⟩
  rw [show s + 12 - 12 = s by omega, lnF_pos (by omega), lnF_pos (by omega)]
  obtain ⟨⟨q1, h1, e1⟩, l1⟩ := minOf_is (fun q : Pc => q.at (s + 12)) ne
  obtain ⟨⟨q2, h2, e2⟩, l2⟩ := minOf_is (fun q : Pc => q.at s) ne
  show _ = _ + minOf Pc.r qs
  have r2 : q2.r = q0.r := by
    have a := l0 q2 h2
    rw [e0] at a
    by_cases z : q2.r = q0.r
    · exact z
    · exfalso
      have m := Int.mul_le_mul_of_nonneg_right (show q0.r + 1 ≤ q2.r by omega) (show 0 ≤ s by omega)
      rw [Int.add_mul, Int.one_mul] at m
      have c := l2 q0 h0
      rw [e2] at c
      have c : q2.at s ≤ q0.at s := c
      rw [(ok q2 h2).at_eq, (ok q0 h0).at_eq] at c
      have := (ok q2 h2).b0
      have := lb q0 h0
      omega
  have f1 := (ok q1 h1).far s
  have f2 := (ok q2 h2).far s
  have c1 := l1 q2 h2
  have c2 := l2 q1 h1
  have c3 := l0 q1 h1
  have c1 : minOf (fun q : Pc => q.at (s + 12)) qs ≤ q2.at (s + 12) := c1
  have c2 : minOf (fun q : Pc => q.at s) qs ≤ q1.at s := c2
  have e1 : minOf (fun q : Pc => q.at (s + 12)) qs = q1.at (s + 12) := e1
  have e2 : minOf (fun q : Pc => q.at s) qs = q2.at s := e2
  omega
theorem ln_up {qs : List Pc} (ne : qs ≠ []) (ok : ∀ q ∈ qs, q.Ok) (x : Int) (hx : 0 ≤ x) : lnF qs x ≤ lnF qs (x + 1) := by
  obtain ⟨⟨q1, h1, e1⟩, l1⟩ := minOf_is (fun q : Pc => q.at (x + 1)) ne
  rw [lnF_pos (show 0 < x + 1 by omega), e1]
  have u := (ok q1 h1).up x
  by_cases z : x = 0
  · subst z
    rw [lnF_zero]
    exact (ok q1 h1).nn (by omega)
  · rw [lnF_pos (by omega)]
    obtain ⟨_, l2⟩ := minOf_is (fun q : Pc => q.at x) ne
    exact Int.le_trans (l2 q1 h1) u
theorem ln_nn {qs : List Pc} (ne : qs ≠ []) (ok : ∀ q ∈ qs, q.Ok) (x : Int) (hx : 0 ≤ x) : 0 ≤ lnF qs x := by
  by_cases z : x = 0
  · subst z; rw [lnF_zero]; exact Int.le_refl _
  · rw [lnF_pos (by omega)]
    obtain ⟨⟨q1, h1, e1⟩, _⟩ := minOf_is (fun q : Pc => q.at x) ne
    rw [e1]
    exact (ok q1 h1).nn hx
theorem ln_hi {qs : List Pc} (ne : qs ≠ []) (ok : ∀ q ∈ qs, q.Ok) (x : Int) (hx : 0 ≤ x) : lnF qs x ≤ 60 + 60 * x := by
  by_cases z : x = 0
  · subst z; rw [lnF_zero]; decide
  · rw [lnF_pos (by omega)]
    obtain ⟨⟨q1, h1, e1⟩, _⟩ := minOf_is (fun q : Pc => q.at x) ne
    rw [e1]
    exact (ok q1 h1).hi hx
theorem Pc.Ok.sub {p q : Pc} (hp : p.Ok) (hq : q.Ok) (h : p.r ≤ q.r) {a b : Int} (ha : 0 ≤ a) (hb : 0 ≤ b) : p.at (a + b) ≤ p.at a + q.at b := by
  have m := Int.mul_le_mul_of_nonneg_right h hb
  have := hq.b0
  rw [hp.at_eq, hp.at_eq, hq.at_eq, Int.mul_add]
  omega
/-- the least of lines is good -/
theorem ln_good {qs : List Pc} (ne : qs ≠ []) (ok : ∀ q ∈ qs, q.Ok) {a b : Int} (ha : 0 ≤ a) (hb : 0 ≤ b) : lnF qs (a + b) ≤ lnF qs a + lnF qs b := by
  by_cases za : a = 0
  · subst za; rw [lnF_zero, Int.zero_add, Int.zero_add]; exact Int.le_refl _
  by_cases zb : b = 0
  · subst zb; rw [lnF_zero, Int.add_zero, Int.add_zero]; exact Int.le_refl _
  rw [lnF_pos (show 0 < a + b by omega), lnF_pos (show 0 < a by omega), lnF_pos (show 0 < b by omega)]
  obtain ⟨_, l⟩ := minOf_is (fun q : Pc => q.at (a + b)) ne
  obtain ⟨⟨p, hp, ep⟩, _⟩ := minOf_is (fun q : Pc => q.at a) ne
  obtain ⟨⟨q, hq, eq⟩, _⟩ := minOf_is (fun q : Pc => q.at b) ne
  rw [ep, eq]
  by_cases c : p.r ≤ q.r
  · exact Int.le_trans (l p hp) ((ok p hp).sub (ok q hq) c ha hb)
  · refine Int.le_trans (l q hq) ?_
    have := (ok q hq).sub (ok p hp) (show q.r ≤ p.r by omega) hb ha
    show q.at (a + b) ≤ p.at a + q.at b
    rw [Int.add_comm a b, Int.add_comm (p.at a)]
    exact this
/-- more pieces, less -/
theorem ln_le {qs : List Pc} {q : Pc} (h : q ∈ qs) (x : Int) : lnF qs x ≤ lnF [q] x := by
  by_cases z : x = 0
  · subst z; rw [lnF_zero, lnF_zero]; exact Int.le_refl _
  · unfold lnF
    rw [if_neg z, if_neg z]
    exact (minOf_is (fun q : Pc => q.at x) (fun e => by subst e; cases h)).2 q h
/-- the same pieces, the same -/
theorem minOf_same {α : Type} {f : α → Int} {l m : List α} (h : ∀ a, a ∈ l ↔ a ∈ m) : minOf f l = minOf f m := by
  by_cases z : l = []
  · subst z
    have : m = [] := by
      cases m with
      | nil => rfl
      | cons a m => exact absurd ((h a).mpr List.mem_cons_self) (by simp)
    subst this; rfl
  · have z2 : m ≠ [] := fun e => by
      subst e
      obtain ⟨⟨a, ha, _⟩, _⟩ := minOf_is f z
      exact absurd ((h a).mp ha) (by simp)
    obtain ⟨⟨a, ha, ea⟩, la⟩ := minOf_is f z
    obtain ⟨⟨b, hb, eb⟩, lb⟩ := minOf_is f z2
    have := la b ((h b).mpr hb)
    have := lb a ((h a).mp ha)
    omega
theorem ln_same {qs rs : List Pc} (h : ∀ q, q ∈ qs ↔ q ∈ rs) (x : Int) : lnF qs x = lnF rs x := by
  unfold lnF
  rw [minOf_same h]
/-! forms of functions that repeat from somewhere on, with a period that divides twelve -/
def per6 (p : Int) : Prop := p = 1 ∨ p = 2 ∨ p = 3 ∨ p = 4 ∨ p = 6 ∨ p = 12
def cyc6 (i : Nat) : Int := ([1, 2, 3, 4, 6, 12] : List Int).getD i 0
theorem cyc6_lt {i k : Nat} (h : i < k) (hk : k < 6) : cyc6 i < cyc6 k := by
  have : ∀ k, k < 6 → ∀ i, i < k → cyc6 i < cyc6 k := by decide +kernel
  exact this k hk i h
theorem cyc6_b {i : Nat} (h : i < 6) : 0 < cyc6 i ∧ cyc6 i ≤ 12 := by
  have : ∀ i, i < 6 → 0 < cyc6 i ∧ cyc6 i ≤ 12 := by decide +kernel
  exact this i h
theorem cyc6_per {d : Int} (h : per6 d) : ∃ k, k < 6 ∧ cyc6 k = d := by
  rcases h with h | h | h | h | h | h <;> subst h
  · exact ⟨0, by decide, rfl⟩
  · exact ⟨1, by decide, rfl⟩
  · exact ⟨2, by decide, rfl⟩
  · exact ⟨3, by decide, rfl⟩
  · exact ⟨4, by decide, rfl⟩
  · exact ⟨5, by decide, rfl⟩
theorem per6_dvd {d p : Int} (d0 : 0 < d) (hp : per6 p) (h : d ∣ p) : per6 d := by
  have h12 : d ∣ 12 := Int.dvd_trans h (by rcases hp with h | h | h | h | h | h <;> subst h <;> decide)
  have le := Int.le_of_dvd (by decide) h12
  obtain ⟨e, he⟩ := h12
  have : d = 1 ∨ d = 2 ∨ d = 3 ∨ d = 4 ∨ d = 5 ∨ d = 6 ∨ d = 7 ∨ d = 8 ∨ d = 9 ∨ d = 10 ∨ d = 11 ∨ d = 12 := by omega
  unfold per6
  rcases this with h | h | h | h | h | h | h | h | h | h | h | h <;> subst h <;> omega
/-- what the form's period is -/
theorem fm_least {xs : List Int} {p g : Int} (hp : 0 < p) (hpn : p ≤ xs.length) : (formP xs p g).1 ∣ p ∧ ∀ c : Int, 0 < c → c < (formP xs p g).1 → ∀ N s : Int, ¬ Rep (cvAt xs p g) N c s := by
  have R : Rep (cvAt xs p g) xs.length p g := Rep.cvAt hp hpn
  have Pp : Per (cvAt xs p g) p.toNat := ⟨by omega, _, _, by rw [Int.toNat_of_nonneg (by omega)]; exact R⟩
  obtain ⟨d, D, no⟩ := least_nat ⟨p.toNat, Pp⟩
  have no' : ∀ c, Per (cvAt xs p g) c → d ≤ c := fun c hc => by
    by_cases z : d ≤ c
    · exact z
    · exact absurd hc (no c (by omega))
  have dvp : (d : Int) ∣ p := by
    have := Int.natCast_dvd_natCast.mpr (per_dvd' D no' Pp)
    rwa [Int.toNat_of_nonneg (by omega)] at this
  have e1 : (formP xs p g).1 = d := leastFrom_is R hp D no' dvp _ 1 (by omega) (by omega) (by have := D.1; omega)
  rw [e1]
  refine ⟨dvp, fun c c0 cd N s hc => ?_⟩
  have := no' c.toNat ⟨by omega, N, s, by rw [Int.toNat_of_nonneg (by omega)]; exact hc⟩
  omega
theorem fm_rep {xs : List Int} {p g : Int} (hp : 0 < p) (hpn : p ≤ xs.length) : Rep (cvAt xs p g) (formV xs p g).length (formP xs p g).1 (formP xs p g).2 := by
  obtain ⟨a, b, R⟩ := leastP_spec (Rep.cvAt (g := g) hp hpn) hp
  have a : 0 < (formP xs p g).1 := a
  have b : (formP xs p g).1 ≤ p := b
  have R : Rep (cvAt xs p g) xs.length (formP xs p g).1 (formP xs p g).2 := R
  obtain ⟨c1, c2, c3⟩ := shr_spec a xs.length (by omega) R
  unfold formV
  rw [vals_length]
  exact c3
/-- the last length that does not follow from the one a period before, of c + 1, .., c + j; c if there is none -/
def lastOdd (f : Int → Int) (c s : Int) : Nat → Int
  | 0 => c
  | j + 1 => if f (c + 1 + j) = f (c + 1 + j - c) + s then lastOdd f c s j else c + 1 + j
theorem lastOdd_is (f : Int → Int) (c s : Int) : ∀ j : Nat, c ≤ lastOdd f c s j ∧ lastOdd f c s j ≤ c + j ∧ (∀ t, lastOdd f c s j < t → t ≤ c + j → f t = f (t - c) + s) ∧ (c < lastOdd f c s j → f (lastOdd f c s j) ≠ f (lastOdd f c s j - c) + s)
  | 0 => ⟨Int.le_refl _, by show c ≤ c + 0; omega, fun t h1 h2 => by have h1 : c < t := h1; omega, fun h => by have h : c < c := h; omega⟩
  | j + 1 => by
    obtain ⟨a, b, d, e⟩ := lastOdd_is f c s j
    by_cases z : f (c + 1 + j) = f (c + 1 + j - c) + s
    · have q : lastOdd f c s (j + 1) = lastOdd f c s j := if_pos z
      rw [q]
      refine ⟨a, by omega, fun t h1 h2 => ?_, e⟩
      by_cases w : t = c + 1 + j
      · rw [w]; exact z
      · exact d t h1 (by omega)
    · have q : lastOdd f c s (j + 1) = c + 1 + j := if_neg z
      rw [q]
      exact ⟨by omega, by omega, fun t h1 h2 => by omega, fun _ => z⟩
/-- with the form's period: the number of its values -/
theorem lastOdd_form {xs : List Int} {p g : Int} {j : Nat} (hp : 0 < p) (hpn : p ≤ xs.length) (hj : (xs.length : Int) ≤ (formP xs p g).1 + j) : lastOdd (cvAt xs p g) (formP xs p g).1 (formP xs p g).2 j = formM xs p g := by
  obtain ⟨f1, f2, f3, f4, f5⟩ := form_spec (vs := xs) (g := g) hp hpn
  have R := fm_rep (g := g) hp hpn
  have ml : (formV xs p g).length = formM xs p g := by unfold formV; rw [vals_length]
  have mn := shr_min (f := cvAt xs p g) (d := (formP xs p g).1) (s := (formP xs p g).2) xs.length
  have eM : shr (cvAt xs p g) (formP xs p g).1 (formP xs p g).2 xs.length = formM xs p g := rfl
  rw [eM] at mn
  rw [ml] at R f3 f4
  obtain ⟨a, b, d, e⟩ := lastOdd_is (cvAt xs p g) (formP xs p g).1 (formP xs p g).2 j
  generalize lastOdd (cvAt xs p g) (formP xs p g).1 (formP xs p g).2 j = L at *
  generalize formM xs p g = m at *
  by_cases c1 : (m : Int) < L
  · exact absurd (R L c1) (e (by omega))
  · by_cases c2 : L < m
    · rcases mn with h | h | h
      · omega
      · omega
      · exact absurd (d m c2 (by omega)) h
    · omega
/-- with a lesser one it lies far out -/
theorem lastOdd_far {xs : List Int} {p g c s : Int} {j : Nat} (hp : 0 < p) (hpn : p ≤ xs.length) (c0 : 0 < c) (cd : c < (formP xs p g).1) (hj : (xs.length : Int) + p ≤ c + j) : (xs.length : Int) < lastOdd (cvAt xs p g) c s j := by
  obtain ⟨a, b, d, e⟩ := lastOdd_is (cvAt xs p g) c s j
  obtain ⟨f1, f2, f3, f4, f5⟩ := form_spec (vs := xs) (g := g) hp hpn
  by_cases z : (xs.length : Int) < lastOdd (cvAt xs p g) c s j
  · exact z
  · exfalso
    have S : stepsEq (cvAt xs p g) xs.length p c = true := steps_of (s := s) fun t h1 h2 => d t (by omega) (by omega)
    exact (fm_least (g := g) hp hpn).2 c c0 cd _ _ ((Rep.cvAt (g := g) hp hpn).of_steps c0 (by omega) S)
/-- written by its form a curve has this form -/
theorem fm_idem {xs : List Int} {p g : Int} (hp : 0 < p) (hpn : p ≤ xs.length) : formV (formV xs p g) (formP xs p g).1 (formP xs p g).2 = formV xs p g ∧ formP (formV xs p g) (formP xs p g).1 (formP xs p g).2 = formP xs p g := by
  obtain ⟨f1, f2, f3, f4, f5⟩ := form_spec (vs := xs) (g := g) hp hpn
  have u := form_unique (g := (formP xs p g).2) (e := g) f1 f3 hp hpn f5
  first | exact u | exact ⟨u.2, u.1⟩ | exact ⟨u.1, u.2⟩
/-- what is known of such a function's form -/
theorem fm_vals {F : Int → Int} {n : Nat} {G : Int} (R : Rep F n 12 G) (hn : 12 ≤ n) (F0 : F 0 = 0) : ∀ t : Int, 0 ≤ t → cvAt (vals F n) 12 G t = F t :=
  fun t ht => cvAt_vals (by decide) (by omega) F0 R t ht
theorem form_get {xs : List Int} {p g : Int} {i : Nat} (h : i < (formV xs p g).length) : (formV xs p g).getD i 0 = cvAt xs p g ((i : Int) + 1) := by
  unfold formV at h ⊢
  rw [vals_length] at h
  exact vals_getD h
/-- at most: what the package looks at is enough -/
theorem am_iff {f h : Int → Int} {n1 n2 : Nat} {p1 g1 p2 g2 : Int} (R : Rep f n1 p1 g1) (S : Rep h n2 p2 g2) (a0 : 0 < p1) (a1 : p1 ≤ n1) (b0 : 0 < p2) (b1 : p2 ≤ n2) :
    amM f h n1 n2 p1 g1 p2 g2 = true ↔ ∀ t : Int, 1 ≤ t → f t ≤ h t := by
  have d1 : p1 ∣ ((Nat.lcm p1.toNat p2.toNat : Nat) : Int) := by
    have := Int.natCast_dvd_natCast.mpr (Nat.dvd_lcm_left p1.toNat p2.toNat)
    rwa [Int.toNat_of_nonneg (by omega)] at this
  have d2 : p2 ∣ ((Nat.lcm p1.toNat p2.toNat : Nat) : Int) := by
    have := Int.natCast_dvd_natCast.mpr (Nat.dvd_lcm_right p1.toNat p2.toNat)
    rwa [Int.toNat_of_nonneg (by omega)] at this
  have l0 : 0 < Nat.lcm p1.toNat p2.toNat := Nat.lcm_pos (by omega) (by omega)
  unfold amM
  have eN : ((amN n1 n2 p1 p2 : Nat) : Int) = max ((n1 : Int) - p1) ((n2 : Int) - p2) + (Nat.lcm p1.toNat p2.toNat : Nat) := by unfold amN; omega
  have R2 : Rep f (amN n1 n2 p1 p2 : Nat) (Nat.lcm p1.toNat p2.toNat : Nat) (g1 * ((Nat.lcm p1.toNat p2.toNat : Nat) / p1)) := R.mul a0 d1 (by omega) (by omega)
  have S2 : Rep h (amN n1 n2 p1 p2 : Nat) (Nat.lcm p1.toNat p2.toNat : Nat) (g2 * ((Nat.lcm p1.toNat p2.toNat : Nat) / p2)) := S.mul b0 d2 (by omega) (by omega)
  have N1 : 1 ≤ amN n1 n2 p1 p2 := by omega
  have NL : Nat.lcm p1.toNat p2.toNat ≤ amN n1 n2 p1 p2 := by omega
  generalize g1 * ((Nat.lcm p1.toNat p2.toNat : Nat) / p1) = G1 at *
  generalize g2 * ((Nat.lcm p1.toNat p2.toNat : Nat) / p2) = G2 at *
  generalize amN n1 n2 p1 p2 = N at *
  generalize Nat.lcm p1.toNat p2.toNat = L at *
  by_cases c : G2 < G1
  · rw [if_pos c]
    refine ⟨fun z => (nomatch z), fun z => ?_⟩
    exfalso
    obtain ⟨K, hK⟩ : ∃ K : Nat, h N - f N < K := ⟨(h N - f N).toNat + 1, by omega⟩
    have e1 := R2.times (by omega) K ((N : Int) + K * L) (by omega)
    have e2 := S2.times (by omega) K ((N : Int) + K * L) (by omega)
    rw [show (N : Int) + K * L - K * L = N by omega] at e1 e2
    have nn : (0 : Int) ≤ (K : Int) * L := Int.mul_nonneg (by omega) (by omega)
    have q := z ((N : Int) + K * L) (by omega)
    have m := Int.mul_le_mul_of_nonneg_left (show G2 + 1 ≤ G1 by omega) (show (0 : Int) ≤ K by omega)
    rw [Int.mul_add, Int.mul_one] at m
    omega
  · rw [if_neg c, all_iff]
    refine ⟨fun z => ?_, fun z t h1 _ => z t h1⟩
    have key : ∀ m : Nat, ∀ t : Int, 1 ≤ t → t ≤ m → f t ≤ h t := by
      intro m
      induction m with
      | zero => intro t h1 h2; omega
      | succ m ih =>
        intro t h1 h2
        by_cases w : t ≤ N
        · exact z t h1 w
        · rw [R2 t (by omega), S2 t (by omega)]
          have := ih (t - L) (by omega) (by omega)
          omega
    intro t ht
    exact key t.toNat t ht (by omega)
end VM

/-! repr of a list of own objects: their own __repr__ runs under the list's guard. -/
namespace VL
open PySem PySem.Spec PyProof.Rows L2
/-- the guards are of S alone -/
def Gd (S : Addr) (A : Around) : Prop := ∃ g, A.guards = some g ∧ ∀ b, b ≠ S → Clear g b
/-- a def's promise, asked where the guards are of one list alone -/
structure FnC (P : Program) (w : World) (K : PySem.W.Frag) (mg : Str → Option Value) (base : Heap) (CX : CXT)
    (k : Nat) (f : Addr) (fd : FuncData) (ps : List Str) (sp : Addr → Sp) : Prop where
  arity : ∀ S as H Q E, sp S as H Q E → as.length = ps.length
  go : ∀ (S : Addr) (A : Around) (outer : List Env) (s : Shared) (H : Hp) (args : Args) (us : List Value) (as : List V) (Q : VK) (E : XK),
    Gd S A → Room k A → Env0 P w K mg base A outer s H → BindsTo s fd args (ps.zip us) → Vals as us → sp S as H Q E →
      codeAny (model P w) A (.call (.ref f) args) (CR CX outer P w H s Q E) s
section
variable {P : Program} {w : World} {K : PySem.W.Frag} {mg : Str → Option Value} {base : Heap} {CX : CXT}
theorem okC {x qual : Str} {st : Stmt} {f : Addr} {fd : FuncData} {N ps : List Str} {k : Nat} {sp : Addr → Sp}
    (F : Fun K x qual st f fd) (Sc : FnScope N ps (defScope st)) (len : ∀ S as H Q E, sp S as H Q E → as.length = ps.length)
    (body : ∀ (S : Addr) (cdv : Value) (A : Around) (outer : List Env) (s : Shared) (H : Hp) (as : List V) (Q : VK) (E : XK),
      Gd S (A.deeper (envOfC qual (defScope st) s.heap.objs.size f cdv)) →
      Room k (A.deeper (envOfC qual (defScope st) s.heap.objs.size f cdv)) → sp S as H Q E →
      ∃ t, PSs (cxOf CX P w K mg base N qual (defScope st) f cdv A outer s H E) (defBody st) t ∧
        t { nx := fun _ H' => Q .non H', rt := Q } (start N as) H) :
    FnC P w K mg base CX (k + 1) f fd ps sp := by
  obtain ⟨oc, od, kV, doc, pm, an, cdv, ct, osl, rfl, lk, hcd⟩ := F.ex
  refine ⟨len, fun S A outer s H args us as Q E hA hr e0 hb r hsp => ?_⟩
  have hl := len _ _ _ _ _ hsp
  have KX : K.In s.heap := e0.mod.kin.keeps fun b o e => (e0.bs b o e).1
  have lim : s.heap.NoLimit := e0.mod.nolimit.keeps fun b o e => (e0.bs b o e).1
  have kinds : ∀ y ∈ ps.zip us, (defScope st).names.lookup y.1 = some .local ∨
      ((defScope st).names.lookup y.1 = some .cell ∧ ((cellsFrom (s.heap.objs.size + 1) (defScope st).names []).lookup y.1).isSome = true) := by
    rintro ⟨n, v⟩ hy
    rcases Sc.par n (List.of_mem_zip hy).1 with q | q
    · exact .inl q
    · exact .inr ⟨q, PySem.W.cellsFrom_some _ _ _ (.inl q)⟩
  refine codeAny_call_function hr.depth (KX _ _ lk) rfl Sc.co Sc.gen rfl (PySem.W.codeRec_of KX hcd) (hb _ _ _ _ ?_)
  refine wpAny_newFunctionEnv_cells Sc.kind kinds fun env he s1 z => ?_
  subst he
  refine ⟨lim.keeps z.toInCall.keep, codeAny_func ?_⟩
  obtain ⟨t, ht, hq⟩ := body S cdv A outer s H as Q E hA (hr.deeper _) hsp
  have I0 : Inv (cxOf CX P w K mg base N qual (defScope st) f cdv A outer s H E) [] (start N as) H s1 :=
    inv_start Sc hr.hd e0 hl r z
  refine wpAny_mono (ht.run [] s1 (start N as) H _ I0 hq) ?_ fun e s' hs => hs
  intro fl s' hs
  have done : ∀ (σ' : L2.St) (H' : Hp) (v : V) (u : Value), Inv (cxOf CX P w K mg base N qual (defScope st) f cdv A outer s H E) [] σ' H' s' →
      RelV v u → Q v H' → CE outer P w H s Q u s' := fun σ' H' v u J rv q => ⟨v, H', J.os, J.bare, J.base, J.hok, rv, q⟩
  cases fl with
  | ret u =>
    obtain ⟨v, σ', H', J, rv, q⟩ := hs
    exact done σ' H' v u J rv q
  | next =>
    obtain ⟨σ', H', J, q⟩ := hs
    exact done σ' H' V.non Value.none J rfl q
  | brk => exact hs.elim fun _ h => h.elim fun _ h => False.elim h.2
  | cont => exact hs.elim fun _ h => h.elim fun _ h => False.elim h.2
end
section
variable {P : Program} {w : World} {K : PySem.W.Frag} {mg : Str → Option Value} {base : Heap}
theorem okC0 {x qual : Str} {st : Stmt} {f : Addr} {fd : FuncData} {N ps : List Str} {k : Nat} {sp : Addr → Sp}
    (F : Fun K x qual st f fd) (Sc : FnScope N ps (defScope st)) (len : ∀ S as H Q E, sp S as H Q E → as.length = ps.length)
    (body : ∀ (S : Addr) (cdv : Value) (A : Around) (outer : List Env) (s : Shared) (H : Hp) (as : List V) (Q : VK) (E : XK),
      Gd S (A.deeper (envOfC qual (defScope st) s.heap.objs.size f cdv)) →
      Room k (A.deeper (envOfC qual (defScope st) s.heap.objs.size f cdv)) → sp S as H Q E →
      ∃ t, PSs (cxOf CX0 P w K mg base N qual (defScope st) f cdv A outer s H E).nox (defBody st) t ∧
        t { nx := fun _ H' => Q .non H', rt := Q } (start N as) H) :
    FnC P w K mg base CX0 (k + 1) f fd ps sp :=
  okC F Sc len fun S cdv A outer s H as Q E hA hr h =>
    let ⟨t, h1, h2⟩ := body S cdv A outer s H as Q E hA hr h
    ⟨t, h1.nox, h2⟩
end
theorem ints_all {prog : Program} {w : World} {h₀ : Heap} {d : Nat} : ∀ (us : List Int) (its : List Value), Vals (us.map V.int) its → PyData.showableAll (us.map PyData.int) = true → ReprAllK prog w [] h₀ d its (PyData.shownAll (us.map PyData.int))
  | [], its, rv, _ => by
    cases rv
    simp only [List.map_nil, PyData.shownAll]
    exact .nil
  | u :: us, its, rv, sh => by
    cases rv with
    | cons r1 r =>
      obtain ⟨t, rfl⟩ := r1
      have sh' : (PyData.int u).showable = true ∧ PyData.showableAll (us.map PyData.int) = true := by simpa [PyData.showableAll] using sh
      have hl : u.natAbs.log2 < 1920 := by simpa [PyData.showable] using sh'.1
      simp only [List.map_cons, PyData.shownAll, PyData.shown]
      exact .cons (ReprK.of_is (ReprIs.int t hl) _ _ _) (ints_all us _ r sh'.2)
section
variable {X : Cx}
/-- {x} of a list of ints, in an f-string, under the guard of another list -/
def tFmtC (K : PySem.W.Frag) (S : Addr) (te : TE) : TE := fun σ H Q => te σ H fun x H1 => ∃ (a : Addr) (u : Int) (us : List Int), x = .ref a ∧ a ≠ S ∧ H1 a = some (.lst ((u :: us).map V.int)) ∧ (PyData.list ((u :: us).map PyData.int)).showable = true ∧ (PyData.list ((u :: us).map PyData.int)).shown.length ≤ sizeLine ∧ Q (.str (PyData.list ((u :: us).map PyData.int)).shown) H1
theorem pe_fmtC {S : Addr} {e : Expr} {te : TE} {pos : Pos} (hg : Gd S X.A) (hu : X.A.units + 64 < cLine) (he : PE X e te) : PE X (.FormattedValue e (-1) none pos) (tFmtC X.K S te) := by
  refine ⟨fun pins s σ H Q I h => wpAny_FormattedValue_plain (thn (he.run pins s σ H _ I h) ?_)⟩
  rintro v s1 ⟨x, H1, I1, r1, a, u, us, rfl, na, ha, sh, sz, q⟩
  obtain rfl : v = Value.ref a := r1
  obtain ⟨g, hgg, hcl⟩ := hg
  obtain ⟨zl, its, n, rv, ll, hget⟩ := I1.lstM ha
  have shA : PyData.showableAll ((u :: us).map PyData.int) = true := by simpa [PyData.showable] using sh
  have all := ints_all (prog := X.prog) (w := X.w) (h₀ := s1.heap) (d := 0) (u :: us) its rv shA
  have hs : (PyData.list ((u :: us).map PyData.int)).shown = listText (PyData.shownAll ((u :: us).map PyData.int)) := by simp only [PyData.shown]
  rw [hs] at sz q
  cases its with
  | nil => cases rv
  | cons y l =>
    refine wpAny_formatField_slot (fun _ _ => nofun) (by omega) ⟨_, hget, rfl⟩ F.slot_list_format F.slot_list_str F.slot_list_repr.toG ?_
    refine call_list_reprK (as := []) (h₀ := s1.heap) (d := 0) hget rfl rfl (by simp) (by simpa using all.length_eq) (fun i z e => all.item i z (by simpa using e)) (A := X.A.in1.in1) (g := g) hgg (fun b hb => ?_) (by show X.A.units + 1 + 1 + (0 + 1) < cLine; omega) (fun _ _ e => e) (fun h' w tk k => ⟨_, _, rfl, .str _, H1, I1.kept (t' := tk) k, ⟨_, rfl⟩, q⟩) sz
    rw [List.mem_singleton.mp hb]
    exact hcl a na

theorem ifBoundBy_K {M : Model} {K : PySem.W.Frag} {A : Around} {E : Value → Shared → Prop} {s : Shared} {x C f : Addr} {od : Option Obj} {ox : Obj} {name : Str} {last : Value → List Value → Sem Value} {Q : Option Value → Shared → Prop} (X : K.In s.heap) (I : PySem.W.InstAt s.heap x ox C od) (hs : PySem.W.findIn K (.ref C) name = some (some (.ref f))) (hf : PySem.W.isFn K (.ref f) = true)
    (h : wpAny M A (last (.ref f) [.ref x]) (fun v => Q (some v)) E s) : wpAny M A (callSpecialIfBoundBy? last (.ref x) name) Q E s := by
  simp only [callSpecialIfBoundBy?, bindSpecialIfBound?]
  refine wpAny_holding (wpAny_bind (wpAny_bind (wpAny_bind (I.type.here ((PySem.W.looks_findIn X hs).here ?_)))))
  refine wpAny_bind (wpAny_askSetting (wpAny_ite ?_))
  have fin : wpAny M A (last (.ref f) [.ref x] >>= fun v => pure (some v)) Q E s := wpAny_bind (wpAny_mono h (fun v s' h' => wpAny_pure h') fun _ _ h' => h')
  split
  · exact wpAny_bind ((PySem.W.bind_fn X _ (beq_iff_eq.mp hf)).here (wpAny_pure (by exact fin)))
  · exact wpAny_tryCatch (wpAny_bind ((PySem.W.bind_fn X _ (beq_iff_eq.mp hf)).here (wpAny_pure (by exact fin))))
variable {CX : CXT} {k : Nat} {f C : Addr} {fd : FuncData} {ps : List Str} {sp : Addr → Sp} {E : XK}
theorem own_under (F : FnC X.prog X.w X.K X.mg X.base CX k f fd ps sp) (o : Meth X.K C "__repr__" f) (hb : Binds X.K fd ps []) (hx : Passes CX X E)
    {S : Addr} {A' : Around} (fr : A'.frames = X.A.frames) (gd : Gd S A') (hr : Room k A') {pins : List (Addr × Obj)} {σ : L2.St} {H : Hp} {s : Shared} (I : Inv X pins σ H s) {a dx : Addr} {fs : List (Str × V)} (ea : H a = some (.ins C dx fs)) {R : Str → Hp → Prop}
    (h : sp S [.ref a] H (fun v H' => ∃ t, v = .str t ∧ R t H') E) {b : Nat} (hb2 : b ≤ sizeLine) :
    wpAny (model X.prog X.w) A' (pyReprUnder b (.ref a)) (fun t s' => ∃ H', Inv X pins σ H' s' ∧ R t H') X.xe s := by
  refine wpAny_pyReprUnder_ref hb2 ?_
  unfold pyReprObjUnder pyReprObjBy
  refine wpAny_bind (wpAny_cRoomFor hr.units0 ?_)
  obtain ⟨mA, J, _⟩ := ins_get I.hok ea
  obtain ⟨od, J, _⟩ := J.look
  have KX := I.kIn
  refine wpAny_bind (wpAny_bind (J.type.here ((PySem.W.looks_findIn KX o.at_).here ?_)))
  show wpAny _ _ (if (some (Value.ref f)).isNone = true then _ else _) _ _ _
  rw [if_neg (by simp)]
  refine wpAny_bind (ifBoundBy_K KX J o.at_ o.fn ?_)
  have len := F.arity _ _ _ _ _ h
  have bind := hb s [.ref a] I.kIn (by simpa using len)
  rw [List.append_nil] at bind
  have e0 := I.env0
  refine wpAny_call (codeAny_mono (F.go S A' X.stack s H ⟨[.ref a], []⟩ [.ref a] [.ref a] _ E gd hr ⟨fr.trans e0.frames, e0.mod, e0.bs, e0.bsz, e0.funs, e0.frf, e0.hok, e0.bare⟩ bind (.cons rfl .nil) h) ?_)
  intro res s' hq
  match res, hq with
  | .error e, hq => exact hx pins σ H s e s' I hq
  | .ok .next, hq => exact False.elim hq
  | .ok .brk, hq => exact False.elim hq
  | .ok .cont, hq => exact False.elim hq
  | .ok (.ret w), hq =>
    obtain ⟨z, H', J', rz, t, rfl, q⟩ := I.after hq
    obtain ⟨u, rfl⟩ := rz
    exact wpAny_bind (wpAny_isInstance (typeIs_str _ _ _) isSubtype_str_str (wpAny_pure ⟨t, u, rfl, H', J', q⟩))

theorem vals_ref_eq : ∀ {xs : List Addr} {its : List Value}, Vals (xs.map V.ref) its → its = xs.map Value.ref
  | [], its, r => by cases r; rfl
  | x :: xs, its, r => by
    cases r with
    | cons r1 r => cases r1; rw [vals_ref_eq r]; rfl
theorem vals_str_eq : ∀ {ts : List Str} {its : List Value}, Vals (ts.map V.str) its → ∃ done : List (Str × Tok), its = strValues done ∧ done.map (·.1) = ts
  | [], its, r => by cases r; exact ⟨[], rfl, rfl⟩
  | t :: ts, its, r => by
    cases r with
    | cons r1 r =>
      obtain ⟨u, rfl⟩ := r1
      obtain ⟨done, e, m⟩ := vals_str_eq r
      exact ⟨(t, u) :: done, by rw [e]; rfl, by rw [List.map_cons, m]⟩
theorem loop_depth {A : Around} {args : Args} : (A.under (.builtin "list.__repr__.loop" args)).depth = A.depth + 1 := by
  first | rfl | simp [Around.under, Code.weight, Code.isCreation, Code.isGuard, Code.isCaller, Code.frames, Code.isFrame, guardIds]
/-- what is shown of x -/
def Shows (C : Addr) (sp : Addr → Sp) (E : XK) (a : Addr) (H0 : Hp) (x : Addr) (t : Str) : Prop :=
  ∃ dx fs, H0 x = some (.ins C dx fs) ∧ ∀ H' : Hp, (∀ b o, H0 b = some o → H' b = some o) → sp a [.ref x] H' (fun v H'' => ∃ u, v = .str u ∧ (u = t ∧ H'' = H')) E
theorem loop_own (F : FnC X.prog X.w X.K X.mg X.base CX k f fd ps sp) (o : Meth X.K C "__repr__" f) (hb : Binds X.K fd ps []) (hx : Passes CX X E)
    {A0 : Around} (fr : A0.frames = X.A.frames) (hg : A0.guards = some []) (hr : Room (k + 1) A0) {pins : List (Addr × Obj)} {σ : L2.St} {a P : Addr} {R : Result → Shared → Prop} (hE : ∀ e s', X.xe e s' → R (.error e) s')
    {H0 : Hp} {xs : List Addr} {ts : List Str} (len : ts.length = xs.length) (all : ∀ (i : Nat) (x : Addr) (t : Str), xs[i]? = some x → ts[i]? = some t → Shows C sp E a H0 x t)
    (ha0 : H0 a = some (.lst (xs.map V.ref))) (nP : H0 P = none) (hsz : (listText ts).length ≤ sizeLine)
    (hR : ∀ s' H' u, Inv X pins σ H' s' → (∀ b o, H0 b = some o → H' b = some o) → R (.ok (.ret (.str (listText ts) u))) s') :
    ∀ (n i : Nat) (H : Hp) (s : Shared), xs.length - i = n → i ≤ xs.length → Inv X pins σ H s → (∀ b o, H0 b = some o → H b = some o) → H P = some (.lst ((ts.take i).map V.str)) →
      codeAny (model X.prog X.w) A0 (.builtin "list.__repr__.loop" ⟨[.ref a, rawInt i, .ref P, rawInt ((piled (ts.take i) : Nat) : Int)], []⟩) R s := by
  have hp3 := piled_le_listText ts
  have hL := textFrom_len ts 0 "["
  have hX : (listText ts).length = (textFrom 0 "[" ts).length + 1 := by
    show (textFrom 0 "[" ts ++ "]").length = _
    rw [strLen_append]; rfl
  have hsz2 : ∀ t ∈ ts, t.length ≤ sizeLine := fun t ht => by
    have h2 := hL.2.1 t ht
    omega
  intro n
  induction n with
  | zero =>
    intro i H s hn hi I k0 hP
    have hin : i = xs.length := by omega
    obtain ⟨_, its, na, rv, ll, hget⟩ := I.lstM (k0 _ _ ha0)
    obtain rfl := vals_ref_eq rv
    obtain ⟨_, its2, nb, rv2, ll2, hget2⟩ := I.lstM hP
    obtain ⟨done, rfl, hdone⟩ := vals_str_eq rv2
    refine codeAny_builtin PySem.F.entry_list_repr_loop ?_
    show wpAny _ _ (Builtin.«list.__repr__.loop» ⟨[.ref a, .int i 0, .ref P, .int ((piled (ts.take i) : Nat) : Int) 0], []⟩) _ _ s
    rw [repr_loop_tree]
    refine wpAny_bind (wpAny_listItems hget rfl ?_)
    have hnone : (xs.map Value.ref).toArray[(i : Int).toNat]? = none := by simp [hin]
    simp only [hnone]
    unfold reprEnd
    refine wpAny_bind (wpAny_listItems hget2 rfl ?_)
    have et : (strValues done).toArray.toList = strValues done := by simp
    rw [et, repr_fold]
    refine wpAny_bind (wpAny_pure ?_)
    have hall : done.map (·.1) = ts := by rw [hdone, hin, ← len, List.take_length]
    rw [hall]
    refine wpAny_bind (wpAny_mkStr (wpAny_pure ?_) hsz)
    exact hR _ H _ (I.tok _) k0
  | succ n ih =>
    intro i H s hn hi I k0 hP
    have hlt : i < xs.length := by omega
    obtain ⟨_, its, na, rv, ll, hget⟩ := I.lstM (k0 _ _ ha0)
    obtain rfl := vals_ref_eq rv
    have ex : xs[i]? = some xs[i] := List.getElem?_eq_getElem hlt
    have et : ts[i]? = some ts[i] := List.getElem?_eq_getElem (by omega)
    obtain ⟨dx, fs, hx0, hsp⟩ := all i _ _ ex et
    generalize xs[i] = x at *
    generalize ts[i] = t at *
    have hp1 := piled_take_succ et
    have hp2 := piled_take_le ts (i + 1)
    refine codeAny_builtin PySem.F.entry_list_repr_loop ?_
    show wpAny _ _ (Builtin.«list.__repr__.loop» ⟨[.ref a, .int i 0, .ref P, .int ((piled (ts.take i) : Nat) : Int) 0], []⟩) _ _ s
    rw [repr_loop_tree]
    refine wpAny_bind (wpAny_listItems hget rfl ?_)
    have hsome : (xs.map Value.ref).toArray[(i : Int).toNat]? = some (.ref x) := by simp [ex]
    simp only [hsome]
    rw [Int.toNat_natCast]
    refine wpAny_bind (wpAny_holding (wpAny_mono (own_under F o hb hx (S := a) ?_ ?_ ?_ I (k0 _ _ hx0) (hsp H k0) (b := piled (ts.take i) + 1) (by omega)) ?_ fun e s' h => hE e s' h))
    · first | exact fr | (simpa [Around.under, Code.envs, Code.isFrame, pushEnvs] using fr)
    · exact ⟨_, guards_under_guard (isGuard_list_loop _) hg, fun b nb => (Clear.nil b).cons (Ne.symm nb)⟩
    · refine ⟨hr.hd, ?_, ?_⟩
      · have := hr.dp
        rw [loop_depth]
        omega
      · have := hr.un
        rw [units_under_list_loop]
        omega
    rintro t2 s2 ⟨H2, I2, rfl, rfl⟩
    refine wpAny_bind (wpAny_mkStr ?_ (hsz2 t2 (List.mem_of_getElem? et)))
    refine wpAny_bind ?_
    show wpAny _ _ (updateSeq P _) _ _ _
    obtain ⟨zP, its2, nb, rv2, ll2, hget2⟩ := I2.lstM hP
    have lz : ts.length ≤ sizeLine := by
      have h1 := hL.1
      rw [if_neg (Nat.lt_irrefl 0)] at h1
      omega
    refine wpAny_updateSeq hget2 rfl (wpAny_pure ⟨PySem.F.quiet_list_repr_loop _, ?_⟩) (by rw [List.size_toArray, ← ll2, List.length_map, List.length_take]; omega)
    have e1 : ((i : Int) + 1) = ((i + 1 : Nat) : Int) := by omega
    have e2 : piled (ts.take i) + (t2.length + 2) = piled (ts.take (i + 1)) := by omega
    have et2 : (ts.take (i + 1)).map V.str = (ts.take i).map V.str ++ [V.str t2] := by rw [List.take_add_one, et, List.map_append]; rfl
    have J := (I2.tok (s2.toks + 1)).lset (t' := s2.toks + 1) (its' := its2 ++ [.str t2 s2.toks]) (f := fun r => r.push (.str t2 s2.toks)) hP hget2 (by simp) (ys := (ts.take (i + 1)).map V.str) (by rw [et2]; exact rv2.append (.cons ⟨_, rfl⟩ .nil)) (by rw [List.length_map, List.length_take]; omega)
    rw [e1, e2]
    refine ih (i + 1) _ _ (by omega) hlt J (fun b o e => ?_) upd_same
    rw [upd_ne (fun z => by rw [z, nP] at e; cases e)]
    exact k0 b o e

/-- repr of a list of own objects -/
def rReprLO (C : Addr) (sp : Addr → Sp) (E : XK) : List V → Hp → VK → Prop := fun vs H Q => ∃ (a : Addr) (xs : List Addr) (ts : List Str), vs = [.ref a] ∧ H a = some (.lst (xs.map V.ref)) ∧ xs ≠ [] ∧ ts.length = xs.length ∧
  (∀ (i : Nat) (x : Addr) (t : Str), xs[i]? = some x → ts[i]? = some t → Shows C sp E a H x t) ∧ (listText ts).length ≤ sizeLine ∧ ∀ H' : Hp, (∀ b o, H b = some o → H' b = some o) → Q (.str (listText ts)) H'
theorem call_reprLO (F : FnC X.prog X.w X.K X.mg X.base CX k f fd ps sp) (hA : X.A.guards = some []) (hr : Room (k + 3) X.A) (o : Meth X.K C "__repr__" f) (hb : Binds X.K fd ps []) (hx : Passes CX X E) :
    CallR X (.builtin "repr") (rReprLO C sp E) := by
  intro pins s σ H vs us Q I r h
  obtain ⟨a, xs, ts, rfl, ha, ne, len, all, hsz, q⟩ := h
  obtain ⟨u, rfl, ru⟩ := vals1 r
  obtain rfl : u = Value.ref a := ru
  obtain ⟨_, its, na, rv, ll, hget⟩ := I.lstM ha
  obtain rfl := vals_ref_eq rv
  cases xs with
  | nil => exact absurd rfl ne
  | cons x xs =>
    have hT : s.TypeIs (.ref a) "list" := ⟨_, hget, rfl⟩
    have un := hr.un
    refine call_repr_slot (by omega) hT PySem.F.slot_list_repr.toG ?_
    refine wpAny_call (codeAny_call_builtin PySem.F.slot_list_repr.plain PySem.F.entry_list_repr (PySem.F.slot_list_repr.check _ _ _ _ _ _ _ _ hT (PySem.F.args_list_repr_1 _) ?_))
    refine wpAny_list_repr_head (A := X.A.in1.in1) (g := []) hA (fun v rest kw hm => nomatch hm) hget rfl ?_
    refine wpAny_bind (m := newList []) (wpAny_newObj_type ?_)
    refine wpAny_pure ⟨PySem.F.quiet_list_repr_loop _, ?_⟩
    have J := I.lnew (t' := s.toks) (its := []) (ys := []) .nil (by show 0 ≤ sizeLine; decide)
    have hr1 : Room (k + 1) X.A.in1 := (hr.mono (show k + 2 ≤ k + 3 by omega)).in1
    refine loop_own (k := k) F o hb hx (A0 := X.A.in1) rfl hA hr1 (fun e s' h => h) len all ha (I.fresh) hsz (fun s' H' u J' k' => ⟨_, _, rfl, .str _, H', J', ⟨_, rfl⟩, q H' k'⟩) _ 0 _ _ rfl (Nat.zero_le _) J (fun b o e => ?_) ?_
    · rw [upd_ne (fun z => by rw [z, I.fresh] at e; cases e)]; exact e
    · exact upd_same
end
end VL

namespace VK
open PySem PySem.Spec PyProof.Rows L2 VM
def top (i : Nat) : Stmt := PySem.Challenge.pw_dueways_k16_sums_later_and_at_most.main.body.getD i (.Pass ⟨0, 0, 0, 0⟩)
abbrev s_InvalidCount_init : Stmt := inClass (top 7) 0
theorem sc_InvalidCount_init : FnScope ["self", "value"] ["self", "value"] (defScope s_InvalidCount_init) := ⟨rfl, rfl, rfl, by decide +kernel, rfl, by decide +kernel, by decide +kernel⟩
abbrev s_is_integer : Stmt := top 9
theorem sc_is_integer : FnScope ["value"] ["value"] (defScope s_is_integer) := ⟨rfl, rfl, rfl, by decide +kernel, rfl, by decide +kernel, by decide +kernel⟩
abbrev s_is_count : Stmt := top 10
theorem sc_is_count : FnScope ["value"] ["value"] (defScope s_is_count) := ⟨rfl, rfl, rfl, by decide +kernel, rfl, by decide +kernel, by decide +kernel⟩
abbrev s_is_count_to : Stmt := top 11
theorem sc_is_count_to : FnScope ["value", "most"] ["value", "most"] (defScope s_is_count_to) := ⟨rfl, rfl, rfl, by decide +kernel, rfl, by decide +kernel, by decide +kernel⟩
abbrev s_require_count_to : Stmt := top 12
theorem sc_require_count_to : FnScope ["value", "most"] ["value", "most"] (defScope s_require_count_to) := ⟨rfl, rfl, rfl, by decide +kernel, rfl, by decide +kernel, by decide +kernel⟩
abbrev s_rounded_up : Stmt := top 13
theorem sc_rounded_up : FnScope ["units", "parts"] ["units", "parts"] (defScope s_rounded_up) := ⟨rfl, rfl, rfl, by decide +kernel, rfl, by decide +kernel, by decide +kernel⟩
abbrev s_value_at : Stmt := top 15
theorem sc_value_at : FnScope ["values", "period", "gain", "length", "rounds"] ["values", "period", "gain", "length"] (defScope s_value_at) := ⟨rfl, rfl, rfl, by decide +kernel, rfl, by decide +kernel, by decide +kernel⟩
abbrev s_least_form : Stmt := top 16
theorem sc_least_form : FnScope ["values", "period", "gain", "many", "row", "least", "step", "length"] ["values", "period", "gain"] (defScope s_least_form) := ⟨rfl, rfl, rfl, by decide +kernel, rfl, by decide +kernel, by decide +kernel⟩
abbrev s_least_period : Stmt := top 17
theorem sc_least_period : FnScope ["row", "many", "period", "least", "steps", "length"] ["row", "many", "period"] (defScope s_least_period) := ⟨rfl, rfl, rfl, by decide +kernel, rfl, by decide +kernel, by decide +kernel⟩
abbrev s_C_init : Stmt := inClass (top 23) 0
theorem sc_C_init : FnScope ["self", "values", "period", "gain", "wrong", "form", "least", "step"] ["self", "values", "period", "gain"] (defScope s_C_init) := ⟨rfl, rfl, rfl, by decide +kernel, rfl, by decide +kernel, by decide +kernel⟩
abbrev s_C_eq : Stmt := inClass (top 23) 2
theorem sc_C_eq : FnScope ["self", "other"] ["self", "other"] (defScope s_C_eq) := ⟨rfl, rfl, rfl, by decide +kernel, rfl, by decide +kernel, by decide +kernel⟩
abbrev s_C_repr : Stmt := inClass (top 23) 3
theorem sc_C_repr : FnScope ["self"] ["self"] (defScope s_C_repr) := ⟨rfl, rfl, rfl, by decide +kernel, rfl, by decide +kernel, by decide +kernel⟩
abbrev s_C_add : Stmt := inClass (top 23) 5
theorem sc_C_add : FnScope ["self", "other", "many", "period", "values", "length"] ["self", "other"] (defScope s_C_add) := ⟨rfl, rfl, rfl, by decide +kernel, rfl, by decide +kernel, by decide +kernel⟩
abbrev s_C_period : Stmt := inClass (top 23) 6
theorem sc_C_period : FnScope ["self"] ["self"] (defScope s_C_period) := ⟨rfl, rfl, rfl, by decide +kernel, rfl, by decide +kernel, by decide +kernel⟩
abbrev s_C_gain : Stmt := inClass (top 23) 7
theorem sc_C_gain : FnScope ["self"] ["self"] (defScope s_C_gain) := ⟨rfl, rfl, rfl, by decide +kernel, rfl, by decide +kernel, by decide +kernel⟩
abbrev s_C_first_values : Stmt := inClass (top 23) 9
theorem sc_C_first_values : FnScope ["self"] ["self"] (defScope s_C_first_values) := ⟨rfl, rfl, rfl, by decide +kernel, rfl, by decide +kernel, by decide +kernel⟩
abbrev s_C_at : Stmt := inClass (top 23) 10
theorem sc_C_at : FnScope ["self", "length"] ["self", "length"] (defScope s_C_at) := ⟨rfl, rfl, rfl, by decide +kernel, rfl, by decide +kernel, by decide +kernel⟩
abbrev s_C_at_most : Stmt := inClass (top 23) 11
theorem sc_C_at_most : FnScope ["self", "other", "many", "period", "length"] ["self", "other"] (defScope s_C_at_most) := ⟨rfl, rfl, rfl, by decide +kernel, rfl, by decide +kernel, by decide +kernel⟩
abbrev s_C_later : Stmt := inClass (top 23) 14
theorem sc_C_later : FnScope ["self", "ticks"] ["self", "ticks"] (defScope s_C_later) := ⟨rfl, rfl, rfl, by decide +kernel, rfl, by decide +kernel, by decide +kernel⟩
abbrev s_make_curve : Stmt := top 24
theorem sc_make_curve : FnScope ["values", "period", "gain", "made", "form", "least", "step"] ["values", "period", "gain"] (defScope s_make_curve) := ⟨rfl, rfl, rfl, by decide +kernel, rfl, by decide +kernel, by decide +kernel⟩
abbrev s_find_problem : Stmt := top 25
theorem sc_find_problem : FnScope ["values", "period", "gain", "before", "position", "value"] ["values", "period", "gain"] (defScope s_find_problem) := ⟨rfl, rfl, rfl, by decide +kernel, rfl, by decide +kernel, by decide +kernel⟩
abbrev s_common_writing : Stmt := top 26
theorem sc_common_writing : FnScope ["one", "other", "period", "many", "curve"] ["one", "other"] (defScope s_common_writing) := ⟨rfl, rfl, rfl, by decide +kernel, rfl, by decide +kernel, by decide +kernel⟩
abbrev s_gain_in : Stmt := top 27
theorem sc_gain_in : FnScope ["curve", "ticks"] ["curve", "ticks"] (defScope s_gain_in) := ⟨rfl, rfl, rfl, by decide +kernel, rfl, by decide +kernel, by decide +kernel⟩
abbrev s_l_rng : Stmt := top 29
theorem sc_l_rng : FnScope ["_law_script", "_law_k", "_law_cell"] ["_law_script", "_law_k"] (defScope s_l_rng) := ⟨rfl, rfl, rfl, by decide +kernel, rfl, by decide +kernel, by decide +kernel⟩
abbrev s_l_draw : Stmt := top 30
theorem sc_l_draw : FnScope ["_law_rng_here", "_law_many", "_law_digit"] ["_law_rng_here", "_law_many"] (defScope s_l_draw) := ⟨rfl, rfl, rfl, by decide +kernel, rfl, by decide +kernel, by decide +kernel⟩
abbrev s_l_choice : Stmt := top 31
theorem sc_l_choice : FnScope ["_law_rng_here", "_law_some"] ["_law_rng_here", "_law_some"] (defScope s_l_choice) := ⟨rfl, rfl, rfl, by decide +kernel, rfl, by decide +kernel, by decide +kernel⟩
abbrev s_l_at : Stmt := top 32
theorem sc_l_at : FnScope ["_law_row", "_law_length", "_law_values", "_law_cycle", "_law_rise", "_law_times"] ["_law_row", "_law_length"] (defScope s_l_at) := ⟨rfl, rfl, rfl, by decide +kernel, rfl, by decide +kernel, by decide +kernel⟩
abbrev s_l_any_row : Stmt := top 33
theorem sc_l_any_row : FnScope ["_law_rng_here", "_law_most", "_law_values", "_law_turn", "_law_cycle", "_law_low", "_law_one"] ["_law_rng_here", "_law_most"] (defScope s_l_any_row) := ⟨rfl, rfl, rfl, by decide +kernel, rfl, by decide +kernel, by decide +kernel⟩
abbrev s_l_curve : Stmt := top 34
theorem sc_l_curve : FnScope ["_law_row"] ["_law_row"] (defScope s_l_curve) := ⟨rfl, rfl, rfl, by decide +kernel, rfl, by decide +kernel, by decide +kernel⟩
abbrev s_l_near : Stmt := top 35
theorem sc_l_near : FnScope ["_law_rng_here", "_law_row", "_law_values", "_law_cycle", "_law_rise", "_law_at_here", "_law_by", "_law_rising", "_law_low", "_law_one", "_law_other"] ["_law_rng_here", "_law_row"] (defScope s_l_near) := ⟨rfl, rfl, rfl, by decide +kernel, rfl, by decide +kernel, by decide +kernel⟩
abbrev s_l_lengths : Stmt := top 36
theorem sc_l_lengths : FnScope ["_law_rng_here"] ["_law_rng_here"] (defScope s_l_lengths) := ⟨rfl, rfl, rfl, by decide +kernel, rfl, by decide +kernel, by decide +kernel⟩
abbrev s_l_later_at : Stmt := top 37
theorem sc_l_later_at : FnScope ["_law_row", "_law_ticks", "_law_length"] ["_law_row", "_law_ticks", "_law_length"] (defScope s_l_later_at) := ⟨rfl, rfl, rfl, by decide +kernel, rfl, by decide +kernel, by decide +kernel⟩
abbrev s_l_is_at_most : Stmt := top 38
theorem sc_l_is_at_most : FnScope ["_law_one", "_law_ticks", "_law_other", "_law_more", "_law_length"] ["_law_one", "_law_ticks", "_law_other", "_law_more"] (defScope s_l_is_at_most) := ⟨rfl, rfl, rfl, by decide +kernel, rfl, by decide +kernel, by decide +kernel⟩
abbrev s_l_sum_row : Stmt := top 39
theorem sc_l_sum_row : FnScope ["_law_one", "_law_other", "_law_many", "_law_values", "_law_k"] ["_law_one", "_law_other"] (defScope s_l_sum_row) := ⟨rfl, rfl, rfl, by decide +kernel, rfl, by decide +kernel, by decide +kernel⟩
abbrev s_l_is_written : Stmt := top 40
theorem sc_l_is_written : FnScope ["_law_row"] ["_law_row"] (defScope s_l_is_written) := ⟨rfl, rfl, rfl, by decide +kernel, rfl, by decide +kernel, by decide +kernel⟩
abbrev s_l_sums_right : Stmt := top 41
theorem sc_l_sums_right : FnScope ["_law_rng_here", "_law_rows", "_law_one", "_law_other", "_law_third", "_law_both", "_law_back", "_law_three", "_law_length", "_law_due", "_law_row"] ["_law_rng_here", "_law_rows"] (defScope s_l_sums_right) := ⟨rfl, rfl, rfl, by decide +kernel, rfl, by decide +kernel, by decide +kernel⟩
abbrev s_l_most_right : Stmt := top 42
theorem sc_l_most_right : FnScope ["_law_rng_here", "_law_rows", "_law_some", "_law_row", "_law_ticks", "_law_one", "_law_due", "_law_more", "_law_other"] ["_law_rng_here", "_law_rows"] (defScope s_l_most_right) := ⟨rfl, rfl, rfl, by decide +kernel, rfl, by decide +kernel, by decide +kernel⟩
abbrev s_l_later_right : Stmt := top 43
theorem sc_l_later_right : FnScope ["_law_rng_here", "_law_row", "_law_curve_here", "_law_ticks", "_law_told", "_law_length", "_law_more", "_law_shown", "_law_one"] ["_law_rng_here", "_law_row"] (defScope s_l_later_right) := ⟨rfl, rfl, rfl, by decide +kernel, rfl, by decide +kernel, by decide +kernel⟩
abbrev s_l_later_refused : Stmt := top 44
theorem sc_l_later_refused : FnScope ["_law_rng_here", "_law_row", "_law_thing", "_law_found", "e", "_law_others"] ["_law_rng_here", "_law_row"] (defScope s_l_later_refused) := ⟨rfl, rfl, rfl, by decide +kernel, rfl, by decide +kernel, by decide +kernel⟩
abbrev s_l_right : Stmt := top 45
theorem sc_l_right : FnScope ["_law_rng_here", "_law_most", "_law_rows", "_law_k"] ["_law_rng_here"] (defScope s_l_right) := ⟨rfl, rfl, rfl, by decide +kernel, rfl, by decide +kernel, by decide +kernel⟩
abbrev s_law : Stmt := top 46
theorem sc_law : FnScope ["_law_script", "_law_k"] ["_law_script"] (defScope s_law) := ⟨rfl, rfl, rfl, by decide +kernel, rfl, by decide +kernel, by decide +kernel⟩
structure Ad where
  InvalidCount : Addr
  DueError : Addr
  InvalidCurve : Addr
  InvalidLength : Addr
  InvalidPiece : Addr
  f_InvalidCount_init : Addr
  d_InvalidCount_init : FuncData
  f_is_integer : Addr
  d_is_integer : FuncData
  f_is_count : Addr
  d_is_count : FuncData
  f_is_count_to : Addr
  d_is_count_to : FuncData
  f_require_count_to : Addr
  d_require_count_to : FuncData
  f_rounded_up : Addr
  d_rounded_up : FuncData
  f_value_at : Addr
  d_value_at : FuncData
  f_least_form : Addr
  d_least_form : FuncData
  f_least_period : Addr
  d_least_period : FuncData
  f_C_init : Addr
  d_C_init : FuncData
  f_C_eq : Addr
  d_C_eq : FuncData
  f_C_repr : Addr
  d_C_repr : FuncData
  f_C_add : Addr
  d_C_add : FuncData
  f_C_period : Addr
  d_C_period : FuncData
  p_C_period : Addr
  f_C_gain : Addr
  d_C_gain : FuncData
  p_C_gain : Addr
  f_C_first_values : Addr
  d_C_first_values : FuncData
  f_C_at : Addr
  d_C_at : FuncData
  f_C_at_most : Addr
  d_C_at_most : FuncData
  f_C_later : Addr
  d_C_later : FuncData
  f_make_curve : Addr
  d_make_curve : FuncData
  f_find_problem : Addr
  d_find_problem : FuncData
  f_common_writing : Addr
  d_common_writing : FuncData
  f_gain_in : Addr
  d_gain_in : FuncData
  f_l_rng : Addr
  d_l_rng : FuncData
  f_l_draw : Addr
  d_l_draw : FuncData
  f_l_choice : Addr
  d_l_choice : FuncData
  f_l_at : Addr
  d_l_at : FuncData
  f_l_any_row : Addr
  d_l_any_row : FuncData
  f_l_curve : Addr
  d_l_curve : FuncData
  f_l_near : Addr
  d_l_near : FuncData
  f_l_lengths : Addr
  d_l_lengths : FuncData
  f_l_later_at : Addr
  d_l_later_at : FuncData
  f_l_is_at_most : Addr
  d_l_is_at_most : FuncData
  f_l_sum_row : Addr
  d_l_sum_row : FuncData
  f_l_is_written : Addr
  d_l_is_written : FuncData
  f_l_sums_right : Addr
  d_l_sums_right : FuncData
  f_l_most_right : Addr
  d_l_most_right : FuncData
  f_l_later_right : Addr
  d_l_later_right : FuncData
  f_l_later_refused : Addr
  d_l_later_refused : FuncData
  f_l_right : Addr
  d_l_right : FuncData
  f_law : Addr
  d_law : FuncData
  Curve : Addr
  t_MAX_VALUES : Tok
  t_MAX_VALUE : Tok
  t_MAX_LATER : Tok
  a_PERIODS : Addr
structure Txt (K : PySem.W.Frag) (mg : Str → Option Value) (A : Ad) : Prop where
  fun_lcm : mg "lcm" = some (.builtin "math.lcm")
  m_DueError : mg "DueError" = some (.ref A.DueError)
  m_InvalidCurve : mg "InvalidCurve" = some (.ref A.InvalidCurve)
  m_InvalidLength : mg "InvalidLength" = some (.ref A.InvalidLength)
  m_InvalidPiece : mg "InvalidPiece" = some (.ref A.InvalidPiece)
  m_InvalidCount : mg "InvalidCount" = some (.ref A.InvalidCount)
  O_InvalidCount : VX.Own K A.InvalidCount
  xf_InvalidCount : XfC K A.InvalidCount
  as_InvalidCount : VX.Asked K A.InvalidCount
  ex_InvalidCount : PySem.W.exmOne K (.ref A.InvalidCount) (.ref A.InvalidCount) = some true
  iC_InvalidCount : PySem.W.findIn K (.ref A.InvalidCount) "__init__" = some (some (.ref A.f_InvalidCount_init))
  tI_InvalidCount : PySem.W.typeIn K (.ref A.f_InvalidCount_init) = some (.type "function")
  n_InvalidCount_value : PySem.W.findIn K (.ref A.InvalidCount) "value" = some none
  ex_InvalidCount_DueError : PySem.W.exmOne K (.ref A.InvalidCount) (.ref A.DueError) = some true
  kt_InvalidCount_InvalidCount : PySem.W.kitOne K (.ref A.InvalidCount) (.ref A.InvalidCount) = some true
  kt_InvalidCount_InvalidCurve_InvalidLength_InvalidPiece : PySem.W.kitAny K (.ref A.InvalidCount) [.ref A.InvalidCurve, .ref A.InvalidLength, .ref A.InvalidPiece] = some false
  ic_Curve : VN.IsC K A.Curve
  sf_Curve : PySem.W.selfFirst K A.Curve = true
  F_InvalidCount_init : Fun K "__init__" "InvalidCount.__init__" s_InvalidCount_init A.f_InvalidCount_init A.d_InvalidCount_init
  b_InvalidCount_init : Binds K A.d_InvalidCount_init ["self", "value"] []
  F_is_integer : Fun K "is_integer" "is_integer" s_is_integer A.f_is_integer A.d_is_integer
  m_is_integer : mg "is_integer" = some (.ref A.f_is_integer)
  k_is_integer : PySem.W.keepIn K (.ref A.f_is_integer) = true
  b_is_integer : Binds K A.d_is_integer ["value"] []
  F_is_count : Fun K "is_count" "is_count" s_is_count A.f_is_count A.d_is_count
  m_is_count : mg "is_count" = some (.ref A.f_is_count)
  k_is_count : PySem.W.keepIn K (.ref A.f_is_count) = true
  b_is_count : Binds K A.d_is_count ["value"] []
  F_is_count_to : Fun K "is_count_to" "is_count_to" s_is_count_to A.f_is_count_to A.d_is_count_to
  m_is_count_to : mg "is_count_to" = some (.ref A.f_is_count_to)
  k_is_count_to : PySem.W.keepIn K (.ref A.f_is_count_to) = true
  b_is_count_to : Binds K A.d_is_count_to ["value", "most"] []
  F_require_count_to : Fun K "require_count_to" "require_count_to" s_require_count_to A.f_require_count_to A.d_require_count_to
  m_require_count_to : mg "require_count_to" = some (.ref A.f_require_count_to)
  k_require_count_to : PySem.W.keepIn K (.ref A.f_require_count_to) = true
  b_require_count_to : Binds K A.d_require_count_to ["value", "most"] []
  F_rounded_up : Fun K "rounded_up" "rounded_up" s_rounded_up A.f_rounded_up A.d_rounded_up
  m_rounded_up : mg "rounded_up" = some (.ref A.f_rounded_up)
  k_rounded_up : PySem.W.keepIn K (.ref A.f_rounded_up) = true
  b_rounded_up : Binds K A.d_rounded_up ["units", "parts"] []
  F_value_at : Fun K "value_at" "value_at" s_value_at A.f_value_at A.d_value_at
  m_value_at : mg "value_at" = some (.ref A.f_value_at)
  k_value_at : PySem.W.keepIn K (.ref A.f_value_at) = true
  b_value_at : Binds K A.d_value_at ["values", "period", "gain", "length"] []
  F_least_form : Fun K "least_form" "least_form" s_least_form A.f_least_form A.d_least_form
  m_least_form : mg "least_form" = some (.ref A.f_least_form)
  k_least_form : PySem.W.keepIn K (.ref A.f_least_form) = true
  b_least_form : Binds K A.d_least_form ["values", "period", "gain"] []
  F_least_period : Fun K "least_period" "least_period" s_least_period A.f_least_period A.d_least_period
  m_least_period : mg "least_period" = some (.ref A.f_least_period)
  k_least_period : PySem.W.keepIn K (.ref A.f_least_period) = true
  b_least_period : Binds K A.d_least_period ["row", "many", "period"] []
  F_C_eq : Fun K "__eq__" "Curve.__eq__" s_C_eq A.f_C_eq A.d_C_eq
  b_C_eq : Binds K A.d_C_eq ["self", "other"] []
  me___eq__ : Meth K A.Curve "__eq__" A.f_C_eq
  F_C_repr : Fun K "__repr__" "Curve.__repr__" s_C_repr A.f_C_repr A.d_C_repr
  b_C_repr : Binds K A.d_C_repr ["self"] []
  me___repr__ : Meth K A.Curve "__repr__" A.f_C_repr
  F_C_add : Fun K "__add__" "Curve.__add__" s_C_add A.f_C_add A.d_C_add
  b_C_add : Binds K A.d_C_add ["self", "other"] []
  me___add__ : Meth K A.Curve "__add__" A.f_C_add
  F_C_period : Fun K "period" "Curve.period" s_C_period A.f_C_period A.d_C_period
  b_C_period : Binds K A.d_C_period ["self"] []
  pr_C_period : PropOf K A.Curve "period" A.p_C_period A.f_C_period
  F_C_gain : Fun K "gain" "Curve.gain" s_C_gain A.f_C_gain A.d_C_gain
  b_C_gain : Binds K A.d_C_gain ["self"] []
  pr_C_gain : PropOf K A.Curve "gain" A.p_C_gain A.f_C_gain
  F_C_first_values : Fun K "first_values" "Curve.first_values" s_C_first_values A.f_C_first_values A.d_C_first_values
  b_C_first_values : Binds K A.d_C_first_values ["self"] []
  me_first_values : Meth K A.Curve "first_values" A.f_C_first_values
  F_C_at : Fun K "at" "Curve.at" s_C_at A.f_C_at A.d_C_at
  b_C_at : Binds K A.d_C_at ["self", "length"] []
  me_at : Meth K A.Curve "at" A.f_C_at
  F_C_at_most : Fun K "at_most" "Curve.at_most" s_C_at_most A.f_C_at_most A.d_C_at_most
  b_C_at_most : Binds K A.d_C_at_most ["self", "other"] []
  me_at_most : Meth K A.Curve "at_most" A.f_C_at_most
  F_C_later : Fun K "later" "Curve.later" s_C_later A.f_C_later A.d_C_later
  b_C_later : Binds K A.d_C_later ["self", "ticks"] []
  me_later : Meth K A.Curve "later" A.f_C_later
  F_make_curve : Fun K "make_curve" "make_curve" s_make_curve A.f_make_curve A.d_make_curve
  m_make_curve : mg "make_curve" = some (.ref A.f_make_curve)
  k_make_curve : PySem.W.keepIn K (.ref A.f_make_curve) = true
  b_make_curve : Binds K A.d_make_curve ["values", "period", "gain"] []
  F_find_problem : Fun K "find_problem" "find_problem" s_find_problem A.f_find_problem A.d_find_problem
  m_find_problem : mg "find_problem" = some (.ref A.f_find_problem)
  k_find_problem : PySem.W.keepIn K (.ref A.f_find_problem) = true
  b_find_problem : Binds K A.d_find_problem ["values", "period", "gain"] []
  F_common_writing : Fun K "common_writing" "common_writing" s_common_writing A.f_common_writing A.d_common_writing
  m_common_writing : mg "common_writing" = some (.ref A.f_common_writing)
  k_common_writing : PySem.W.keepIn K (.ref A.f_common_writing) = true
  b_common_writing : Binds K A.d_common_writing ["one", "other"] []
  F_gain_in : Fun K "gain_in" "gain_in" s_gain_in A.f_gain_in A.d_gain_in
  m_gain_in : mg "gain_in" = some (.ref A.f_gain_in)
  k_gain_in : PySem.W.keepIn K (.ref A.f_gain_in) = true
  b_gain_in : Binds K A.d_gain_in ["curve", "ticks"] []
  F_l_rng : Fun K "_law_rng" "_law_rng" s_l_rng A.f_l_rng A.d_l_rng
  m_l_rng : mg "_law_rng" = some (.ref A.f_l_rng)
  k_l_rng : PySem.W.keepIn K (.ref A.f_l_rng) = true
  b_l_rng : Binds K A.d_l_rng ["_law_script", "_law_k"] []
  F_l_draw : Fun K "_law_draw" "_law_draw" s_l_draw A.f_l_draw A.d_l_draw
  m_l_draw : mg "_law_draw" = some (.ref A.f_l_draw)
  k_l_draw : PySem.W.keepIn K (.ref A.f_l_draw) = true
  b_l_draw : Binds K A.d_l_draw ["_law_rng_here", "_law_many"] []
  F_l_choice : Fun K "_law_choice" "_law_choice" s_l_choice A.f_l_choice A.d_l_choice
  m_l_choice : mg "_law_choice" = some (.ref A.f_l_choice)
  k_l_choice : PySem.W.keepIn K (.ref A.f_l_choice) = true
  b_l_choice : Binds K A.d_l_choice ["_law_rng_here", "_law_some"] []
  F_l_at : Fun K "_law_at" "_law_at" s_l_at A.f_l_at A.d_l_at
  m_l_at : mg "_law_at" = some (.ref A.f_l_at)
  k_l_at : PySem.W.keepIn K (.ref A.f_l_at) = true
  b_l_at : Binds K A.d_l_at ["_law_row", "_law_length"] []
  F_l_any_row : Fun K "_law_any_row" "_law_any_row" s_l_any_row A.f_l_any_row A.d_l_any_row
  m_l_any_row : mg "_law_any_row" = some (.ref A.f_l_any_row)
  k_l_any_row : PySem.W.keepIn K (.ref A.f_l_any_row) = true
  b_l_any_row : Binds K A.d_l_any_row ["_law_rng_here", "_law_most"] []
  F_l_curve : Fun K "_law_curve" "_law_curve" s_l_curve A.f_l_curve A.d_l_curve
  m_l_curve : mg "_law_curve" = some (.ref A.f_l_curve)
  k_l_curve : PySem.W.keepIn K (.ref A.f_l_curve) = true
  b_l_curve : Binds K A.d_l_curve ["_law_row"] []
  F_l_near : Fun K "_law_near" "_law_near" s_l_near A.f_l_near A.d_l_near
  m_l_near : mg "_law_near" = some (.ref A.f_l_near)
  k_l_near : PySem.W.keepIn K (.ref A.f_l_near) = true
  b_l_near : Binds K A.d_l_near ["_law_rng_here", "_law_row"] []
  F_l_lengths : Fun K "_law_lengths" "_law_lengths" s_l_lengths A.f_l_lengths A.d_l_lengths
  m_l_lengths : mg "_law_lengths" = some (.ref A.f_l_lengths)
  k_l_lengths : PySem.W.keepIn K (.ref A.f_l_lengths) = true
  b_l_lengths : Binds K A.d_l_lengths ["_law_rng_here"] []
  F_l_later_at : Fun K "_law_later_at" "_law_later_at" s_l_later_at A.f_l_later_at A.d_l_later_at
  m_l_later_at : mg "_law_later_at" = some (.ref A.f_l_later_at)
  k_l_later_at : PySem.W.keepIn K (.ref A.f_l_later_at) = true
  b_l_later_at : Binds K A.d_l_later_at ["_law_row", "_law_ticks", "_law_length"] []
  F_l_is_at_most : Fun K "_law_is_at_most" "_law_is_at_most" s_l_is_at_most A.f_l_is_at_most A.d_l_is_at_most
  m_l_is_at_most : mg "_law_is_at_most" = some (.ref A.f_l_is_at_most)
  k_l_is_at_most : PySem.W.keepIn K (.ref A.f_l_is_at_most) = true
  b_l_is_at_most : Binds K A.d_l_is_at_most ["_law_one", "_law_ticks", "_law_other", "_law_more"] []
  F_l_sum_row : Fun K "_law_sum_row" "_law_sum_row" s_l_sum_row A.f_l_sum_row A.d_l_sum_row
  m_l_sum_row : mg "_law_sum_row" = some (.ref A.f_l_sum_row)
  k_l_sum_row : PySem.W.keepIn K (.ref A.f_l_sum_row) = true
  b_l_sum_row : Binds K A.d_l_sum_row ["_law_one", "_law_other"] []
  F_l_is_written : Fun K "_law_is_written" "_law_is_written" s_l_is_written A.f_l_is_written A.d_l_is_written
  m_l_is_written : mg "_law_is_written" = some (.ref A.f_l_is_written)
  k_l_is_written : PySem.W.keepIn K (.ref A.f_l_is_written) = true
  b_l_is_written : Binds K A.d_l_is_written ["_law_row"] []
  F_l_sums_right : Fun K "_law_sums_right" "_law_sums_right" s_l_sums_right A.f_l_sums_right A.d_l_sums_right
  m_l_sums_right : mg "_law_sums_right" = some (.ref A.f_l_sums_right)
  k_l_sums_right : PySem.W.keepIn K (.ref A.f_l_sums_right) = true
  b_l_sums_right : Binds K A.d_l_sums_right ["_law_rng_here", "_law_rows"] []
  F_l_most_right : Fun K "_law_most_right" "_law_most_right" s_l_most_right A.f_l_most_right A.d_l_most_right
  m_l_most_right : mg "_law_most_right" = some (.ref A.f_l_most_right)
  k_l_most_right : PySem.W.keepIn K (.ref A.f_l_most_right) = true
  b_l_most_right : Binds K A.d_l_most_right ["_law_rng_here", "_law_rows"] []
  F_l_later_right : Fun K "_law_later_right" "_law_later_right" s_l_later_right A.f_l_later_right A.d_l_later_right
  m_l_later_right : mg "_law_later_right" = some (.ref A.f_l_later_right)
  k_l_later_right : PySem.W.keepIn K (.ref A.f_l_later_right) = true
  b_l_later_right : Binds K A.d_l_later_right ["_law_rng_here", "_law_row"] []
  F_l_later_refused : Fun K "_law_later_refused" "_law_later_refused" s_l_later_refused A.f_l_later_refused A.d_l_later_refused
  m_l_later_refused : mg "_law_later_refused" = some (.ref A.f_l_later_refused)
  k_l_later_refused : PySem.W.keepIn K (.ref A.f_l_later_refused) = true
  b_l_later_refused : Binds K A.d_l_later_refused ["_law_rng_here", "_law_row"] []
  F_l_right : Fun K "_law_right" "_law_right" s_l_right A.f_l_right A.d_l_right
  m_l_right : mg "_law_right" = some (.ref A.f_l_right)
  k_l_right : PySem.W.keepIn K (.ref A.f_l_right) = true
  b_l_right : Binds K A.d_l_right ["_law_rng_here"] []
  F_law : Fun K "law" "law" s_law A.f_law A.d_law
  m_law : mg "law" = some (.ref A.f_law)
  k_law : PySem.W.keepIn K (.ref A.f_law) = true
  b_law : Binds K A.d_law ["_law_script"] []
  abs : mg "abs" = none
  all : mg "all" = none
  bool : mg "bool" = none
  divmod : mg "divmod" = none
  enumerate : mg "enumerate" = none
  int : mg "int" = none
  isinstance : mg "isinstance" = none
  len : mg "len" = none
  list : mg "list" = none
  max : mg "max" = none
  min : mg "min" = none
  range : mg "range" = none
  repr : mg "repr" = none
  zip : mg "zip" = none
  v_MAX_VALUES : mg "MAX_VALUES" = some (.int 24 A.t_MAX_VALUES)
  v_MAX_VALUE : mg "MAX_VALUE" = some (.int 2000 A.t_MAX_VALUE)
  v_MAX_LATER : mg "MAX_LATER" = some (.int 100 A.t_MAX_LATER)
  v_PERIODS : mg "PERIODS" = some (.ref A.a_PERIODS)
  periods : ∀ H, SqT K H A.a_PERIODS [.int 1, .int 2, .int 3, .int 4, .int 6, .int 12]
  m_Curve : mg "Curve" = some (.ref A.Curve)
  cl : Cls K A.Curve
  n_values : NoAttr K A.Curve "_values"
  n_period : NoAttr K A.Curve "_period"
  n_gain : NoAttr K A.Curve "_gain"
  n_was_searched : NoAttr K A.Curve "_was_searched"
  n_break : NoAttr K A.Curve "_break"
  F_C_init : FunD K "__init__" "Curve.__init__" (defArgs s_C_init) (defBody s_C_init) (defScope s_C_init) [] [("period", .int 1), ("gain", .int 0)] A.f_C_init A.d_C_init
  M_Curve : Mk K A.Curve A.f_C_init
/-! ### counts -/
/-- the built-in classes of the values that occur -/
def kinds : List String := ["NoneType", "bool", "int", "str", "list", "tuple", "dict"]
def Kd (K : PySem.W.Frag) (H : Hp) (v : V) (n : String) : Prop := TyX K H v (.type n) ∧ n ∈ kinds
theorem Kd.int {K : PySem.W.Frag} {H : Hp} (i : Int) : Kd K H (.int i) "int" := ⟨.base (.int i), by decide⟩
theorem Kd.is_int {K : PySem.W.Frag} {H : Hp} {v : V} (h : Kd K H v "int") : ∃ i, v = .int i := by
  obtain ⟨h, _⟩ := h
  generalize e : Value.type "int" = t at h
  cases h with
  | base b => cases b <;> first | exact ⟨_, rfl⟩ | (injection e with e; exact absurd e (by decide)) | cases e
  | _ => first | (injection e with e; exact absurd e (by decide)) | cases e
/-- a count -/
def cnt : V → Bool
  | .int i => decide (0 ≤ i)
  | _ => false
def cntTo (m : Int) : V → Bool
  | .int i => decide (0 ≤ i ∧ i ≤ m)
  | _ => false
def sp_is_integer (K : PySem.W.Frag) (_ : Ad) : Sp := fun vs H Q _ => ∃ v n, vs = [v] ∧ Kd K H v n ∧ Q (.bl (n == "int")) H
def sp_is_count (K : PySem.W.Frag) (_ : Ad) : Sp := fun vs H Q _ => ∃ v n, vs = [v] ∧ Kd K H v n ∧ Q (.bl (cnt v)) H
def sp_InvalidCount_init (_ : PySem.W.Frag) (A : Ad) : Sp := fun vs H Q _ => ∃ (e : Addr) (y : V), vs = [.ref e, y] ∧ H e = some (exo e A.InvalidCount none) ∧
  ∀ d, H d = none → d ≠ e → Q .non (upd (upd H d (exd d [("value", y)])) e (exo e A.InvalidCount (some d)))
def spR_require_count_to (K : PySem.W.Frag) (A : Ad) : Sp := fun vs H _ E => ∃ v n m, vs = [v, .int m] ∧ Kd K H v n ∧ cntTo m v = false ∧ ∀ H' d, Same H H' → H' d = some (.xd [("value", v)]) → E (.ref A.InvalidCount) (some d) H'
def sp_require_count_to (_ : PySem.W.Frag) (_ : Ad) : Sp := fun vs H Q _ => ∃ n m : Int, vs = [.int n, .int m] ∧ 0 ≤ n ∧ n ≤ m ∧ Q .non H
def sp_is_count_to (K : PySem.W.Frag) (_ : Ad) : Sp := fun vs H Q _ => ∃ v n m, vs = [v, .int m] ∧ Kd K H v n ∧ Q (.bl (cntTo m v)) H
def sp_rounded_up (_ : PySem.W.Frag) (_ : Ad) : Sp := fun vs H Q _ => ∃ (u p : Int), vs = [.int u, .int p] ∧ 0 < p ∧ p < 1073741824 ∧ Q (.int ((u + p - 1) / p)) H
section
variable {P : Program} {w : World} {K : PySem.W.Frag} {mg : Str → Option Value} {base : Heap} {A : Ad}
theorem kitI {n : String} (h : n ∈ kinds) : PySem.W.kitOne K (.type n) (.type "int") = some (n == "int" || n == "bool") := by
  simp only [kinds, List.mem_cons, List.not_mem_nil, or_false] at h
  rcases h with rfl | rfl | rfl | rfl | rfl | rfl | rfl <;> exact kit_ty (by decide +kernel)
theorem kitB' {n : String} (h : n ∈ kinds) : PySem.W.kitOne K (.type n) (.type "bool") = some (n == "bool") := by
  simp only [kinds, List.mem_cons, List.not_mem_nil, or_false] at h
  rcases h with rfl | rfl | rfl | rfl | rfl | rfl | rfl <;> exact kit_ty (by decide +kernel)
theorem ok_is_integer (T : Txt K mg A) : FnOk P w K mg base CX0 1 A.f_is_integer A.d_is_integer ["value"] (sp_is_integer K A) := by
  refine T.F_is_integer.ok sc_is_integer (fun vs H Q E h => ?_) (fun cdv A0 outer s H vs Q E hr h => ?_)
  · obtain ⟨v, n, rfl, hk, q⟩ := h
    rfl
  · obtain ⟨v, n, rfl, hk, q⟩ := h
    refine ⟨_, (pss_one (ps_ret (pe_and (pe_callB (r := rIsi K) call_isi (by rfl) T.isinstance (by decide +kernel) (pa_cons (pv 0) (pa_cons (pe_bltn (v := .ty "int") (u := .type "int") (by rfl) T.int (by decide +kernel) (by exact rfl)) pa_nil))) (pe_one (pe_not (pe_callB (r := rIsi K) call_isi (by rfl) T.isinstance (by decide +kernel) (pa_cons (pv 0) (pa_cons (pe_bltn (v := .ty "bool") (u := .type "bool") (by rfl) T.bool (by decide +kernel) (by exact rfl)) pa_nil)))))))), ?_⟩
    refine ⟨_, rfl, v, .ty "int", _, _, _, rfl, .ty _, hk.1, kitI hk.2, _, rfl, ?_⟩
    refine ite2 (fun c => ?_) (fun c => ?_)
    · refine ⟨_, rfl, v, .ty "bool", _, _, _, rfl, .ty _, hk.1, kitB' hk.2, _, rfl, ?_⟩
      by_cases e : n = "bool"
      · subst e; exact q
      · have e1 : (n == "bool") = false := by simpa using e
        rw [e1] at c ⊢
        simp at c
        subst c
        exact q
    · simp at c
      have e1 : (n == "int") = false := by simpa using c.1
      rw [e1] at q
      exact q
theorem ok_is_count (T : Txt K mg A) : FnOk P w K mg base CX0 2 A.f_is_count A.d_is_count ["value"] (sp_is_count K A) := by
  have G_is_integer := ok_is_integer (P := P) (w := w) (base := base) T
  refine T.F_is_count.ok sc_is_count (fun vs H Q E h => ?_) (fun cdv A0 outer s H vs Q E hr h => ?_)
  · obtain ⟨v, n, rfl, hk, q⟩ := h
    rfl
  · obtain ⟨v, n, rfl, hk, q⟩ := h
    refine ⟨_, (pss_one (ps_ret (pe_and (pe_call G_is_integer (hr.mono (by decide)) rfl T.m_is_integer T.k_is_integer T.b_is_integer .nil pass0 (pa_cons (pv 0) pa_nil)) (pe_one (pe_cmpR op_ge (pv 0) pe_int (nomark _)))))), ?_⟩
    refine ⟨_, rfl, v, n, rfl, hk, _, rfl, ?_⟩
    refine ite2 (fun c => ?_) (fun c => ?_)
    · have e : n = "int" := by simpa using c
      subst e
      obtain ⟨i, rfl⟩ := hk.is_int
      exact ⟨_, rfl, _, _, rfl, rfl, q⟩
    · have e : cnt v = false := by
        cases v <;> first | rfl | skip
        obtain ⟨h, _⟩ := hk
        generalize et : Value.type n = t at h
        cases h with
        | base b => cases b; injection et with et; subst et; exact absurd rfl c
      rw [e] at q
      exact q
theorem ok_is_count_to (T : Txt K mg A) : FnOk P w K mg base CX0 3 A.f_is_count_to A.d_is_count_to ["value", "most"] (sp_is_count_to K A) := by
  have G_is_count := ok_is_count (P := P) (w := w) (base := base) T
  refine T.F_is_count_to.ok sc_is_count_to (fun vs H Q E h => ?_) (fun cdv A0 outer s H vs Q E hr h => ?_)
  · obtain ⟨v, n, m, rfl, hk, q⟩ := h
    rfl
  · obtain ⟨v, n, m, rfl, hk, q⟩ := h
    refine ⟨_, (pss_one (ps_ret (pe_and (pe_call G_is_count (hr.mono (by decide)) rfl T.m_is_count T.k_is_count T.b_is_count .nil pass0 (pa_cons (pv 0) pa_nil)) (pe_one (pe_cmpR op_le (pv 0) (pv 1) (nomark _)))))), ?_⟩
    refine ⟨_, rfl, v, n, rfl, hk, _, rfl, ?_⟩
    refine ite2 (fun c => ?_) (fun c => ?_)
    · cases v with
      | int i =>
        have c : 0 ≤ i := by simpa [cnt] using c
        refine ⟨_, rfl, _, rfl, _, _, rfl, rfl, ?_⟩
        have e : cntTo m (.int i) = decide (i ≤ m) := by unfold cntTo; simp [c]
        rw [e] at q
        exact q
      | _ => simp [cnt] at c
    · have e : cntTo m v = false := by
        cases v <;> first | rfl | skip
        rename_i i
        have c : ¬ 0 ≤ i := by simpa [cnt] using c
        unfold cntTo; simp [c]
      rw [e] at q
      exact q
theorem ok_require_count_to (T : Txt K mg A) : FnOk P w K mg base CX0 4 A.f_require_count_to A.d_require_count_to ["value", "most"] (sp_require_count_to K A) := by
  have G_is_count_to := ok_is_count_to (P := P) (w := w) (base := base) T
  refine T.F_require_count_to.ok sc_require_count_to (fun vs H Q E h => ?_) (fun cdv A0 outer s H vs Q E hr h => ?_)
  · obtain ⟨n, m, rfl, h, h2, q⟩ := h
    rfl
  · obtain ⟨n, m, rfl, h, h2, q⟩ := h
    refine ⟨_, (pss_one (ps_if (pt_not (pt_val (pe_call G_is_count_to (hr.mono (by decide)) rfl T.m_is_count_to T.k_is_count_to T.b_is_count_to .nil pass0 (pa_cons (pv 0) (pa_cons (pv 1) pa_nil))))) (pss_one ps_never) pss_nil)), ?_⟩
    refine ⟨_, rfl, _, rfl, _, _, _, rfl, Kd.int _, ?_⟩
    have e1 : cntTo m (.int n) = true := by unfold cntTo; exact decide_eq_true ⟨h, h2⟩
    rw [e1]
    exact ⟨_, rfl, iteF q⟩
theorem ok_InvalidCount_init (T : Txt K mg A) : FnOk P w K mg base CX0 1 A.f_InvalidCount_init A.d_InvalidCount_init ["self", "value"] (sp_InvalidCount_init K A) := by
  refine T.F_InvalidCount_init.ok sc_InvalidCount_init (fun vs H Q E h => ?_) (fun cdv A0 outer s H vs Q E hr h => ?_)
  · obtain ⟨e, y, rfl, he, k⟩ := h
    rfl
  · obtain ⟨e, y, rfl, he, k⟩ := h
    refine ⟨_, (pss_one (VX.ps_put (pv 0) (pv 1))), ?_⟩
    exact ⟨_, rfl, _, rfl, e, A.InvalidCount, rfl, T.O_InvalidCount, T.n_InvalidCount_value, .inl ⟨he, fun d hd hde => k d hd hde⟩⟩
theorem okR_require_count_to (T : Txt K mg A) : FnOk P w K mg base (L2.CX P w) 4 A.f_require_count_to A.d_require_count_to ["value", "most"] (spR_require_count_to K A) := by
  have G_InvalidCount_init := ok_InvalidCount_init (P := P) (w := w) (base := base) T
  have G_is_count_to := ok_is_count_to (P := P) (w := w) (base := base) T
  refine T.F_require_count_to.okX sc_require_count_to (fun vs H Q E h => ?_) (fun cdv A0 outer s H vs Q E hr h => ?_)
  · obtain ⟨v, n, m, rfl, hk, hc, k⟩ := h
    rfl
  · obtain ⟨v, n, m, rfl, hk, hc, k⟩ := h
    refine ⟨_, (pss_one (ps_if (pt_not (pt_val (pe_call G_is_count_to (hr.mono (by decide)) rfl T.m_is_count_to T.k_is_count_to T.b_is_count_to .nil pass0 (pa_cons (pv 0) (pa_cons (pv 1) pa_nil))))) (pss_one (ps_raise rfl (takes_of rfl rfl rfl rfl) (VX.pmk_new T.O_InvalidCount T.iC_InvalidCount T.tI_InvalidCount G_InvalidCount_init (hr.mono (by decide)) T.b_InvalidCount_init pass0 rfl T.m_InvalidCount (pa_cons (pv 0) pa_nil)))) pss_nil)), ?_⟩
    refine ⟨_, rfl, _, rfl, v, n, m, rfl, hk, ?_⟩
    rw [hc]
    refine ⟨_, rfl, iteT ?_⟩
    refine ⟨_, rfl, (by show 1 ≤ 1000; decide), fun e he => ⟨e, _, rfl, upd_same, fun d hd hde => ⟨rfl, d, _, upd_same, ?_, ?_, k _ d (fun c o q => ?_) upd_same⟩⟩⟩
    · rw [upd_ne hde]; exact upd_same
    · rw [upd_ne hde] at hd; exact hd
    · rw [upd_ne hde] at hd
      have nd : c ≠ d := ne_of_none q hd
      have ne : c ≠ e := ne_of_none q he
      rw [upd_ne nd, del_ne ne, upd_ne ne, upd_ne nd, upd_ne ne]
      exact q
theorem ok_rounded_up (T : Txt K mg A) : FnOk P w K mg base CX0 1 A.f_rounded_up A.d_rounded_up ["units", "parts"] (sp_rounded_up K A) := by
  refine T.F_rounded_up.ok sc_rounded_up (fun vs H Q E h => ?_) (fun cdv A0 outer s H vs Q E hr h => ?_)
  · obtain ⟨u, p, rfl, h1, h2, q⟩ := h
    rfl
  · obtain ⟨u, p, rfl, h1, h2, q⟩ := h
    refine ⟨_, (pss_one (ps_ret (pe_op op_fdiv (pe_op op_sub (pe_op op_add (pv 0) (pv 1)) pe_int) (pv 1)))), ?_⟩
    exact ⟨_, rfl, _, rfl, _, _, rfl, rfl, _, _, rfl, rfl, _, rfl, _, _, rfl, rfl, ⟨h1, h2⟩, q⟩
end
end VK


namespace VK
open PySem PySem.Spec PyProof.Rows L2 VM
theorem getD_map {xs : List Int} {j : Nat} (h : j < xs.length) : (xs.map V.int)[j]? = some (.int (xs.getD j 0)) := by
  rw [List.getElem?_map, List.getD_eq_getElem?_getD, List.getElem?_eq_getElem h]
  rfl
theorem at_map {xs : List Int} {i : Int} (h0 : 0 ≤ i) (h : i < xs.length) : atI (xs.map V.int) i = some (.int (xs.getD i.toNat 0)) := by
  have e : i = ((i.toNat : Nat) : Int) := by omega
  rw [e]
  exact atI_nat (getD_map (by omega))
theorem at_back {xs : List Int} {i : Int} (h0 : i < 0) (h : -(xs.length : Int) ≤ i) : atI (xs.map V.int) i = some (.int (xs.getD (i + xs.length).toNat 0)) := by
  unfold atI ixN
  rw [if_neg (by omega), List.length_map, if_pos h]
  show (xs.map V.int)[_]? = _
  exact getD_map (by omega)
theorem deq_int {a b : Int} : decide (V.int a = V.int b) = decide (a = b) := by
  by_cases h : a = b
  · subst h; simp
  · rw [decide_eq_false h, decide_eq_false (fun q => h (V.int.inj q))]
/-- a test of two ints on equality -/
theorem ifEq {a b : Int} {X Y : Prop} (h1 : a = b → X) (h2 : a ≠ b → Y) : if decide (V.int a = V.int b) = true then X else Y := by
  rw [deq_int]
  exact ite2 (fun c => h1 (of_decide_eq_true c)) fun c => h2 fun e => c (decide_eq_true e)
theorem ifD {c X Y : Prop} [Decidable c] (h1 : c → X) (h2 : ¬ c → Y) : if decide c = true then X else Y :=
  ite2 (fun e => h1 (of_decide_eq_true e)) fun e => h2 fun q => e (decide_eq_true q)
def sp_value_at (K : PySem.W.Frag) (_ : Ad) : Sp := fun vs H Q _ => ∃ (l : Addr) (xs : List Int) (p g t : Int), vs = [.ref l, .int p, .int g, .int t] ∧
  SqL K H l (xs.map V.int) ∧ 0 < p ∧ p ≤ xs.length ∧ xs.length ≤ 1000 ∧ 0 ≤ t ∧ t < 2 ^ 62 ∧ Q (.int (cvAt xs p g t)) H
section
variable {P : Program} {w : World} {K : PySem.W.Frag} {mg : Str → Option Value} {base : Heap} {A : Ad}
theorem ok_value_at (T : Txt K mg A) : FnOk P w K mg base CX0 2 A.f_value_at A.d_value_at ["values", "period", "gain", "length"] (sp_value_at K A) := by
  have G_rounded_up := ok_rounded_up (P := P) (w := w) (base := base) T
  refine T.F_value_at.ok sc_value_at (fun vs H Q E h => ?_) (fun cdv A0 outer s H vs Q E hr h => ?_)
  · obtain ⟨l, xs, p, g, t, rfl, hS, hp, hpn, hn, ht, htb, q⟩ := h
    rfl
  · obtain ⟨l, xs, p, g, t, rfl, hS, hp, hpn, hn, ht, htb, q⟩ := h
    refine ⟨_, (pss_cons (ps_if (pt_cmpR op_eq (pv 3) pe_int (nomark _)) (pss_one (ps_ret pe_int)) pss_nil)
    (pss_cons (ps_if (pt_cmpR op_le (pv 3) (pe_callB (r := VG.rLen K) VG.call_len (by rfl) T.len (by decide +kernel) (pa_cons (pv 0) pa_nil)) (nomark _)) (pss_one (ps_ret (pe_ix (r := rIxL K) ix_list (pv 0) (pe_op op_sub (pv 3) pe_int) (fun _ _ => rfl)))) pss_nil)
    (pss_cons (ps_set (i := 4) sc_value_at.nd rfl (by first | exact Or.inl rfl | exact Or.inr rfl) (pe_call G_rounded_up (hr.mono (by decide)) rfl T.m_rounded_up T.k_rounded_up T.b_rounded_up .nil pass0 (pa_cons (pe_op op_sub (pv 3) (pe_callB (r := VG.rLen K) VG.call_len (by rfl) T.len (by decide +kernel) (pa_cons (pv 0) pa_nil))) (pa_cons (pv 1) pa_nil))))
    (pss_one (ps_ret (pe_op op_add (pe_ix (r := rIxL K) ix_list (pv 0) (pe_op op_sub (pe_op op_sub (pv 3) (pe_op op_mul (pv 4) (pv 1))) pe_int) (fun _ _ => rfl)) (pe_op op_mul (pv 4) (pv 2)))))))), ?_⟩
    refine ⟨_, rfl, rfl, _, rfl, ifEq (fun c => ?_) (fun c => ?_)⟩
    · subst c
      rw [cvAt_zero] at q
      exact q
    refine ⟨_, rfl, _, rfl, l, _, rfl, .inl hS, _, _, rfl, rfl, _, rfl, ifD (fun c1 => ?_) (fun c1 => ?_)⟩
    · rw [List.length_map] at c1
      rw [cvAt_in (by omega) c1] at q
      exact ⟨_, rfl, _, rfl, _, _, rfl, rfl, l, _, _, _, rfl, rfl, hS, at_map (by omega) (by omega), q⟩
    · rw [List.length_map] at c1
      obtain ⟨r1, r2, r3⟩ := rounds_spec (n := (xs.length : Int)) (t := t) hp (by omega)
      have rb : (t - (xs.length : Int) + p - 1) / p ≤ t := by
        have := Int.ediv_le_self p (show 0 ≤ t - (xs.length : Int) + p - 1 by omega)
        omega
      refine ⟨_, rfl, _, rfl, l, _, rfl, .inl hS, _, _, rfl, rfl, _, rfl, _, _, rfl, hp, by omega, ?_⟩
      rw [List.length_map]
      refine ⟨_, rfl, _, rfl, _, rfl, _, rfl, _, _, rfl, rfl, .inl ⟨by omega, by omega⟩, _, _, rfl, rfl, _, _, rfl, rfl, l, _, _, _, rfl, rfl, hS, at_map (by omega) (by omega),
        _, rfl, _, rfl, _, _, rfl, rfl, .inl ⟨by omega, by omega⟩, _, _, rfl, rfl, ?_⟩
      unfold cvAt at q
      rw [if_neg c, if_neg c1] at q
      exact q
end
end VK


namespace VK
open PySem PySem.Spec PyProof.Rows L2 VM
/-- f's values at 0, 1, .. below m -/
def row (f : Int → Int) (m : Nat) : List Int := (List.range m).map fun (i : Nat) => f i
theorem row_length {f : Int → Int} {m : Nat} : (row f m).length = m := by simp [row]
theorem row_getD {f : Int → Int} {m i : Nat} (h : i < m) : (row f m).getD i 0 = f i := by
  unfold row
  rw [List.getD_eq_getElem?_getD, List.getElem?_map, List.getElem?_range h]
  rfl
theorem at_row {f : Int → Int} {m : Nat} {i : Int} (h0 : 0 ≤ i) (h : i < m) : atI ((row f m).map V.int) i = some (.int (f i)) := by
  rw [at_map h0 (by rw [row_length]; exact h), row_getD (by omega)]
  congr 3; omega
theorem row_succ {f : Int → Int} {m : Nat} : row f (m + 1) = row f m ++ [f m] := by
  unfold row; rw [List.range_succ, List.map_append]; rfl
theorem rowI_succ {f : Int → Int} {m : Nat} : (row f (m + 1)).map V.int = (row f m).map V.int ++ [V.int (f m)] := by
  rw [row_succ, List.map_append]; rfl
theorem small {n : Nat} (h : n ≤ 16777215) : n < sizeLine := by rw [sizeLine_eq]; omega
/-- a new object leaves what was tracked -/
theorem Same.upd {H H' : Hp} {p : Addr} {o : HO} (e : Same H H') (h : H p = none) : Same H (upd H' p o) := fun b u q => by
  rw [upd_ne (ne_of_none q h)]; exact e b u q
theorem steps_eq {f : Int → Int} {n p d m M : Int} (hp : 0 < p)
    (h1 : m ∈ row (fun i => f (n + 1 + i) - f (n + 1 + i - d)) p.toNat) (h2 : ∀ y ∈ row (fun i => f (n + 1 + i) - f (n + 1 + i - d)) p.toNat, m ≤ y)
    (h4 : ∀ y ∈ row (fun i => f (n + 1 + i) - f (n + 1 + i - d)) p.toNat, y ≤ M) (h3 : M ∈ row (fun i => f (n + 1 + i) - f (n + 1 + i - d)) p.toNat) :
    m = M ↔ stepsEq f n p d = true := by
  have mem : ∀ y, y ∈ row (fun i => f (n + 1 + i) - f (n + 1 + i - d)) p.toNat ↔ ∃ i : Nat, i < p.toNat ∧ f (n + 1 + i) - f (n + 1 + i - d) = y := by
    intro y
    unfold row
    rw [List.mem_map]
    exact ⟨fun ⟨i, a, b⟩ => ⟨i, List.mem_range.mp a, b⟩, fun ⟨i, a, b⟩ => ⟨i, List.mem_range.mpr a, b⟩⟩
  have f0 := (mem (f (n + 1 + (0 : Nat)) - f (n + 1 + (0 : Nat) - d))).mpr ⟨0, by omega, rfl⟩
  have z : n + 1 + ((0 : Nat) : Int) = n + 1 := by omega
  rw [z] at f0
  unfold stepsEq
  rw [List.all_eq_true]
  constructor
  · intro e i hi
    have hy := (mem _).mpr ⟨i, List.mem_range.mp hi, rfl⟩
    have a := h2 _ hy; have b := h4 _ hy
    have c := h2 _ f0; have d' := h4 _ f0
    exact decide_eq_true (by omega)
  · intro h
    obtain ⟨i, hi, ei⟩ := (mem m).mp h1
    obtain ⟨j, hj, ej⟩ := (mem M).mp h3
    have a := of_decide_eq_true (h i (List.mem_range.mpr hi))
    have b := of_decide_eq_true (h j (List.mem_range.mpr hj))
    omega
def sp_least_period (K : PySem.W.Frag) (_ : Ad) : Sp := fun vs H Q _ => ∃ (l : Addr) (f : Int → Int) (n p : Int), vs = [.ref l, .int n, .int p] ∧
  SqL K H l ((row f (n + p + 1).toNat).map V.int) ∧ 0 < p ∧ 0 ≤ n ∧ p ≤ 1000 ∧ n ≤ 1000 ∧ p ≤ n ∧
  ∀ H' t, Same H H' → H t = none → H' t = some (.tup [.int (leastP f n p).1, .int (leastP f n p).2]) → Q (.ref t) H'
section
variable {P : Program} {w : World} {K : PySem.W.Frag} {mg : Str → Option Value} {base : Heap} {A : Ad}
theorem ok_least_period (T : Txt K mg A) : FnOk P w K mg base CX0 1 A.f_least_period A.d_least_period ["row", "many", "period"] (sp_least_period K A) := by
  refine T.F_least_period.ok sc_least_period (fun vs H Q E h => ?_) (fun cdv A0 outer s H vs Q E hr h => ?_)
  · obtain ⟨l, f, n, p, rfl, hS, hp, hn, hpb, hnb, hpn, k⟩ := h
    rfl
  · obtain ⟨l, f, n, p, rfl, hS, hp, hn, hpb, hnb, hpn, k⟩ := h
    refine ⟨_, (pss_cons (ps_for PassesOwn.never rfl (pi_range2 rfl T.range (pa_cons pe_int (pa_cons (pv 2) pa_nil))) (pg_name (i := 3) sc_least_period.nd rfl (by first | exact Or.inl rfl | exact Or.inr rfl))
      (pss_one (ps_if (pt_cmpR op_eq (pe_op op_mod (pv 2) (pv 3)) pe_int (nomark _)) (pss_cons (ps_setLc (i := 4) (own := [("length", 5)]) (g := gName 5) (tt := tYes) rfl sc_least_period.nd rfl rfl (sw_true rfl rfl rfl (by decide +kernel)) (pi_range2 rfl T.range (pa_cons (pe_op op_add (pv 1) pe_int) (pa_cons (pe_op op_add (pe_op op_add (pv 1) (pv 2)) pe_int) pa_nil))) (blkOk_by (own := [("length", 5)]) (N := ["row", "many", "period", "least", "steps", "length"]) (sc := defScope s_least_period) (by decide +kernel)) (fun _ _ _ _ _ => pg_name (i := 5) sc_least_period.nd rfl (by first | exact Or.inl rfl | exact Or.inr rfl)) (fun _ _ _ _ _ => pts_nil) (fun _ _ _ _ _ => (pe_op op_sub (pe_ix (r := rIxL K) ix_list (pv 0) (pv 5) (fun _ _ => rfl)) (pe_ix (r := rIxL K) ix_list (pv 0) (pe_op op_sub (pv 5) (pv 3)) (fun _ _ => rfl)))))
    (pss_one (ps_if (pt_cmpR op_eq (pe_callB (r := rMin K) (cr_min rfl) (by rfl) T.min (by decide +kernel) (pa_cons (pv 4) pa_nil)) (pe_callB (r := rMax K) (cr_max rfl) (by rfl) T.max (by decide +kernel) (pa_cons (pv 4) pa_nil)) (nomark _)) (pss_one (ps_ret (pe_tup (pa_cons (pv 3) (pa_cons (pe_ix (r := rIxL K) ix_list (pv 4) pe_int (fun _ _ => rfl)) pa_nil))))) pss_nil))) pss_nil)))
    (pss_one (ps_ret (pe_tup (pa_cons (pv 2) (pa_cons (pe_op op_sub (pe_ix (r := rIxL K) ix_list (pv 0) (pe_op op_add (pv 1) (pv 2)) (fun _ _ => rfl)) (pe_ix (r := rIxL K) ix_list (pv 0) (pv 1) (fun _ _ => rfl))) pa_nil)))))), ?_⟩
    refine ⟨_, rfl, _, _, rfl, ⟨by omega, by omega, by omega, by omega⟩, for_range (lo := 1) (n := (p - 1).toNat)
      (fun i σ H' => ∃ v3 v4 v5, σ = [some (.ref l), some (.int n), some (.int p), v3, v4, v5] ∧ Same H H' ∧ leastP f n p = leastFrom f n p ((p - 1).toNat - i) (1 + i))
      ⟨_, _, _, rfl, Same.refl H, rfl⟩ ?_ ?_⟩
    · rintro i' σ H' hi ⟨v3, v4, v5, rfl, s0, e⟩
      have ek : (p - 1).toNat - i' = ((p - 1).toNat - (i' + 1)) + 1 := by omega
      rw [ek] at e
      unfold leastFrom at e
      refine ⟨_, rfl, _, rfl, _, _, rfl, rfl, (show (0 : Int) < 1 + i' by omega), rfl, _, rfl, ifEq (fun c => ?_) (fun c => ?_)⟩
      · refine ⟨_, rfl, _, _, rfl, rfl, _, rfl, _, rfl, _, _, rfl, rfl, _, _, rfl, rfl, _, _, rfl, ⟨by omega, by omega, by omega, by omega⟩, fun D hD => lc_range (lo := n + 1) (n := (n + p + 1 - (n + 1)).toNat)
          (fun j H2 => H2 D = some (.lst ((row (fun i => f (n + 1 + i) - f (n + 1 + i - (1 + i'))) j).map V.int)) ∧ Same H H2) ?_ ?_ ?_⟩
        · exact ⟨upd_same, Same.upd s0 (s0.free hD)⟩
        · rintro j H2 hj ⟨hD2, s2⟩
          refine ⟨rfl, _, rfl, _, rfl, l, _, _, _, rfl, rfl, s2.seq hS, at_row (by omega) (by omega), _, rfl, _, rfl, _, rfl, _, _, rfl, rfl, l, _, _, _, rfl, rfl, s2.seq hS, at_row (by omega) (by omega), _, _, rfl, rfl,
            _, hD2, small (by rw [List.length_map, row_length]; omega), ?_, ?_⟩
          · rw [upd_same, rowI_succ]
          · exact Same.upd s2 (s0.free hD)
        · rintro H2 ⟨hD2, s2⟩
          have eN : (n + p + 1 - (n + 1)).toNat = p.toNat := by omega
          rw [eN] at hD2
          have hl : 0 < (row (fun i => f (n + 1 + i) - f (n + 1 + i - (1 + i'))) p.toNat).length := by rw [row_length]; omega
          refine ⟨_, rfl, D, _, rfl, SqL.of hD2, hl, fun m hm hm2 => ?_⟩
          refine ⟨_, rfl, D, _, rfl, SqL.of hD2, hl, fun M hM hM2 => ?_⟩
          have key := steps_eq hp hm hm2 hM2 hM
          refine ⟨rfl, _, rfl, ifEq (fun c2 => ?_) (fun c2 => ?_)⟩
          · refine ⟨_, rfl, _, rfl, D, _, _, _, rfl, rfl, SqL.of hD2, at_row (by omega) (by omega), (by show 2 ≤ sizeLine; decide), fun t ht => ?_⟩
            rw [if_pos ⟨c, key.mp c2⟩] at e
            refine k _ t (Same.upd s2 (s2.free ht)) (s2.free ht) ?_
            rw [upd_same, e]
            simp
          · refine ⟨_, _, _, rfl, s2, ?_⟩
            rw [if_neg (fun z => c2 (key.mpr z.2))] at e
            rw [e]
            congr 1
      · refine ⟨_, _, _, rfl, s0, ?_⟩
        rw [if_neg (fun z => c z.1)] at e
        rw [e]
        congr 1
    · rintro σ H' ⟨v3, v4, v5, rfl, s0, e⟩
      rw [Nat.sub_self] at e
      unfold leastFrom at e
      refine ⟨_, rfl, _, rfl, _, rfl, _, rfl, _, _, rfl, rfl, l, _, _, _, rfl, rfl, s0.seq hS, at_row (by omega) (by omega), _, rfl, _, rfl, l, _, _, _, rfl, rfl, s0.seq hS, at_row (by omega) (by omega), _, _, rfl, rfl, (by show 2 ≤ sizeLine; decide), fun t ht => ?_⟩
      refine k _ t (Same.upd s0 (s0.free ht)) (s0.free ht) ?_
      rw [upd_same, e]
end
end VK


namespace VK
open PySem PySem.Spec PyProof.Rows L2 VM
theorem cut_nat {xs : List V} {a b : Nat} (h1 : a ≤ xs.length) (h2 : b ≤ xs.length) : cutV xs (some (a : Int)) (some (b : Int)) = (xs.drop a).take (b - a) := by
  unfold cutV
  rw [HT.sIx_nat, HT.sIx_nat, Nat.min_eq_left h1, Nat.min_eq_left h2]
theorem cut_row {f : Int → Int} {N m : Nat} (h : m < N) : cutV ((row f N).map V.int) (some 1) (some ((m : Int) + 1)) = (vals f m).map V.int := by
  have e1 : (1 : Int) = ((1 : Nat) : Int) := rfl
  have e2 : (m : Int) + 1 = ((m + 1 : Nat) : Int) := by omega
  rw [e2]
  rw [show (some 1 : Option Int) = some ((1 : Nat) : Int) from rfl, cut_nat (by rw [List.length_map, row_length]; omega) (by rw [List.length_map, row_length]; omega)]
  rw [← List.map_drop, ← List.map_take]
  congr 1
  apply List.ext_getElem?
  intro i
  unfold row vals
  by_cases hi : i < m
  · rw [List.getElem?_take_of_lt (by omega), List.getElem?_drop, List.getElem?_map, List.getElem?_map, List.getElem?_range (by omega), List.getElem?_range (by omega)]
    simp only [Option.map_some]
    congr 2
    omega
  · rw [List.getElem?_eq_none (by simp; omega), List.getElem?_eq_none (by simp; omega)]
def sp_least_form (K : PySem.W.Frag) (_ : Ad) : Sp := fun vs H Q _ => ∃ (l : Addr) (xs : List Int) (p g : Int), vs = [.ref l, .int p, .int g] ∧
  SqL K H l (xs.map V.int) ∧ 0 < p ∧ p ≤ xs.length ∧ xs.length ≤ 1000 ∧
  ∀ H' t l', Same H H' → H t = none → H l' = none → H' t = some (.tup [.ref l', .int (formP xs p g).1, .int (formP xs p g).2]) → H' l' = some (.lst ((formV xs p g).map V.int)) → Q (.ref t) H'
section
variable {P : Program} {w : World} {K : PySem.W.Frag} {mg : Str → Option Value} {base : Heap} {A : Ad}
theorem ok_least_form (T : Txt K mg A) : FnOk P w K mg base CX0 3 A.f_least_form A.d_least_form ["values", "period", "gain"] (sp_least_form K A) := by
  have G_least_period := ok_least_period (P := P) (w := w) (base := base) T
  have G_value_at := ok_value_at (P := P) (w := w) (base := base) T
  refine T.F_least_form.ok sc_least_form (fun vs H Q E h => ?_) (fun cdv A0 outer s H vs Q E hr h => ?_)
  · obtain ⟨l, xs, p, g, rfl, hS, hp, hpn, hn, k⟩ := h
    rfl
  · obtain ⟨l, xs, p, g, rfl, hS, hp, hpn, hn, k⟩ := h
    refine ⟨_, (pss_cons (ps_set (i := 3) sc_least_form.nd rfl (by first | exact Or.inl rfl | exact Or.inr rfl) (pe_callB (r := VG.rLen K) VG.call_len (by rfl) T.len (by decide +kernel) (pa_cons (pv 0) pa_nil)))
    (pss_cons (ps_setLc (i := 4) (own := [("length", 7)]) (g := gName 7) (tt := tYes) rfl sc_least_form.nd rfl rfl (sw_true rfl rfl rfl (by decide +kernel)) (pi_range1 rfl T.range (pa_cons (pe_op op_add (pe_op op_add (pv 3) (pv 1)) pe_int) pa_nil)) (blkOk_by (own := [("length", 7)]) (N := ["values", "period", "gain", "many", "row", "least", "step", "length"]) (sc := defScope s_least_form) (by decide +kernel)) (fun _ _ _ _ _ => pg_name (i := 7) sc_least_form.nd rfl (by first | exact Or.inl rfl | exact Or.inr rfl)) (fun _ _ _ _ _ => pts_nil) (fun _ _ _ _ _ => (pe_call G_value_at (hr.mono (by decide)) rfl T.m_value_at T.k_value_at T.b_value_at .nil pass0 (pa_cons (pv 0) (pa_cons (pv 1) (pa_cons (pv 2) (pa_cons (pv 7) pa_nil)))))))
    (pss_cons (ps_asg (pe_call G_least_period (hr.mono (by decide)) rfl T.m_least_period T.k_least_period T.b_least_period .nil pass0 (pa_cons (pv 4) (pa_cons (pv 3) (pa_cons (pv 1) pa_nil)))) (pg_tup rfl (pgs_cons (pg_name (i := 5) sc_least_form.nd rfl (by first | exact Or.inl rfl | exact Or.inr rfl)) (pgs_cons (pg_name (i := 6) sc_least_form.nd rfl (by first | exact Or.inl rfl | exact Or.inr rfl)) pgs_nil))))
    (pss_cons (ps_while PassesOwn.never (PW.pt (pw_and (pt_cmpR op_gt (pv 3) (pv 5) (nomark _)) (pw_and1 (pt_cmpR op_eq (pe_ix (r := rIxL K) ix_list (pv 4) (pv 3) (fun _ _ => rfl)) (pe_op op_add (pe_ix (r := rIxL K) ix_list (pv 4) (pe_op op_sub (pv 3) (pv 5)) (fun _ _ => rfl)) (pv 6)) (nomark _))))) (pss_one (ps_aug (i := 3) sc_least_form.nd rfl (.inl rfl) pe_int ip_sub)))
    (pss_one (ps_ret (pe_tup (pa_cons (pe_slice (r := rSlL K) sl_list (pv 4) (po_some pe_int) (po_some (pe_op op_add (pv 3) pe_int))) (pa_cons (pv 5) (pa_cons (pv 6) pa_nil)))))))))), ?_⟩
    refine ⟨_, rfl, l, _, rfl, .inl hS, ?_⟩
    rw [List.length_map]
    refine ⟨_, rfl, _, rfl, _, _, rfl, rfl, _, _, rfl, rfl, _, rfl, by omega, by omega, fun D hD => lc_range (lo := 0) (n := ((xs.length : Int) + p + 1).toNat)
      (fun j H2 => H2 D = some (.lst ((row (cvAt xs p g) j).map V.int)) ∧ Same H H2) ?_ ?_ ?_⟩
    · exact ⟨upd_same, Same.upd (Same.refl H) hD⟩
    · rintro j H2 hj ⟨hD2, s2⟩
      refine ⟨rfl, _, rfl, _, rfl, _, rfl, _, rfl, l, xs, p, g, _, rfl, s2.seq hS, hp, hpn, hn, by omega, by omega, _, hD2, small (by rw [List.length_map, row_length]; omega), ?_, ?_⟩
      · rw [upd_same, rowI_succ]
        rw [Int.zero_add]
      · exact Same.upd s2 hD
    · rintro H2 ⟨hD2, s2⟩
      refine ⟨_, rfl, _, rfl, _, rfl, D, cvAt xs p g, xs.length, p, rfl, SqL.of hD2, hp, by omega, by omega, by omega, hpn, fun H3 t s3 ht0 ht => ?_⟩
      refine ⟨t, _, rfl, .inl (.inl ht), rfl, _, _, rfl, _, _, rfl, rfl, ?_⟩
      obtain ⟨q1, q2, q3⟩ := leastP_spec (Rep.cvAt (g := g) hp hpn) hp
      have hP : formP xs p g = leastP (cvAt xs p g) xs.length p := rfl
      rw [← hP] at q1 q2 ht ⊢
      generalize hd : (formP xs p g).1 = d at *
      generalize hs : (formP xs p g).2 = st at *
      refine ⟨fun (m : Nat) (σ : L2.St) (H' : Hp) => σ = [some (.ref l), some (.int p), some (.int g), some (.int (m : Nat)), some (.ref D), some (.int d), some (.int st), none] ∧ Same H2 H' ∧ m ≤ xs.length ∧ d ≤ m ∧
        shr (cvAt xs p g) d st xs.length = shr (cvAt xs p g) d st m, ⟨xs.length, rfl, s3, Nat.le_refl _, by omega, rfl⟩, ?_⟩
      rintro m σ H4 ⟨rfl, s4, hm, hdm, e⟩
      have hD4 := s4 _ _ hD2
      have s4' : Same H H4 := s2.trans s4
      refine ⟨_, rfl, _, rfl, _, _, rfl, rfl, _, rfl, ifD (fun c => ?_) (fun c => ?_)⟩
      · refine ⟨_, rfl, _, rfl, D, _, _, _, rfl, rfl, SqL.of hD4, at_row (by omega) (by omega), _, rfl, _, rfl, _, rfl, _, _, rfl, rfl, D, _, _, _, rfl, rfl, SqL.of hD4, at_row (by omega) (by omega), _, rfl, _, _, rfl, rfl, rfl, _, rfl, ifEq (fun c2 => ?_) (fun c2 => ?_)⟩
        · refine ⟨fun σ' H' => σ' = [some (.ref l), some (.int p), some (.int g), some (.int ((m : Int) - 1)), some (.ref D), some (.int d), some (.int st), none] ∧ H' = H4, ?_, ?_⟩
          · rintro σ' H' ⟨rfl, rfl⟩
            refine ⟨m - 1, by omega, ?_, s4, by omega, by omega, ?_⟩
            · rw [show (m : Int) - 1 = ((m - 1 : Nat) : Int) by omega]
            · rw [e]
              obtain ⟨m, rfl⟩ : ∃ m', m = m' + 1 := ⟨m - 1, by omega⟩
              show shr (cvAt xs p g) d st (m + 1) = shr (cvAt xs p g) d st m
              conv => lhs; unfold shr
              rw [if_pos ⟨c, c2⟩]
          · exact ⟨_, rfl, _, _, rfl, rfl, rfl, rfl⟩
        · refine ⟨_, rfl, _, rfl, _, rfl, _, _, rfl, rfl, _, rfl, D, _, rfl, SqL.of hD4, fun l' hl' => ⟨_, rfl, _, rfl, (by show 3 ≤ sizeLine; decide), fun t' ht' => ?_⟩⟩
          have em : formM xs p g = m := by
            unfold formM
            rw [hd, hs, e]
            cases m with
            | zero => rfl
            | succ m =>
              unfold shr
              rw [if_neg (fun z => c2 z.2)]
          have nl : l' ≠ t' := fun z => by rw [← z, upd_same] at ht'; cases ht'
          have ht4 : H4 t' = none := by rw [upd_ne (Ne.symm nl)] at ht'; exact ht'
          refine k _ t' l' (Same.upd (Same.upd s4' (s4'.free hl')) (s4'.free ht4)) (s4'.free ht4) (s4'.free hl') upd_same ?_
          rw [upd_ne nl, upd_same]
          unfold formV
          rw [em, cut_row (by omega)]
      · refine ⟨_, rfl, _, rfl, _, rfl, _, _, rfl, rfl, _, rfl, D, _, rfl, SqL.of hD4, fun l' hl' => ⟨_, rfl, _, rfl, (by show 3 ≤ sizeLine; decide), fun t' ht' => ?_⟩⟩
        have em : formM xs p g = m := by
          unfold formM
          rw [hd, hs, e]
          cases m with
            | zero => rfl
            | succ m =>
              unfold shr
              rw [if_neg (fun z => c z.1)]
        have nl : l' ≠ t' := fun z => by rw [← z, upd_same] at ht'; cases ht'
        have ht4 : H4 t' = none := by rw [upd_ne (Ne.symm nl)] at ht'; exact ht'
        refine k _ t' l' (Same.upd (Same.upd s4' (s4'.free hl')) (s4'.free ht4)) (s4'.free ht4) (s4'.free hl') upd_same ?_
        rw [upd_ne nl, upd_same]
        unfold formV
        rw [em, cut_row (by omega)]
end
end VK


namespace VK
open PySem PySem.Spec PyProof.Rows L2 VM
theorem Kd.list {K : PySem.W.Frag} {H : Hp} {l : Addr} {xs : List V} (h : SqL K H l xs) : Kd K H (.ref l) "list" := by
  refine ⟨?_, by decide⟩
  rcases h with (h | ⟨o, h⟩) | ⟨o, its, n, h1, h2, _⟩
  · exact .base (.lst h)
  · exact .base (.frz h)
  · exact .kList h1 h2
/-- a curve as it may be written -/
structure OkRow (xs : List Int) (p g : Int) : Prop where
  l1 : 1 ≤ xs.length
  l2 : xs.length ≤ 24
  lo : ∀ i, i < xs.length → 0 ≤ xs.getD i 0
  hi : ∀ i, i < xs.length → xs.getD i 0 ≤ 2000
  up : ∀ i, i + 1 < xs.length → xs.getD i 0 ≤ xs.getD (i + 1) 0
  per : p = 1 ∨ p = 2 ∨ p = 3 ∨ p = 4 ∨ p = 6 ∨ p = 12
  pn : p ≤ xs.length
  g0 : 0 ≤ g
  g1 : g ≤ 2000
  last : xs.getD (xs.length - 1) 0 ≤ xs.getD (xs.length - p.toNat) 0 + g
def sp_find_problem (K : PySem.W.Frag) (_ : Ad) : Sp := fun vs H Q _ => ∃ (l : Addr) (xs : List Int) (p g : Int), vs = [.ref l, .int p, .int g] ∧
  SqL K H l (xs.map V.int) ∧ OkRow xs p g ∧ ∀ H', Same H H' → Q .non H'
section
variable {P : Program} {w : World} {K : PySem.W.Frag} {mg : Str → Option Value} {base : Heap} {A : Ad}
theorem ok_find_problem (T : Txt K mg A) : FnOk P w K mg base CX0 4 A.f_find_problem A.d_find_problem ["values", "period", "gain"] (sp_find_problem K A) := by
  have G_is_count_to := ok_is_count_to (P := P) (w := w) (base := base) T
  have G_is_integer := ok_is_integer (P := P) (w := w) (base := base) T
  refine T.F_find_problem.ok sc_find_problem (fun vs H Q E h => ?_) (fun cdv A0 outer s H vs Q E hr h => ?_)
  · obtain ⟨l, xs, p, g, rfl, hS, R, k⟩ := h
    rfl
  · obtain ⟨l, xs, p, g, rfl, hS, R, k⟩ := h
    refine ⟨_, (pss_cons (ps_if (pt_not (pt_val (pe_callB (r := rIsi K) call_isi (by rfl) T.isinstance (by decide +kernel) (pa_cons (pv 0) (pa_cons (pe_bltn (v := .ty "list") (u := .type "list") (by rfl) T.list (by decide +kernel) (by exact rfl)) pa_nil))))) (pss_one (ps_ret (pe_tup (pa_cons pe_str (pa_cons pe_int pa_nil))))) pss_nil)
    (pss_cons (ps_if (pt_not (pt_chain op_le op_le pe_int (pe_callB (r := VG.rLen K) VG.call_len (by rfl) T.len (by decide +kernel) (pa_cons (pv 0) pa_nil)) (pe_glob (v := .int 24) rfl T.v_MAX_VALUES ⟨_, rfl⟩))) (pss_one (ps_ret (pe_tup (pa_cons pe_str (pa_cons pe_int pa_nil))))) pss_nil)
    (pss_cons (ps_set (i := 3) sc_find_problem.nd rfl (by first | exact Or.inl rfl | exact Or.inr rfl) pe_int)
    (pss_cons (ps_for PassesOwn.never rfl (pi_enum (by rfl) T.enumerate (pa_cons (pv 0) pa_nil)) (pg_tup rfl (pgs_cons (pg_name (i := 4) sc_find_problem.nd rfl (by first | exact Or.inl rfl | exact Or.inr rfl)) (pgs_cons (pg_name (i := 5) sc_find_problem.nd rfl (by first | exact Or.inl rfl | exact Or.inr rfl)) pgs_nil)))
      (pss_cons (ps_if (PW.pt (pw_or (pt_not (pt_val (pe_call G_is_count_to (hr.mono (by decide)) rfl T.m_is_count_to T.k_is_count_to T.b_is_count_to .nil pass0 (pa_cons (pv 5) (pa_cons (pe_glob (v := .int 2000) rfl T.v_MAX_VALUE ⟨_, rfl⟩) pa_nil))))) (pw_or1 (pt_cmpR op_lt (pv 5) (pv 3) (nomark _))))) (pss_one (ps_ret (pe_tup (pa_cons pe_str (pa_cons (pv 4) pa_nil))))) pss_nil)
    (pss_one (ps_set (i := 3) sc_find_problem.nd rfl (by first | exact Or.inl rfl | exact Or.inr rfl) (pv 5)))))
    (pss_cons (ps_if (PW.pt (pw_or (pt_not (pt_val (pe_call G_is_integer (hr.mono (by decide)) rfl T.m_is_integer T.k_is_integer T.b_is_integer .nil pass0 (pa_cons (pv 1) pa_nil)))) (pw_or (pt_cmpR (r := rIn K true) op_notIn_seq (pv 1) (pe_glob (v := .ref A.a_PERIODS) rfl T.v_PERIODS rfl) (by rfl)) (pw_or1 (pt_cmpR op_gt (pv 1) (pe_callB (r := VG.rLen K) VG.call_len (by rfl) T.len (by decide +kernel) (pa_cons (pv 0) pa_nil)) (nomark _)))))) (pss_one (ps_ret (pe_tup (pa_cons pe_str (pa_cons pe_int pa_nil))))) pss_nil)
    (pss_cons (ps_if (PW.pt (pw_or (pt_not (pt_val (pe_call G_is_count_to (hr.mono (by decide)) rfl T.m_is_count_to T.k_is_count_to T.b_is_count_to .nil pass0 (pa_cons (pv 2) (pa_cons (pe_glob (v := .int 2000) rfl T.v_MAX_VALUE ⟨_, rfl⟩) pa_nil))))) (pw_or1 (pt_cmpR op_lt (pe_op op_add (pe_ix (r := rIxL K) ix_list (pv 0) (pe_un un_neg (pv 1)) (fun _ _ => rfl)) (pv 2)) (pe_ix (r := rIxL K) ix_list (pv 0) (pe_un un_neg pe_int) (fun _ _ => rfl)) (nomark _))))) (pss_one (ps_ret (pe_tup (pa_cons pe_str (pa_cons pe_int pa_nil))))) pss_nil)
    (pss_one (ps_ret pe_non)))))))), ?_⟩
    refine ⟨_, rfl, .ref l, .ty "list", _, _, _, rfl, .ty _, (Kd.list hS).1, (show PySem.W.kitOne K (.type "list") (.type "list") = some true from kit_ty (by decide +kernel)), _, rfl, iteF ?_⟩
    have l1 := R.l1
    have l2 := R.l2
    refine ⟨_, rfl, l, _, rfl, .inl hS, _, _, rfl, rfl, _, rfl, ?_⟩
    rw [List.length_map]
    refine ifD (fun _ => ?_) (fun c => absurd (show (1 : Int) ≤ xs.length by omega) c)
    refine ⟨_, _, rfl, rfl, _, rfl, iteNS (by omega) ?_⟩
    -- before = 0; the loop
    refine ⟨_, rfl, l, _, rfl, hS, for_it (walk_enum (K := K) (a := l) (xs := xs.map V.int)) (fun i σ H' => ∃ v5 v6, σ = [some (.ref l), some (.int p), some (.int g), some (.int (if i = 0 then 0 else xs.getD (i - 1) 0)), v5, v6] ∧ Same H H')
      ⟨_, _, rfl, Same.refl H⟩ (fun i σ H' _ ⟨_, _, _, s0⟩ => s0.seq hS) ?_ ?_⟩
    · rintro i x σ H' H2 hi ⟨v5, v6, rfl, s0⟩ ⟨t, a, b, rfl, ht, rfl, ea, eb⟩
      rw [List.length_map] at hi
      have eb' : (xs.map V.int)[i]? = some b := eb
      rw [getD_map hi] at eb'
      cases ea
      cases eb'
      have s2 : Same H (upd H' t (.tup [.int (i : Nat), .int (xs.getD i 0)])) := Same.upd s0 (s0.free ht)
      refine ⟨t, _, rfl, SqT.of upd_same, rfl, _, _, rfl, _, _, rfl, rfl, ?_⟩
      have r1 := R.lo i hi
      have r2 := R.hi i hi
      refine ⟨_, rfl, _, _, _, rfl, Kd.int _, _, rfl, ?_⟩
      have e1 : cntTo 2000 (.int (xs.getD i 0)) = true := by unfold cntTo; exact decide_eq_true ⟨r1, r2⟩
      rw [e1]
      refine iteF ⟨_, rfl, _, rfl, _, _, rfl, rfl, _, rfl, ?_⟩
      refine ifD (fun c => ?_) (fun c => ?_)
      · exfalso
        by_cases z : i = 0
        · rw [if_pos z] at c; omega
        · rw [if_neg z] at c
          have := R.up (i - 1) (by omega)
          rw [show i - 1 + 1 = i by omega] at this
          omega
      · refine ⟨_, rfl, some (.int (i : Nat)), some (.int (xs.getD i 0)), ?_, s2⟩
        rw [if_neg (Nat.succ_ne_zero i)]
        rfl
    · rintro σ H' ⟨v5, v6, rfl, s0⟩
      have hS' := s0.seq hS
      have pn := R.pn
      have g0 := R.g0
      have g1 := R.g1
      have last := R.last
      have pp : 0 < p ∧ p ≤ 12 := by rcases R.per with h | h | h | h | h | h <;> omega
      refine ⟨_, rfl, _, _, rfl, Kd.int _, _, rfl, iteF ?_⟩
      have inP : inV (.int p) [.int 1, .int 2, .int 3, .int 4, .int 6, .int 12] = true := by
        rcases R.per with h | h | h | h | h | h <;> subst h <;> decide
      refine ⟨_, rfl, A.a_PERIODS, _, rfl, .inr (T.periods H'), rfl, rfl, _, rfl, ?_⟩
      rw [inP]
      refine iteF ⟨_, rfl, _, rfl, l, _, rfl, .inl hS', _, _, rfl, rfl, _, rfl, ?_⟩
      rw [List.length_map]
      refine ifD (fun c => absurd pn (by omega)) (fun _ => ?_)
      have e1 : cntTo 2000 (.int g) = true := by unfold cntTo; exact decide_eq_true ⟨g0, g1⟩
      refine ⟨_, rfl, _, _, _, rfl, Kd.int _, _, rfl, ?_⟩
      rw [e1]
      refine iteF ⟨_, rfl, _, rfl, _, rfl, l, _, _, _, rfl, rfl, hS', at_back (by omega) (by omega), _, rfl, _, _, rfl, rfl, _, rfl, _, rfl, l, _, _, _, rfl, rfl, hS', at_back (by omega) (by omega), _, _, rfl, rfl, _, rfl, ?_⟩
      refine ifD (fun c => ?_) (fun _ => k H' s0)
      exfalso
      rw [show (-p + (xs.length : Int)).toNat = xs.length - p.toNat by omega, show (-1 + (xs.length : Int)).toNat = xs.length - 1 by omega] at c
      omega
end
end VK


namespace VK
open PySem PySem.Spec PyProof.Rows L2 VM
/-- the attributes of a curve -/
def cfs (l : Addr) (p g : Int) (w : Bool) (b : V) : List (Str × V) := [("_values", V.ref l), ("_period", V.int p), ("_gain", V.int g), ("_was_searched", V.bl w), ("_break", b)]
theorem n_vp : ¬ (("_values" : Str) = "_period") := by decide +kernel
theorem n_vg : ¬ (("_values" : Str) = "_gain") := by decide +kernel
theorem n_pg : ¬ (("_period" : Str) = "_gain") := by decide +kernel
theorem n_vw : ¬ (("_values" : Str) = "_was_searched") := by decide +kernel
theorem n_pw : ¬ (("_period" : Str) = "_was_searched") := by decide +kernel
theorem n_gw : ¬ (("_gain" : Str) = "_was_searched") := by decide +kernel
theorem n_vb : ¬ (("_values" : Str) = "_break") := by decide +kernel
theorem n_pb : ¬ (("_period" : Str) = "_break") := by decide +kernel
theorem n_gb : ¬ (("_gain" : Str) = "_break") := by decide +kernel
theorem n_wb : ¬ (("_was_searched" : Str) = "_break") := by decide +kernel
theorem put1 (v : V) : putF "_values" v [] = [(("_values" : Str), v)] := rfl
theorem put2 (v u : V) : putF "_period" u [(("_values" : Str), v)] = [(("_values" : Str), v), ("_period", u)] := by
  show (if ("_values" : Str) = "_period" then _ else (("_values" : Str), v) :: putF "_period" u []) = _
  rw [if_neg n_vp]
  rfl
theorem put3 (v u z : V) : putF "_gain" z [(("_values" : Str), v), ("_period", u)] = [(("_values" : Str), v), ("_period", u), ("_gain", z)] := by
  show (if ("_values" : Str) = "_gain" then _ else (("_values" : Str), v) :: (if ("_period" : Str) = "_gain" then _ else (("_period" : Str), u) :: putF "_gain" z [])) = _
  rw [if_neg n_vg, if_neg n_pg]
  rfl
theorem put4 (v u z y : V) : putF "_was_searched" y [(("_values" : Str), v), ("_period", u), ("_gain", z)] = [(("_values" : Str), v), ("_period", u), ("_gain", z), ("_was_searched", y)] := by
  show (if ("_values" : Str) = "_was_searched" then _ else (("_values" : Str), v) :: (if ("_period" : Str) = "_was_searched" then _ else (("_period" : Str), u) :: (if ("_gain" : Str) = "_was_searched" then _ else (("_gain" : Str), z) :: putF "_was_searched" y []))) = _
  rw [if_neg n_vw, if_neg n_pw, if_neg n_gw]
  rfl
theorem put5 (v u z y x : V) : putF "_break" x [(("_values" : Str), v), ("_period", u), ("_gain", z), ("_was_searched", y)] = [(("_values" : Str), v), ("_period", u), ("_gain", z), ("_was_searched", y), ("_break", x)] := by
  show (if ("_values" : Str) = "_break" then _ else (("_values" : Str), v) :: (if ("_period" : Str) = "_break" then _ else (("_period" : Str), u) :: (if ("_gain" : Str) = "_break" then _ else (("_gain" : Str), z) :: (if ("_was_searched" : Str) = "_break" then _ else (("_was_searched" : Str), y) :: putF "_break" x [])))) = _
  rw [if_neg n_vb, if_neg n_pb, if_neg n_gb, if_neg n_wb]
  rfl
theorem cset_w (l : Addr) (p g : Int) (w : Bool) (b : V) : putF "_was_searched" (.bl true) (cfs l p g w b) = cfs l p g true b := by
  show (if ("_values" : Str) = "_was_searched" then _ else (("_values" : Str), V.ref l) :: (if ("_period" : Str) = "_was_searched" then _ else (("_period" : Str), V.int p) :: (if ("_gain" : Str) = "_was_searched" then _ else (("_gain" : Str), V.int g) :: (if ("_was_searched" : Str) = "_was_searched" then _ else _)))) = _
  rw [if_neg n_vw, if_neg n_pw, if_neg n_gw, if_pos rfl]
  rfl
theorem cset_b (l : Addr) (p g : Int) (w : Bool) (b c : V) : putF "_break" c (cfs l p g w b) = cfs l p g w c := by
  show (if ("_values" : Str) = "_break" then _ else (("_values" : Str), V.ref l) :: (if ("_period" : Str) = "_break" then _ else (("_period" : Str), V.int p) :: (if ("_gain" : Str) = "_break" then _ else (("_gain" : Str), V.int g) :: (if ("_was_searched" : Str) = "_break" then _ else (("_was_searched" : Str), V.bl w) :: (if ("_break" : Str) = "_break" then _ else _))))) = _
  rw [if_neg n_vb, if_neg n_pb, if_neg n_gb, if_neg n_wb, if_pos rfl]
  rfl
theorem cfs_v (l : Addr) (p g : Int) (w : Bool) (b : V) : (cfs l p g w b).lookup ("_values" : Str) = some (.ref l) := by
  unfold cfs; simp [List.lookup]
theorem cfs_p (l : Addr) (p g : Int) (w : Bool) (b : V) : (cfs l p g w b).lookup ("_period" : Str) = some (.int p) := by
  have h : (("_period" : Str) == "_values") = false := by decide +kernel
  unfold cfs; simp [List.lookup, h]
theorem cfs_g (l : Addr) (p g : Int) (w : Bool) (b : V) : (cfs l p g w b).lookup ("_gain" : Str) = some (.int g) := by
  have h : (("_gain" : Str) == "_values") = false := by decide +kernel
  have h2 : (("_gain" : Str) == "_period") = false := by decide +kernel
  unfold cfs; simp [List.lookup, h, h2]
theorem cfs_w (l : Addr) (p g : Int) (w : Bool) (b : V) : (cfs l p g w b).lookup ("_was_searched" : Str) = some (.bl w) := by
  have h : (("_was_searched" : Str) == "_values") = false := by decide +kernel
  have h2 : (("_was_searched" : Str) == "_period") = false := by decide +kernel
  have h3 : (("_was_searched" : Str) == "_gain") = false := by decide +kernel
  unfold cfs; simp [List.lookup, h, h2, h3]
theorem cfs_b (l : Addr) (p g : Int) (w : Bool) (b : V) : (cfs l p g w b).lookup ("_break" : Str) = some b := by
  have h : (("_break" : Str) == "_values") = false := by decide +kernel
  have h2 : (("_break" : Str) == "_period") = false := by decide +kernel
  have h3 : (("_break" : Str) == "_gain") = false := by decide +kernel
  have h4 : (("_break" : Str) == "_was_searched") = false := by decide +kernel
  unfold cfs; simp [List.lookup, h, h2, h3, h4]
theorem cfs_no (l : Addr) (p g : Int) {w : Bool} {b : V} {m : Str} (h1 : (m == ("_values" : Str)) = false) (h2 : (m == ("_period" : Str)) = false) (h3 : (m == ("_gain" : Str)) = false) (h4 : (m == ("_was_searched" : Str)) = false := by decide +kernel) (h5 : (m == ("_break" : Str)) = false := by decide +kernel) : (cfs l p g w b).lookup m = none := by
  unfold cfs; simp [List.lookup, h1, h2, h3, h4, h5]
/-- a curve whose form is this -/
def CrvAt (A : Ad) (H : Hp) (x : Addr) (vs : List Int) (p g : Int) : Prop := ∃ dx l w b, H x = some (.ins A.Curve dx (cfs l p g w b)) ∧ H l = some (.lst (vs.map V.int))
theorem CrvAt.same {A : Ad} {H H' : Hp} {x : Addr} {vs : List Int} {p g : Int} (h : CrvAt A H x vs p g) (s : Same H H') : CrvAt A H' x vs p g := by
  obtain ⟨dx, l, w, b, h1, h2⟩ := h
  exact ⟨dx, l, w, b, s _ _ h1, s _ _ h2⟩
def sp_C_init (K : PySem.W.Frag) (A : Ad) : Sp := fun vs H Q _ => ∃ (x dx l : Addr) (xs : List Int) (p g : Int), vs = [.ref x, .ref l, .int p, .int g] ∧
  H x = some (.ins A.Curve dx []) ∧ SqL K H l (xs.map V.int) ∧ OkRow xs p g ∧
  ∀ H' dx' l', (∀ b o, b ≠ x → H b = some o → H' b = some o) → H l' = none → H' x = some (.ins A.Curve dx' (cfs l' (formP xs p g).1 (formP xs p g).2 false .non)) → H' l' = some (.lst ((formV xs p g).map V.int)) → Q .non H'
def sp_C_at (K : PySem.W.Frag) (A : Ad) : Sp := fun vs H Q _ => ∃ (x : Addr) (xs : List Int) (p g t : Int), vs = [.ref x, .int t] ∧
  CrvAt A H x xs p g ∧ 0 < p ∧ p ≤ xs.length ∧ xs.length ≤ 1000 ∧ 0 ≤ t ∧ t < 2 ^ 62 ∧ Q (.int (cvAt xs p g t)) H
section
variable {P : Program} {w : World} {K : PySem.W.Frag} {mg : Str → Option Value} {base : Heap} {A : Ad}
theorem ok_C_init (T : Txt K mg A) : FnOk P w K mg base CX0 5 A.f_C_init A.d_C_init ["self", "values", "period", "gain"] (sp_C_init K A) := by
  have G_find_problem := ok_find_problem (P := P) (w := w) (base := base) T
  have G_least_form := ok_least_form (P := P) (w := w) (base := base) T
  refine T.F_C_init.ok sc_C_init (fun vs H Q E h => ?_) (fun cdv A0 outer s H vs Q E hr h => ?_)
  · obtain ⟨x, dx, l, xs, p, g, rfl, hx, hS, R, k⟩ := h
    rfl
  · obtain ⟨x, dx, l, xs, p, g, rfl, hx, hS, R, k⟩ := h
    refine ⟨_, (pss_cons (ps_set (i := 4) sc_C_init.nd rfl (by first | exact Or.inl rfl | exact Or.inr rfl) (pe_call G_find_problem (hr.mono (by decide)) rfl T.m_find_problem T.k_find_problem T.b_find_problem .nil pass0 (pa_cons (pv 1) (pa_cons (pv 2) (pa_cons (pv 3) pa_nil)))))
    (pss_cons (ps_if (pt_cmp (pc_notN (pv 4)) rfl) (pss_one ps_never) pss_nil)
    (pss_cons (ps_asg (pe_call G_least_form (hr.mono (by decide)) rfl T.m_least_form T.k_least_form T.b_least_form .nil pass0 (pa_cons (pv 1) (pa_cons (pv 2) (pa_cons (pv 3) pa_nil)))) (pg_tup rfl (pgs_cons (pg_name (i := 5) sc_C_init.nd rfl (by first | exact Or.inl rfl | exact Or.inr rfl)) (pgs_cons (pg_name (i := 6) sc_C_init.nd rfl (by first | exact Or.inl rfl | exact Or.inr rfl)) (pgs_cons (pg_name (i := 7) sc_C_init.nd rfl (by first | exact Or.inl rfl | exact Or.inr rfl)) pgs_nil)))))
    (pss_cons (ps_fld (pv 0) (pv 5) rfl)
    (pss_cons (ps_fld (pv 0) (pv 6) rfl)
    (pss_cons (ps_fld (pv 0) (pv 7) rfl)
    (pss_cons (ps_fld (pv 0) pe_bl rfl)
    (pss_one (ps_fld (pv 0) pe_non rfl))))))))), ?_⟩
    have pp : 0 < p ∧ p ≤ 12 := by rcases R.per with h | h | h | h | h | h <;> omega
    refine ⟨_, rfl, _, rfl, _, rfl, l, xs, p, g, rfl, hS, R, fun H1 s1 => ?_⟩
    refine ⟨_, rfl, _, rfl, iteF ?_⟩
    refine ⟨_, rfl, _, rfl, _, rfl, l, xs, p, g, rfl, s1.seq hS, pp.1, R.pn, by have := R.l2; omega, fun H2 t l' s2 ht0 hl0 ht hl => ?_⟩
    refine ⟨t, _, rfl, SqT.of ht, rfl, _, _, rfl, _, _, rfl, _, _, rfl, rfl, ?_⟩
    have s02 : Same H H2 := s1.trans s2
    have hx2 := s02 _ _ hx
    have nlx : l' ≠ x := fun z => by rw [z, s1 _ _ hx] at hl0; cases hl0
    refine ⟨_, rfl, _, rfl, x, _, dx, _, rfl, hx2, T.cl, T.n_values, (by show 0 < 1000; decide), ?_⟩
    refine ⟨_, rfl, _, rfl, x, _, dx, _, rfl, upd_same, T.cl, T.n_period, (by show 1 < 1000; decide), ?_⟩
    refine ⟨_, rfl, _, rfl, x, _, dx, _, rfl, upd_same, T.cl, T.n_gain, (by rw [put1, put2]; show 2 < 1000; decide), ?_⟩
    refine ⟨_, rfl, x, _, dx, _, rfl, upd_same, T.cl, T.n_was_searched, (by rw [put1, put2, put3]; show 3 < 1000; decide), ?_⟩
    refine ⟨_, rfl, x, _, dx, _, rfl, upd_same, T.cl, T.n_break, (by rw [put1, put2, put3, put4]; show 4 < 1000; decide), ?_⟩
    refine k _ dx l' (fun b o hb e => ?_) (s1.free hl0) ?_ ?_
    · rw [upd_ne hb, upd_ne hb, upd_ne hb, upd_ne hb, upd_ne hb]; exact s02 _ _ e
    · rw [upd_same, put1, put2, put3, put4, put5]; rfl
    · rw [upd_ne nlx, upd_ne nlx, upd_ne nlx, upd_ne nlx, upd_ne nlx]; exact hl
theorem ok_C_at (T : Txt K mg A) : FnOk P w K mg base CX0 3 A.f_C_at A.d_C_at ["self", "length"] (sp_C_at K A) := by
  have G_is_count := ok_is_count (P := P) (w := w) (base := base) T
  have G_value_at := ok_value_at (P := P) (w := w) (base := base) T
  refine T.F_C_at.ok sc_C_at (fun vs H Q E h => ?_) (fun cdv A0 outer s H vs Q E hr h => ?_)
  · obtain ⟨x, xs, p, g, t, rfl, ⟨dx, l, w, b, hx, hl⟩, hp, hpn, hn, ht, htb, q⟩ := h
    rfl
  · obtain ⟨x, xs, p, g, t, rfl, ⟨dx, l, w, b, hx, hl⟩, hp, hpn, hn, ht, htb, q⟩ := h
    refine ⟨_, (pss_cons (ps_if (pt_not (pt_val (pe_call G_is_count (hr.mono (by decide)) rfl T.m_is_count T.k_is_count T.b_is_count .nil pass0 (pa_cons (pv 1) pa_nil)))) (pss_one ps_never) pss_nil)
    (pss_one (ps_ret (pe_call G_value_at (hr.mono (by decide)) rfl T.m_value_at T.k_value_at T.b_value_at .nil pass0 (pa_cons (pe_fld (pv 0) rfl) (pa_cons (pe_fld (pv 0) rfl) (pa_cons (pe_fld (pv 0) rfl) (pa_cons (pv 1) pa_nil)))))))), ?_⟩
    refine ⟨_, rfl, _, _, rfl, Kd.int _, ?_⟩
    have e1 : cnt (.int t) = true := by unfold cnt; exact decide_eq_true ht
    rw [e1]
    refine ⟨_, rfl, iteF ?_⟩
    refine ⟨_, rfl, x, _, dx, _, _, rfl, hx, T.cl, T.n_values, cfs_v _ _ _ _ _, _, rfl, x, _, dx, _, _, rfl, hx, T.cl, T.n_period, cfs_p _ _ _ _ _, _, rfl, x, _, dx, _, _, rfl, hx, T.cl, T.n_gain, cfs_g _ _ _ _ _, _, rfl, l, xs, p, g, t, rfl, SqL.of hl, hp, hpn, hn, ht, htb, q⟩
end
end VK


namespace VK
open PySem PySem.Spec PyProof.Rows L2 VM
/-- the state of draws at r -/
def Rng (H : Hp) (r : Addr) : Prop := ∃ a b : Int, H r = some (.lst [.int a, .int b]) ∧ 0 ≤ a ∧ 0 ≤ b ∧ b < 2147483563
/-- all but the state of draws stands -/
structure Ext (r : Addr) (H H' : Hp) : Prop where
  keep : ∀ b o, b ≠ r → H b = some o → H' b = some o
  rng : Rng H' r
theorem Ext.refl {r : Addr} {H : Hp} (h : Rng H r) : Ext r H H := ⟨fun _ _ _ e => e, h⟩
theorem Ext.trans {r : Addr} {H H1 H2 : Hp} (a : Ext r H H1) (b : Ext r H1 H2) : Ext r H H2 := ⟨fun c o n e => b.keep c o n (a.keep c o n e), b.rng⟩
theorem Rng.same {r : Addr} {H H' : Hp} (h : Rng H r) (s : Same H H') : Rng H' r := by
  obtain ⟨a, b, e, h1, h2, h3⟩ := h
  exact ⟨a, b, s _ _ e, h1, h2, h3⟩
theorem Ext.of {r : Addr} {H H' : Hp} (h : Rng H r) (s : Same H H') : Ext r H H' := ⟨fun b o _ e => s b o e, h.same s⟩
theorem Ext.same {r : Addr} {H H1 H2 : Hp} (a : Ext r H H1) (s : Same H1 H2) : Ext r H H2 := a.trans (.of a.rng s)
theorem Ext.free {r : Addr} {H H' : Hp} {l : Addr} (e : Ext r H H') (h : H' l = none) : H l = none := by
  have n : l ≠ r := fun z => by
    obtain ⟨a, b, q, _⟩ := e.rng
    rw [z, q] at h; cases h
  cases q : H l with
  | none => rfl
  | some o => rw [e.keep l o n q] at h; cases h
theorem Ext.seq {K : PySem.W.Frag} {r : Addr} {H H' : Hp} {a : Addr} {xs : List V} (e : Ext r H H') (n : a ≠ r) (h : SqL K H a xs) : SqL K H' a xs := by
  rcases h with (h | ⟨o, h⟩) | h
  · exact .inl (.inl (e.keep _ _ n h))
  · exact .inl (.inr ⟨o, e.keep _ _ n h⟩)
  · exact .inr h
theorem Rng.ne {r l : Addr} {H : Hp} (h : Rng H r) (hl : H l = none) : l ≠ r := fun z => by
  obtain ⟨a, b, q, _⟩ := h
  rw [z, q] at hl; cases hl
def sp_l_rng (K : PySem.W.Frag) (_ : Ad) : Sp := fun vs H Q _ => ∃ (a : Addr) (ns : List Int) (k : Int), vs = [.ref a, .int k] ∧ SqL K H a (ns.map V.int) ∧ 0 ≤ k ∧ k ≤ 100 ∧
  ∀ H' p, Same H H' → H p = none → Rng H' p → Q (.ref p) H'
def sp_l_draw (_ : PySem.W.Frag) (_ : Ad) : Sp := fun vs H Q _ => ∃ (r : Addr) (m : Int), vs = [.ref r, .int m] ∧ Rng H r ∧ 0 < m ∧ m < 1073741824 ∧
  ∀ H' d, Ext r H H' → 0 ≤ d → d < m → Q (.int d) H'
def sp_l_choice (K : PySem.W.Frag) (_ : Ad) : Sp := fun vs H Q _ => ∃ (r l : Addr) (ys : List V), vs = [.ref r, .ref l] ∧ Rng H r ∧ SqL K H l ys ∧ l ≠ r ∧ 0 < ys.length ∧ ys.length < 1000000 ∧
  ∀ H' v, Ext r H H' → v ∈ ys → Q v H'
def sp_l_at (K : PySem.W.Frag) (_ : Ad) : Sp := fun vs H Q _ => ∃ (t l : Addr) (xs : List Int) (p g s : Int), vs = [.ref t, .int s] ∧ SqT K H t [.ref l, .int p, .int g] ∧
  SqL K H l (xs.map V.int) ∧ 0 < p ∧ p ≤ xs.length ∧ xs.length ≤ 1000 ∧ 0 ≤ s ∧ s < 2 ^ 62 ∧ Q (.int (cvAt xs p g s)) H
section
variable {P : Program} {w : World} {K : PySem.W.Frag} {mg : Str → Option Value} {base : Heap} {A : Ad}
theorem ok_l_rng (T : Txt K mg A) : FnOk P w K mg base CX0 1 A.f_l_rng A.d_l_rng ["_law_script", "_law_k"] (sp_l_rng K A) := by
  refine T.F_l_rng.ok sc_l_rng (fun vs H Q E h => ?_) (fun cdv A0 outer s H vs Q E hr h => ?_)
  · obtain ⟨a, ns, k, rfl, hS, hk, hk2, q⟩ := h
    rfl
  · obtain ⟨a, ns, k, rfl, hS, hk, hk2, q⟩ := h
    refine ⟨_, (pss_cons (ps_set (i := 2) sc_l_rng.nd rfl (by first | exact Or.inl rfl | exact Or.inr rfl) (pe_op op_add (pe_op op_mul pe_int (pv 1)) pe_int))
    (pss_cons (ps_if (pt_cmpR op_lt (pv 1) (pe_callB (r := VG.rLen K) VG.call_len (by rfl) T.len (by decide +kernel) (pa_cons (pv 0) pa_nil)) (nomark _)) (pss_one (ps_set (i := 2) sc_l_rng.nd rfl (by first | exact Or.inl rfl | exact Or.inr rfl) (pe_ix (r := rIxL K) ix_list (pv 0) (pv 1) (fun _ _ => rfl)))) pss_nil)
    (pss_one (ps_ret (pe_lst (pa_cons (pe_callB (call_max2 rfl) (by rfl) T.max (by decide +kernel) (pa_cons pe_int (pa_cons (pe_op op_sub (pe_callB call_abs (by rfl) T.abs (by decide +kernel) (pa_cons (pv 2) pa_nil)) (pe_op op_pow pe_int pe_int)) pa_nil))) (pa_cons (pe_op op_add (pe_op op_mod (pe_op op_mul (pe_callTy call_int1 (by rfl) T.int (by decide +kernel) (pa_cons (pe_op op_add (pe_op op_mod (pe_callTy call_int1 (by rfl) T.int (by decide +kernel) (pa_cons (pe_callB call_abs (by rfl) T.abs (by decide +kernel) (pa_cons (pv 2) pa_nil)) pa_nil)) pe_int) pe_int) pa_nil)) (pe_op op_pow (pe_op op_add (pe_op op_mul pe_int (pv 1)) pe_int) pe_int)) pe_int) pe_int) pa_nil))))))), ?_⟩
    refine ⟨_, rfl, _, _, rfl, rfl, .inl ⟨by decide, by decide⟩, _, _, rfl, rfl, ?_⟩
    refine ⟨_, rfl, _, rfl, a, _, rfl, .inl hS, _, _, rfl, rfl, _, rfl, ?_⟩
    rw [List.length_map]
    have b1 : (2 * k + 5).natAbs < 2 ^ 64 := by omega
    refine ifD (fun c => ?_) (fun c => ?_)
    · refine ⟨_, rfl, _, rfl, a, _, _, _, rfl, rfl, hS, at_map hk c, ?_⟩
      generalize ns.getD k.toNat 0 = c0
      refine ⟨_, rfl, _, rfl, _, _, rfl, rfl, ⟨by decide, by decide, by decide⟩, _, _, rfl, rfl, _, _, rfl, ?_⟩
      have z1 := Int.emod_nonneg (if c0 < 0 then -c0 else c0) (show (2147483549 : Int) ≠ 0 by decide)
      have z2 := Int.emod_lt_of_pos (if c0 < 0 then -c0 else c0) (show (0 : Int) < 2147483549 by decide)
      refine ⟨_, rfl, _, rfl, .inl ⟨_, rfl, _, _, rfl, rfl, (by show (0 : Int) < 2147483549; decide), _, _, rfl, rfl, .inl ⟨_, rfl, _, rfl, _, _, rfl, rfl, .inl ⟨by decide, by decide⟩, _, _, rfl, rfl, _, _, rfl, rfl, ⟨by decide, by decide, b1⟩, _, _, rfl, rfl, .inl ⟨by omega, by omega⟩, _, _, rfl, rfl, (by show (0 : Int) < 2147483543; decide), _, _, rfl, rfl, (by show 2 ≤ sizeLine; decide), fun p hp => ?_⟩⟩⟩
      have z3 := Int.emod_nonneg (((if c0 < 0 then -c0 else c0) % 2147483549 + 1) * (2 * k + 5) ^ Int.toNat 3) (show (2147483543 : Int) ≠ 0 by decide)
      have z4 := Int.emod_lt_of_pos (((if c0 < 0 then -c0 else c0) % 2147483549 + 1) * (2 * k + 5) ^ Int.toNat 3) (show (0 : Int) < 2147483543 by decide)
      refine q _ p (Same.upd (Same.refl H) hp) hp ⟨_, _, upd_same, ?_, by omega, by omega⟩
      by_cases cc : (if c0 < 0 then -c0 else c0) - 10 ^ Int.toNat 18 > 0
      · rw [if_pos cc]; omega
      · rw [if_neg cc]; omega
    · refine ⟨_, rfl, _, rfl, _, _, rfl, rfl, ⟨by decide, by decide, by decide⟩, _, _, rfl, rfl, _, _, rfl, ?_⟩
      have z1 := Int.emod_nonneg (if (7 * k + 3) < 0 then -(7 * k + 3) else (7 * k + 3)) (show (2147483549 : Int) ≠ 0 by decide)
      have z2 := Int.emod_lt_of_pos (if (7 * k + 3) < 0 then -(7 * k + 3) else (7 * k + 3)) (show (0 : Int) < 2147483549 by decide)
      refine ⟨_, rfl, _, rfl, .inl ⟨_, rfl, _, _, rfl, rfl, (by show (0 : Int) < 2147483549; decide), _, _, rfl, rfl, .inl ⟨_, rfl, _, rfl, _, _, rfl, rfl, .inl ⟨by decide, by decide⟩, _, _, rfl, rfl, _, _, rfl, rfl, ⟨by decide, by decide, b1⟩, _, _, rfl, rfl, .inl ⟨by omega, by omega⟩, _, _, rfl, rfl, (by show (0 : Int) < 2147483543; decide), _, _, rfl, rfl, (by show 2 ≤ sizeLine; decide), fun p hp => ?_⟩⟩⟩
      have z3 := Int.emod_nonneg (((if (7 * k + 3) < 0 then -(7 * k + 3) else (7 * k + 3)) % 2147483549 + 1) * (2 * k + 5) ^ Int.toNat 3) (show (2147483543 : Int) ≠ 0 by decide)
      have z4 := Int.emod_lt_of_pos (((if (7 * k + 3) < 0 then -(7 * k + 3) else (7 * k + 3)) % 2147483549 + 1) * (2 * k + 5) ^ Int.toNat 3) (show (0 : Int) < 2147483543 by decide)
      refine q _ p (Same.upd (Same.refl H) hp) hp ⟨_, _, upd_same, ?_, by omega, by omega⟩
      by_cases cc : (if (7 * k + 3) < 0 then -(7 * k + 3) else (7 * k + 3)) - 10 ^ Int.toNat 18 > 0
      · rw [if_pos cc]; omega
      · rw [if_neg cc]; omega
theorem ok_l_draw (T : Txt K mg A) : FnOk P w K mg base CX0 1 A.f_l_draw A.d_l_draw ["_law_rng_here", "_law_many"] (sp_l_draw K A) := by
  refine T.F_l_draw.ok sc_l_draw (fun vs H Q E h => ?_) (fun cdv A0 outer s H vs Q E hr h => ?_)
  · obtain ⟨r, m, rfl, ⟨a, b, hr0, ha, hb, hb2⟩, hm, hm2, q⟩ := h
    rfl
  · obtain ⟨r, m, rfl, ⟨a, b, hr0, ha, hb, hb2⟩, hm, hm2, q⟩ := h
    refine ⟨_, (pss_cons (ps_if (pt_cmpR op_gt (pe_ix (r := rIxL K) ix_list (pv 0) pe_int (fun _ _ => rfl)) pe_int (nomark _)) (pss_cons (ps_asg (pe_callB call_divmod (by rfl) T.divmod (by decide +kernel) (pa_cons (pe_ix (r := rIxL K) ix_list (pv 0) pe_int (fun _ _ => rfl)) (pa_cons (pv 1) pa_nil))) (pg_tup rfl (pgs_cons (pg_sub (pv 0) pe_int set_list) (pgs_cons (pg_name (i := 2) sc_l_draw.nd rfl (by first | exact Or.inl rfl | exact Or.inr rfl)) pgs_nil))))
    (pss_one (ps_ret (pv 2)))) pss_nil)
    (pss_cons (ps_asg (pe_op op_mod (pe_callTy call_int1 (by rfl) T.int (by decide +kernel) (pa_cons (pe_op op_add (pe_op op_mul (pe_ix (r := rIxL K) ix_list (pv 0) pe_int (fun _ _ => rfl)) pe_int) pe_int) pa_nil)) pe_int) (pg_sub (pv 0) pe_int set_list))
    (pss_one (ps_ret (pe_op op_mod (pe_op op_fdiv (pe_op op_mod (pe_callTy call_int1 (by rfl) T.int (by decide +kernel) (pa_cons (pe_op op_mul (pe_ix (r := rIxL K) ix_list (pv 0) pe_int (fun _ _ => rfl)) (pe_ix (r := rIxL K) ix_list (pv 0) pe_int (fun _ _ => rfl))) pa_nil)) pe_int) pe_int) (pv 1)))))), ?_⟩
    refine ⟨_, rfl, r, _, _, _, rfl, rfl, SqL.of hr0, rfl, _, _, rfl, rfl, _, rfl, ifD (fun c => ?_) (fun c => ?_)⟩
    · refine ⟨_, rfl, r, _, _, _, rfl, rfl, SqL.of hr0, rfl, _, rfl, _, _, rfl, ⟨hm, hm2⟩, fun t ht => ?_⟩
      have nrt : r ≠ t := ne_of_none hr0 ht
      refine ⟨t, _, rfl, SqT.of upd_same, rfl, _, _, rfl, _, rfl, r, _, _, 0, rfl, rfl, (by rw [upd_ne nrt]; exact hr0), rfl, _, _, rfl, rfl, ?_⟩
      refine ⟨_, rfl, q _ _ ⟨fun z o hz e => ?_, a / m, b, upd_same, Int.ediv_nonneg ha (by omega), hb, hb2⟩ (Int.emod_nonneg _ (by omega)) (Int.emod_lt_of_pos _ hm)⟩
      rw [upd_ne hz, upd_ne (ne_of_none e ht)]; exact e
    · refine ⟨_, rfl, r, _, _, _, rfl, rfl, SqL.of hr0, rfl, _, _, rfl, rfl, .inl ⟨by omega, by omega⟩, _, _, rfl, rfl, .inl ⟨_, rfl, _, _, rfl, rfl, (by show (0 : Int) < 2147483563; decide), ?_⟩⟩
      have e0 := Int.emod_nonneg (b * 48311 + 20011) (show (2147483563 : Int) ≠ 0 by decide)
      have e1 := Int.emod_lt_of_pos (b * 48311 + 20011) (show (0 : Int) < 2147483563 by decide)
      refine ⟨_, rfl, r, _, _, 1, rfl, rfl, hr0, rfl, ?_⟩
      have hr1 : upd H r (.lst [.int a, .int ((b * 48311 + 20011) % 2147483563)]) r = some (.lst [.int a, .int ((b * 48311 + 20011) % 2147483563)]) := upd_same
      refine ⟨_, rfl, r, [.int a, .int ((b * 48311 + 20011) % 2147483563)], _, _, rfl, rfl, SqL.of hr1, rfl, _, rfl, r, [.int a, .int ((b * 48311 + 20011) % 2147483563)], _, _, rfl, rfl, SqL.of hr1, rfl, _, _, rfl, rfl, .inl ⟨by omega, by omega⟩, .inl ⟨_, rfl, _, _, rfl, rfl, (by show (0 : Int) < 2147483497; decide), _, _, rfl, rfl, ⟨by decide, by decide⟩, _, rfl, _, _, rfl, rfl, hm, ?_⟩⟩
      exact q _ _ ⟨fun z o hz e => by rw [upd_ne hz]; exact e, a, _, hr1, ha, e0, e1⟩ (Int.emod_nonneg _ (by omega)) (Int.emod_lt_of_pos _ hm)
theorem ok_l_choice (T : Txt K mg A) : FnOk P w K mg base CX0 2 A.f_l_choice A.d_l_choice ["_law_rng_here", "_law_some"] (sp_l_choice K A) := by
  have G_l_draw := ok_l_draw (P := P) (w := w) (base := base) T
  refine T.F_l_choice.ok sc_l_choice (fun vs H Q E h => ?_) (fun cdv A0 outer s H vs Q E hr h => ?_)
  · obtain ⟨r, l, ys, rfl, hr0, hS, hl, hy, hy2, q⟩ := h
    rfl
  · obtain ⟨r, l, ys, rfl, hr0, hS, hl, hy, hy2, q⟩ := h
    refine ⟨_, (pss_one (ps_ret (pe_ix (r := rIxL K) ix_list (pv 1) (pe_call G_l_draw (hr.mono (by decide)) rfl T.m_l_draw T.k_l_draw T.b_l_draw .nil pass0 (pa_cons (pv 0) (pa_cons (pe_callB (r := VG.rLen K) VG.call_len (by rfl) T.len (by decide +kernel) (pa_cons (pv 1) pa_nil)) pa_nil))) (fun _ _ => rfl)))), ?_⟩
    refine ⟨_, rfl, _, rfl, _, rfl, l, _, rfl, .inl hS, r, _, rfl, hr0, by omega, by omega, fun H1 d e1 h0 h1 => ?_⟩
    have hd : d.toNat < ys.length := by omega
    refine ⟨l, ys, d, ys[d.toNat], rfl, rfl, e1.seq hl hS, ?_, q H1 _ e1 (List.getElem_mem hd)⟩
    exact at_of (j := d.toNat) (by omega) (List.getElem?_eq_getElem hd)
theorem ok_l_at (T : Txt K mg A) : FnOk P w K mg base CX0 1 A.f_l_at A.d_l_at ["_law_row", "_law_length"] (sp_l_at K A) := by
  refine T.F_l_at.ok sc_l_at (fun vs H Q E h => ?_) (fun cdv A0 outer s H vs Q E hr h => ?_)
  · obtain ⟨t, l, xs, p, g, s, rfl, hT, hS, hp, hpn, hn, hs, hsb, q⟩ := h
    rfl
  · obtain ⟨t, l, xs, p, g, s, rfl, hT, hS, hp, hpn, hn, hs, hsb, q⟩ := h
    refine ⟨_, (pss_cons (ps_asg (pv 0) (pg_tup rfl (pgs_cons (pg_name (i := 2) sc_l_at.nd rfl (by first | exact Or.inl rfl | exact Or.inr rfl)) (pgs_cons (pg_name (i := 3) sc_l_at.nd rfl (by first | exact Or.inl rfl | exact Or.inr rfl)) (pgs_cons (pg_name (i := 4) sc_l_at.nd rfl (by first | exact Or.inl rfl | exact Or.inr rfl)) pgs_nil)))))
    (pss_cons (ps_if (pt_cmpR op_eq (pv 1) pe_int (nomark _)) (pss_one (ps_ret pe_int)) pss_nil)
    (pss_cons (ps_if (pt_cmpR op_le (pv 1) (pe_callB (r := VG.rLen K) VG.call_len (by rfl) T.len (by decide +kernel) (pa_cons (pv 2) pa_nil)) (nomark _)) (pss_one (ps_ret (pe_ix (r := rIxL K) ix_list (pv 2) (pe_op op_sub (pv 1) pe_int) (fun _ _ => rfl)))) pss_nil)
    (pss_cons (ps_set (i := 5) sc_l_at.nd rfl (by first | exact Or.inl rfl | exact Or.inr rfl) (pe_op op_fdiv (pe_op op_sub (pe_op op_add (pe_op op_sub (pv 1) (pe_callB (r := VG.rLen K) VG.call_len (by rfl) T.len (by decide +kernel) (pa_cons (pv 2) pa_nil))) (pv 3)) pe_int) (pv 3)))
    (pss_one (ps_ret (pe_op op_add (pe_ix (r := rIxL K) ix_list (pv 2) (pe_op op_sub (pe_op op_sub (pv 1) (pe_op op_mul (pv 5) (pv 3))) pe_int) (fun _ _ => rfl)) (pe_op op_mul (pv 5) (pv 4))))))))), ?_⟩
    refine ⟨_, rfl, t, _, rfl, hT, rfl, _, _, rfl, _, _, rfl, _, _, rfl, rfl, ?_⟩
    refine ⟨_, rfl, rfl, _, rfl, ifEq (fun c => ?_) (fun c => ?_)⟩
    · subst c
      rw [cvAt_zero] at q
      exact q
    refine ⟨_, rfl, _, rfl, l, _, rfl, .inl hS, _, _, rfl, rfl, _, rfl, ifD (fun c1 => ?_) (fun c1 => ?_)⟩
    · rw [List.length_map] at c1
      rw [cvAt_in (by omega) c1] at q
      exact ⟨_, rfl, _, rfl, _, _, rfl, rfl, l, _, _, _, rfl, rfl, hS, at_map (by omega) (by omega), q⟩
    · rw [List.length_map] at c1
      obtain ⟨r1, r2, r3⟩ := rounds_spec (n := (xs.length : Int)) (t := s) hp (by omega)
      have rb : (s - (xs.length : Int) + p - 1) / p ≤ s := by
        have := Int.ediv_le_self p (show 0 ≤ s - (xs.length : Int) + p - 1 by omega)
        omega
      refine ⟨_, rfl, _, rfl, l, _, rfl, .inl hS, _, _, rfl, rfl, _, rfl, _, _, rfl, rfl, _, _, rfl, rfl, _, rfl, _, _, rfl, rfl, ⟨hp, by omega⟩, ?_⟩
      rw [List.length_map]
      refine ⟨_, rfl, _, rfl, _, rfl, _, rfl, _, _, rfl, rfl, .inl ⟨by omega, by omega⟩, _, _, rfl, rfl, _, _, rfl, rfl, l, _, _, _, rfl, rfl, hS, at_map (by omega) (by omega),
        _, rfl, _, rfl, _, _, rfl, rfl, .inl ⟨by omega, by omega⟩, _, _, rfl, rfl, ?_⟩
      unfold cvAt at q
      rw [if_neg c, if_neg c1] at q
      exact q
end
end VK


namespace VK
open PySem PySem.Spec PyProof.Rows L2 VM
def sp_C_first_values (K : PySem.W.Frag) (A : Ad) : Sp := fun vs H Q _ => ∃ (x : Addr) (cs : List Int) (p g : Int), vs = [.ref x] ∧ CrvAt A H x cs p g ∧ ∀ H' q, Same H H' → H q = none → H' q = some (.lst (cs.map V.int)) → Q (.ref q) H'
def sp_C_period (_ : PySem.W.Frag) (A : Ad) : Sp := fun vs H Q _ => ∃ (x : Addr) (cs : List Int) (p g : Int), vs = [.ref x] ∧ CrvAt A H x cs p g ∧ Q (.int p) H
def sp_C_gain (_ : PySem.W.Frag) (A : Ad) : Sp := fun vs H Q _ => ∃ (x : Addr) (cs : List Int) (p g : Int), vs = [.ref x] ∧ CrvAt A H x cs p g ∧ Q (.int g) H
section
variable {P : Program} {w : World} {K : PySem.W.Frag} {mg : Str → Option Value} {base : Heap} {A : Ad}
theorem ok_C_period (T : Txt K mg A) : FnOk P w K mg base CX0 1 A.f_C_period A.d_C_period ["self"] (sp_C_period K A) := by
  refine T.F_C_period.ok sc_C_period (fun vs H Q E h => ?_) (fun cdv A0 outer s H vs Q E hr h => ?_)
  · obtain ⟨x, cs, p, g, rfl, ⟨dx, l, w, b, hx, hl⟩, q⟩ := h
    rfl
  · obtain ⟨x, cs, p, g, rfl, ⟨dx, l, w, b, hx, hl⟩, q⟩ := h
    refine ⟨_, (pss_one (ps_ret (pe_fld (pv 0) rfl))), ?_⟩
    exact ⟨_, rfl, x, _, dx, _, _, rfl, hx, T.cl, T.n_period, cfs_p _ _ _ _ _, q⟩
theorem ok_C_gain (T : Txt K mg A) : FnOk P w K mg base CX0 1 A.f_C_gain A.d_C_gain ["self"] (sp_C_gain K A) := by
  refine T.F_C_gain.ok sc_C_gain (fun vs H Q E h => ?_) (fun cdv A0 outer s H vs Q E hr h => ?_)
  · obtain ⟨x, cs, p, g, rfl, ⟨dx, l, w, b, hx, hl⟩, q⟩ := h
    rfl
  · obtain ⟨x, cs, p, g, rfl, ⟨dx, l, w, b, hx, hl⟩, q⟩ := h
    refine ⟨_, (pss_one (ps_ret (pe_fld (pv 0) rfl))), ?_⟩
    exact ⟨_, rfl, x, _, dx, _, _, rfl, hx, T.cl, T.n_gain, cfs_g _ _ _ _ _, q⟩
theorem ok_C_first_values (T : Txt K mg A) : FnOk P w K mg base CX0 1 A.f_C_first_values A.d_C_first_values ["self"] (sp_C_first_values K A) := by
  refine T.F_C_first_values.ok sc_C_first_values (fun vs H Q E h => ?_) (fun cdv A0 outer s H vs Q E hr h => ?_)
  · obtain ⟨x, cs, p, g, rfl, ⟨dx, l, w, b, hx, hl⟩, k⟩ := h
    rfl
  · obtain ⟨x, cs, p, g, rfl, ⟨dx, l, w, b, hx, hl⟩, k⟩ := h
    refine ⟨_, (pss_one (ps_ret (pe_callTy (r := VG.rListOf K) VG.call_listOf (by rfl) T.list (by decide +kernel) (pa_cons (pe_fld (pv 0) rfl) pa_nil)))), ?_⟩
    exact ⟨_, rfl, x, _, dx, _, _, rfl, hx, T.cl, T.n_values, cfs_v _ _ _ _ _, l, _, rfl, .inl (SqL.of hl), fun q hq => k _ q (Same.upd (Same.refl _) hq) hq upd_same⟩
end
end VK


namespace VK
open PySem PySem.Spec PyProof.Rows L2 VM
theorem db_cinit {K : PySem.W.Frag} {mg : Str → Option Value} {A : Ad} (T : Txt K mg A) : ∃ ds, Vals [V.int 1, V.int 0] ds ∧ Binds K A.d_C_init ["self", "values", "period", "gain"] ds :=
  T.F_C_init.binds0 (ps := ["self", "values", "period", "gain"]) 2 (by simp) rfl (fun D doc pm an cdv ct us ks h1 h2 => match us, ks, h1, h2 with | [_, _], [_, _], _, _ => ⟨_, _, _, _, _, _, rfl, rfl, _, _, _, _, _, _, rfl, rfl, rfl⟩)
theorem cset_v (l l2 : Addr) (p g : Int) (w : Bool) (b : V) : putF "_values" (V.ref l2) (cfs l p g w b) = cfs l2 p g w b := by
  show (if ("_values" : Str) = "_values" then _ else _) = _
  rw [if_pos rfl]
  rfl
theorem cset_p (l : Addr) (p p2 g : Int) (w : Bool) (b : V) : putF "_period" (V.int p2) (cfs l p g w b) = cfs l p2 g w b := by
  show (if ("_values" : Str) = "_period" then _ else (("_values" : Str), V.ref l) :: (if ("_period" : Str) = "_period" then _ else _)) = _
  rw [if_neg n_vp, if_pos rfl]
  rfl
theorem cset_g (l : Addr) (p g g2 : Int) (w : Bool) (b : V) : putF "_gain" (V.int g2) (cfs l p g w b) = cfs l p g2 w b := by
  show (if ("_values" : Str) = "_gain" then _ else (("_values" : Str), V.ref l) :: (if ("_period" : Str) = "_gain" then _ else (("_period" : Str), V.int p) :: (if ("_gain" : Str) = "_gain" then _ else _))) = _
  rw [if_neg n_vg, if_neg n_pg, if_pos rfl]
  rfl
theorem truL {K : PySem.W.Frag} {H : Hp} {a : Addr} {xs : List V} (h : SqL K H a xs) : TruV K (.ref a) H (!xs.isEmpty) := .inl ⟨xs, h, rfl⟩
theorem zero_at (i : Nat) : ([0] : List Int).getD i 0 = 0 := by cases i <;> simp
theorem ok_zero : OkRow [0] 1 0 := ⟨by decide, by decide, fun i _ => by rw [zero_at]; decide, fun i _ => by rw [zero_at]; decide, fun i _ => by rw [zero_at, zero_at]; decide, .inl rfl, by decide, by decide, by decide, by rw [zero_at, zero_at]; decide⟩
def sp_common_writing (K : PySem.W.Frag) (A : Ad) : Sp := fun vs H Q _ => ∃ (x y : Addr) (c1 c2 : List Int) (p1 g1 p2 g2 : Int), vs = [.ref x, .ref y] ∧ CrvAt A H x c1 p1 g1 ∧ CrvAt A H y c2 p2 g2 ∧ 0 < p1 ∧ p1 ≤ 1000 ∧ 0 < p2 ∧ p2 ≤ 1000 ∧
  ∀ H' t, Same H H' → H' t = some (.tup [.int (max ((c1.length : Int) - p1) ((c2.length : Int) - p2) + (Nat.lcm p1.toNat p2.toNat : Nat)), .int (Nat.lcm p1.toNat p2.toNat : Nat)]) → Q (.ref t) H'
def sp_gain_in (_ : PySem.W.Frag) (A : Ad) : Sp := fun vs H Q _ => ∃ (x : Addr) (cs : List Int) (p g t : Int), vs = [.ref x, .int t] ∧ CrvAt A H x cs p g ∧ 0 < p ∧ p ≤ 1000 ∧ 0 ≤ t ∧ t ≤ 2000000 ∧ Q (.int (g * (t / p))) H
def sp_make_curve (K : PySem.W.Frag) (A : Ad) : Sp := fun vs H Q _ => ∃ (l : Addr) (xs : List Int) (p g : Int), vs = [.ref l, .int p, .int g] ∧ SqL K H l (xs.map V.int) ∧ 0 < p ∧ p ≤ xs.length ∧ xs.length ≤ 1000 ∧
  ∀ H' x dx l', Same H H' → H x = none → H l' = none → H' x = some (.ins A.Curve dx (cfs l' (formP xs p g).1 (formP xs p g).2 false .non)) → H' l' = some (.lst ((formV xs p g).map V.int)) → Q (.ref x) H'
section
variable {P : Program} {w : World} {K : PySem.W.Frag} {mg : Str → Option Value} {base : Heap} {A : Ad}
theorem ok_common_writing (T : Txt K mg A) : FnOk P w K mg base CX0 3 A.f_common_writing A.d_common_writing ["one", "other"] (sp_common_writing K A) := by
  have G_C_first_values := ok_C_first_values (P := P) (w := w) (base := base) T
  have G_C_period := ok_C_period (P := P) (w := w) (base := base) T
  refine T.F_common_writing.ok sc_common_writing (fun vs H Q E h => ?_) (fun cdv A0 outer s H vs Q E hr h => ?_)
  · obtain ⟨x, y, c1, c2, p1, g1, p2, g2, rfl, hC1, hC2, a0, a1, b0, b1, k⟩ := h
    rfl
  · obtain ⟨x, y, c1, c2, p1, g1, p2, g2, rfl, hC1, hC2, a0, a1, b0, b1, k⟩ := h
    refine ⟨_, (pss_cons (ps_set (i := 2) sc_common_writing.nd rfl (by first | exact Or.inl rfl | exact Or.inr rfl) (pe_callBfun (r := VQ.rLcm) VQ.cr_lcm rfl T.fun_lcm (pa_cons (pe_prop (pv 0) T.cl T.pr_C_period G_C_period (hr.mono (by decide)) T.b_C_period .nil pass0 rfl) (pa_cons (pe_prop (pv 1) T.cl T.pr_C_period G_C_period (hr.mono (by decide)) T.b_C_period .nil pass0 rfl) pa_nil))))
    (pss_cons (ps_set (i := 3) sc_common_writing.nd rfl (by first | exact Or.inl rfl | exact Or.inr rfl) (pe_callB (r := rMax K) (cr_max rfl) (by rfl) T.max (by decide +kernel) (pa_cons (pe_lc (own := [("curve", 4)]) (g := gName 4) (tt := tYes) rfl sc_common_writing.nd (pi_tup (pe_tup (pa_cons (pv 0) (pa_cons (pv 1) pa_nil)))) (blkOk_by (own := [("curve", 4)]) (N := ["one", "other", "period", "many", "curve"]) (sc := defScope s_common_writing) (by decide +kernel)) (fun _ _ _ _ _ => pg_name (i := 4) sc_common_writing.nd rfl (by first | exact Or.inl rfl | exact Or.inr rfl)) (fun _ _ _ _ _ => pts_nil) (fun _ _ _ _ _ => (pe_op op_sub (pe_callB (r := VG.rLen K) VG.call_len (by rfl) T.len (by decide +kernel) (pa_cons (pe_meth0 (pv 4) T.cl T.me_first_values G_C_first_values (hr.mono (by decide)) T.b_C_first_values .nil pass0) pa_nil)) (pe_prop (pv 4) T.cl T.pr_C_period G_C_period (hr.mono (by decide)) T.b_C_period .nil pass0 rfl)))) pa_nil)))
    (pss_one (ps_ret (pe_tup (pa_cons (pe_op op_add (pv 3) (pv 2)) (pa_cons (pv 2) pa_nil))))))), ?_⟩
    obtain ⟨dx, l1, w1, bb1, hx, hl1⟩ := id hC1
    obtain ⟨dy, l2, w2, bb2, hy, hl2⟩ := id hC2
    refine ⟨_, rfl, x, dx, _, rfl, hx, x, c1, p1, g1, rfl, hC1, _, rfl, y, dy, _, rfl, hy, y, c2, p2, g2, rfl, hC2, _, _, rfl, a0, a1, b0, b1, ?_⟩
    refine ⟨_, rfl, _, rfl, (by show 2 ≤ sizeLine; decide), fun t ht => ⟨t, rfl, ⟨_, SqT.of upd_same⟩, fun D hD => ?_⟩⟩
    have s0 : Same H (upd H t (.tup [.ref x, .ref y])) := Same.upd (Same.refl _) ht
    refine lc_tup (K := K) (a := t) (xs := [.ref x, .ref y]) (fun i H2 => Same (upd H t (.tup [.ref x, .ref y])) H2 ∧ H2 D = some (.lst ((([(c1.length : Int) - p1, (c2.length : Int) - p2] : List Int).take i).map V.int)))
      ⟨Same.upd (Same.refl _) hD, upd_same⟩ (fun i H2 _ ⟨s, _⟩ => SqT.of (s _ _ upd_same)) ?_ ?_
    · rintro i v H2 hi ⟨s, hD2⟩
      have s2 := s0.trans s
      match i, hi with
      | 0, hi =>
        cases hi
        refine ⟨rfl, _, rfl, x, dx, _, rfl, s2 _ _ hx, cfs_no _ _ _ (by decide +kernel) (by decide +kernel) (by decide +kernel), x, c1, p1, g1, rfl, hC1.same s2, fun H3 q s3 _ hq => ⟨q, _, rfl, .inl (SqL.of hq), ?_⟩⟩
        rw [List.length_map]
        have s4 := s2.trans s3
        refine ⟨_, rfl, x, dx, _, rfl, s4 _ _ hx, x, c1, p1, g1, rfl, hC1.same s4, _, _, rfl, rfl, _, s3 _ _ hD2, (by show _ < sizeLine; rw [sizeLine_eq]; simp), Same.upd (s.trans s3) hD, ?_⟩
        rw [upd_same]
        rfl
      | 1, hi =>
        cases hi
        refine ⟨rfl, _, rfl, y, dy, _, rfl, s2 _ _ hy, cfs_no _ _ _ (by decide +kernel) (by decide +kernel) (by decide +kernel), y, c2, p2, g2, rfl, hC2.same s2, fun H3 q s3 _ hq => ⟨q, _, rfl, .inl (SqL.of hq), ?_⟩⟩
        rw [List.length_map]
        have s4 := s2.trans s3
        refine ⟨_, rfl, y, dy, _, rfl, s4 _ _ hy, y, c2, p2, g2, rfl, hC2.same s4, _, _, rfl, rfl, _, s3 _ _ hD2, (by show _ < sizeLine; rw [sizeLine_eq]; simp), Same.upd (s.trans s3) hD, ?_⟩
        rw [upd_same]
        rfl
      | n + 2, hi => cases hi
    · rintro H2 ⟨s, hD2⟩
      refine ⟨D, _, rfl, SqL.of hD2, (by simp), fun m hm hmx => ?_⟩
      have em : m = max ((c1.length : Int) - p1) ((c2.length : Int) - p2) := by
        have hm : m ∈ [(c1.length : Int) - p1, (c2.length : Int) - p2] := hm
        have m1 := hmx ((c1.length : Int) - p1) (by show _ ∈ [_, _]; simp)
        have m2 := hmx ((c2.length : Int) - p2) (by show _ ∈ [_, _]; simp)
        simp only [List.mem_cons, List.not_mem_nil, or_false] at hm
        omega
      subst em
      refine ⟨_, rfl, _, rfl, _, _, rfl, rfl, _, rfl, (by show 2 ≤ sizeLine; decide), fun t2 ht2 => ?_⟩
      exact k _ t2 (Same.upd (s0.trans s) ((s0.trans s).free ht2)) upd_same
theorem ok_gain_in (T : Txt K mg A) : FnOk P w K mg base CX0 3 A.f_gain_in A.d_gain_in ["curve", "ticks"] (sp_gain_in K A) := by
  have G_C_gain := ok_C_gain (P := P) (w := w) (base := base) T
  have G_C_period := ok_C_period (P := P) (w := w) (base := base) T
  refine T.F_gain_in.ok sc_gain_in (fun vs H Q E h => ?_) (fun cdv A0 outer s H vs Q E hr h => ?_)
  · obtain ⟨x, cs, p, g, t, rfl, hC, p0, p1, t0, t1, q⟩ := h
    rfl
  · obtain ⟨x, cs, p, g, t, rfl, hC, p0, p1, t0, t1, q⟩ := h
    refine ⟨_, (pss_one (ps_ret (pe_op op_mul (pe_prop (pv 0) T.cl T.pr_C_gain G_C_gain (hr.mono (by decide)) T.b_C_gain .nil pass0 rfl) (pe_op op_fdiv (pv 1) (pe_prop (pv 0) T.cl T.pr_C_period G_C_period (hr.mono (by decide)) T.b_C_period .nil pass0 rfl))))), ?_⟩
    obtain ⟨dx, l, w, b, hx, hl⟩ := id hC
    have h1 := Int.ediv_nonneg t0 (show 0 ≤ p by omega)
    have h2 := Int.ediv_le_self p t0
    exact ⟨_, rfl, x, dx, _, rfl, hx, x, cs, p, g, rfl, hC, _, rfl, _, rfl, x, dx, _, rfl, hx, x, cs, p, g, rfl, hC, _, _, rfl, rfl, ⟨p0, by omega⟩, _, _, rfl, rfl, .inr ⟨by omega, by omega⟩, q⟩
theorem ok_make_curve (T : Txt K mg A) : FnOk P w K mg base CX0 7 A.f_make_curve A.d_make_curve ["values", "period", "gain"] (sp_make_curve K A) := by
  have G_C_init := ok_C_init (P := P) (w := w) (base := base) T
  have G_least_form := ok_least_form (P := P) (w := w) (base := base) T
  obtain ⟨dc, hvC, hbC⟩ := db_cinit T
  refine T.F_make_curve.ok sc_make_curve (fun vs H Q E h => ?_) (fun cdv A0 outer s H vs Q E hr h => ?_)
  · obtain ⟨l, xs, p, g, rfl, hS, hp, hpn, hn, k⟩ := h
    rfl
  · obtain ⟨l, xs, p, g, rfl, hS, hp, hpn, hn, k⟩ := h
    refine ⟨_, (pss_cons (ps_set (i := 3) sc_make_curve.nd rfl (by first | exact Or.inl rfl | exact Or.inr rfl) (pe_make T.M_Curve G_C_init (hr.mono (by decide)) rfl T.m_Curve hbC hvC pass0 (pa_cons (pe_lst (pa_cons pe_int pa_nil)) pa_nil)))
    (pss_cons (ps_asg (pe_call G_least_form (hr.mono (by decide)) rfl T.m_least_form T.k_least_form T.b_least_form .nil pass0 (pa_cons (pv 0) (pa_cons (pv 1) (pa_cons (pv 2) pa_nil)))) (pg_tup rfl (pgs_cons (pg_name (i := 4) sc_make_curve.nd rfl (by first | exact Or.inl rfl | exact Or.inr rfl)) (pgs_cons (pg_name (i := 5) sc_make_curve.nd rfl (by first | exact Or.inl rfl | exact Or.inr rfl)) (pgs_cons (pg_name (i := 6) sc_make_curve.nd rfl (by first | exact Or.inl rfl | exact Or.inr rfl)) pgs_nil)))))
    (pss_cons (ps_fld (pv 3) (pv 4) rfl)
    (pss_cons (ps_fld (pv 3) (pv 5) rfl)
    (pss_cons (ps_fld (pv 3) (pv 6) rfl)
    (pss_one (ps_ret (pv 3)))))))), ?_⟩
    refine ⟨(by show 1 ≤ sizeLine; decide), fun q hq => fun x dx hx hdx hne => ⟨x, dx, q, [0], 1, 0, rfl, upd_same, SqL.of ?_, ok_zero, fun H1 dxc lc keep hlc c1 c2 => ⟨rfl, ?_⟩⟩⟩
    · rw [upd_ne (ne_of_none upd_same hx), upd_ne (ne_of_none upd_same hdx)]; exact upd_same
    have s0 : Same H (upd H q (.lst [.int 0])) := Same.upd (Same.refl _) hq
    have s1 : Same H H1 := fun b o e => keep b o (ne_of_none (s0 _ _ e) hx) (by rw [upd_ne (ne_of_none (s0 _ _ e) hx), upd_ne (ne_of_none (s0 _ _ e) hdx)]; exact s0 _ _ e)
    refine ⟨_, rfl, _, rfl, _, rfl, l, xs, p, g, rfl, s1.seq hS, hp, hpn, hn, fun H2 t l' s2 ht0 hl0 ht hl => ?_⟩
    refine ⟨t, _, rfl, SqT.of ht, rfl, _, _, rfl, _, _, rfl, _, _, rfl, rfl, ?_⟩
    have x2 := s2 _ _ c1
    have nlx : l' ≠ x := fun z => by rw [z, c1] at hl0; cases hl0
    refine ⟨_, rfl, _, rfl, x, _, dxc, _, rfl, x2, T.cl, T.n_values, (by show 5 < 1000; decide), ?_⟩
    rw [cset_v]
    refine ⟨_, rfl, _, rfl, x, _, dxc, _, rfl, upd_same, T.cl, T.n_period, (by show 5 < 1000; decide), ?_⟩
    rw [cset_p]
    refine ⟨_, rfl, _, rfl, x, _, dxc, _, rfl, upd_same, T.cl, T.n_gain, (by show 5 < 1000; decide), ?_⟩
    rw [cset_g, upd_upd, upd_upd]
    refine ⟨_, rfl, k _ x dxc l' (fun b o e => ?_) (s0.free hx) (s1.free hl0) upd_same (by rw [upd_ne nlx]; exact hl)⟩
    rw [upd_ne (ne_of_none (s0 _ _ e) hx)]
    exact s2 _ _ (s1 _ _ e)
end
end VK


namespace VK
open PySem PySem.Spec PyProof.Rows L2 VM
theorem zeros_map (n : Nat) : (List.replicate n [V.int 0]).flatten = (List.replicate n (0 : Int)).map V.int := by
  induction n with
  | zero => rfl
  | succ n ih => rw [List.replicate_succ, List.flatten_cons, ih]; rfl
theorem row_vals {f : Int → Int} {n : Nat} : row (fun i => f (1 + i)) n = vals f n := by
  unfold row vals
  exact List.map_congr_left fun i _ => by rw [Int.add_comm]
theorem lcm_le {p q : Int} (p0 : 0 < p) (p1 : p ≤ 12) (q0 : 0 < q) (q1 : q ≤ 12) : 0 < Nat.lcm p.toNat q.toNat ∧ Nat.lcm p.toNat q.toNat ≤ 144 := by
  have m := Nat.le_of_dvd (Nat.mul_pos (show 0 < p.toNat by omega) (show 0 < q.toNat by omega)) (Nat.lcm_dvd_mul p.toNat q.toNat)
  have z : p.toNat * q.toNat ≤ 12 * 12 := Nat.mul_le_mul (by omega) (by omega)
  exact ⟨Nat.lcm_pos (by omega) (by omega), by omega⟩
/-- with how many values the sum of two curves is written -/
def addN (n1 n2 : Nat) (p1 p2 : Int) : Nat := (max ((n1 : Int) - p1) ((n2 : Int) - p2) + (Nat.lcm p1.toNat p2.toNat : Nat)).toNat
def addG (p1 g1 p2 g2 : Int) : Int := g1 * ((Nat.lcm p1.toNat p2.toNat : Nat) / p1) + g2 * ((Nat.lcm p1.toNat p2.toNat : Nat) / p2)
theorem add_rep {f h : Int → Int} {n1 n2 : Nat} {p1 g1 p2 g2 : Int} (R : Rep f n1 p1 g1) (S : Rep h n2 p2 g2) (a0 : 0 < p1) (a1 : p1 ≤ n1) (b0 : 0 < p2) (b1 : p2 ≤ n2) :
    Rep (fun t => f t + h t) (addN n1 n2 p1 p2) (Nat.lcm p1.toNat p2.toNat : Nat) (addG p1 g1 p2 g2) := by
  have d1 : p1 ∣ ((Nat.lcm p1.toNat p2.toNat : Nat) : Int) := by
    have := Int.natCast_dvd_natCast.mpr (Nat.dvd_lcm_left p1.toNat p2.toNat)
    rwa [Int.toNat_of_nonneg (by omega)] at this
  have d2 : p2 ∣ ((Nat.lcm p1.toNat p2.toNat : Nat) : Int) := by
    have := Int.natCast_dvd_natCast.mpr (Nat.dvd_lcm_right p1.toNat p2.toNat)
    rwa [Int.toNat_of_nonneg (by omega)] at this
  have l0 : 0 < Nat.lcm p1.toNat p2.toNat := Nat.lcm_pos (by omega) (by omega)
  unfold addN addG
  generalize Nat.lcm p1.toNat p2.toNat = L at *
  exact (R.mul a0 d1 (by omega) (by omega)).add (S.mul b0 d2 (by omega) (by omega))
def sp_C_later (K : PySem.W.Frag) (A : Ad) : Sp := fun vs H Q _ => ∃ (x : Addr) (cs : List Int) (p g : Int) (n : Nat), vs = [.ref x, .int n] ∧ CrvAt A H x cs p g ∧ 0 < p ∧ p ≤ cs.length ∧ cs.length ≤ 800 ∧ n ≤ 100 ∧
  ∀ H' y dx l', Same H H' → H y = none → H l' = none → H' y = some (.ins A.Curve dx (cfs l' (formP (List.replicate n 0 ++ cs) p g).1 (formP (List.replicate n 0 ++ cs) p g).2 false .non)) → H' l' = some (.lst ((formV (List.replicate n 0 ++ cs) p g).map V.int)) → Q (.ref y) H'
def sp_C_add (K : PySem.W.Frag) (A : Ad) : Sp := fun vs H Q _ => ∃ (x y : Addr) (c1 c2 : List Int) (p1 g1 p2 g2 : Int), vs = [.ref x, .ref y] ∧ CrvAt A H x c1 p1 g1 ∧ CrvAt A H y c2 p2 g2 ∧ 0 < p1 ∧ p1 ≤ c1.length ∧ p1 ≤ 12 ∧ c1.length ≤ 500 ∧ 0 < p2 ∧ p2 ≤ c2.length ∧ p2 ≤ 12 ∧ c2.length ≤ 500 ∧
  ∀ H' z dx l', Same H H' → H z = none → H l' = none →
    H' z = some (.ins A.Curve dx (cfs l' (formP (vals (fun t => cvAt c1 p1 g1 t + cvAt c2 p2 g2 t) (addN c1.length c2.length p1 p2)) (Nat.lcm p1.toNat p2.toNat : Nat) (addG p1 g1 p2 g2)).1 (formP (vals (fun t => cvAt c1 p1 g1 t + cvAt c2 p2 g2 t) (addN c1.length c2.length p1 p2)) (Nat.lcm p1.toNat p2.toNat : Nat) (addG p1 g1 p2 g2)).2 false .non)) →
    H' l' = some (.lst ((formV (vals (fun t => cvAt c1 p1 g1 t + cvAt c2 p2 g2 t) (addN c1.length c2.length p1 p2)) (Nat.lcm p1.toNat p2.toNat : Nat) (addG p1 g1 p2 g2)).map V.int)) → Q (.ref z) H'
section
variable {P : Program} {w : World} {K : PySem.W.Frag} {mg : Str → Option Value} {base : Heap} {A : Ad}
theorem ok_C_later (T : Txt K mg A) : FnOk P w K mg base CX0 8 A.f_C_later A.d_C_later ["self", "ticks"] (sp_C_later K A) := by
  have G_make_curve := ok_make_curve (P := P) (w := w) (base := base) T
  have G_require_count_to := ok_require_count_to (P := P) (w := w) (base := base) T
  refine T.F_C_later.ok sc_C_later (fun vs H Q E h => ?_) (fun cdv A0 outer s H vs Q E hr h => ?_)
  · obtain ⟨x, cs, p, g, n, rfl, hC, hp, hpn, hn, hl, k⟩ := h
    rfl
  · obtain ⟨x, cs, p, g, n, rfl, hC, hp, hpn, hn, hl, k⟩ := h
    refine ⟨_, (pss_cons (ps_expr (pe_call G_require_count_to (hr.mono (by decide)) rfl T.m_require_count_to T.k_require_count_to T.b_require_count_to .nil pass0 (pa_cons (pv 1) (pa_cons (pe_glob (v := .int 100) rfl T.v_MAX_LATER ⟨_, rfl⟩) pa_nil))))
    (pss_one (ps_ret (pe_call G_make_curve (hr.mono (by decide)) rfl T.m_make_curve T.k_make_curve T.b_make_curve .nil pass0 (pa_cons (pe_op op_cat (pe_op op_rep (pe_lst (pa_cons pe_int pa_nil)) (pv 1)) (pe_fld (pv 0) rfl)) (pa_cons (pe_fld (pv 0) rfl) (pa_cons (pe_fld (pv 0) rfl) pa_nil))))))), ?_⟩
    obtain ⟨dx, l, w, b, hx, hv⟩ := id hC
    refine ⟨_, rfl, n, 100, rfl, by omega, by omega, ?_⟩
    refine ⟨(by show 1 ≤ sizeLine; decide), fun q hq => ?_⟩
    refine ⟨_, rfl, q, _, _, rfl, rfl, upd_same, by omega, by omega, (by show 1 * _ ≤ sizeLine; rw [sizeLine_eq]; omega), fun q2 hq2 => ?_⟩
    have s1 : Same H (upd H q (.lst [.int 0])) := Same.upd (Same.refl _) hq
    have s2 := Same.upd (o := .lst (List.replicate (n : Int).toNat [V.int 0]).flatten) s1 (s1.free hq2)
    have q20 := s1.free hq2
    refine ⟨_, rfl, x, _, dx, _, _, rfl, s2 _ _ hx, T.cl, T.n_values, cfs_v _ _ _ _ _, q2, l, _, _, rfl, rfl, upd_same, s2 _ _ hv, ?_, fun q3 hq3 => ?_⟩
    · rw [Int.toNat_natCast, zeros_map, List.length_map, List.length_map, List.length_replicate, sizeLine_eq]
      omega
    have s3 := Same.upd (o := .lst ((List.replicate (n : Int).toNat [V.int 0]).flatten ++ cs.map V.int)) s2 (s2.free hq3)
    refine ⟨_, rfl, x, _, dx, _, _, rfl, s3 _ _ hx, T.cl, T.n_period, cfs_p _ _ _ _ _, _, rfl, x, _, dx, _, _, rfl, s3 _ _ hx, T.cl, T.n_gain, cfs_g _ _ _ _ _, ?_⟩
    refine ⟨q3, List.replicate n 0 ++ cs, p, g, rfl, SqL.of ?_, hp, by simp; omega, by simp; omega, fun H5 y dy l' s5 hy0 hl0 hy hl' => ?_⟩
    · rw [upd_same, Int.toNat_natCast, zeros_map, List.map_append]
    · exact k H5 y dy l' (s3.trans s5) (s3.free hy0) (s3.free hl0) hy hl'
theorem ok_C_add (T : Txt K mg A) : FnOk P w K mg base CX0 8 A.f_C_add A.d_C_add ["self", "other"] (sp_C_add K A) := by
  have G_C_at := ok_C_at (P := P) (w := w) (base := base) T
  have G_common_writing := ok_common_writing (P := P) (w := w) (base := base) T
  have G_gain_in := ok_gain_in (P := P) (w := w) (base := base) T
  have G_make_curve := ok_make_curve (P := P) (w := w) (base := base) T
  refine T.F_C_add.ok sc_C_add (fun vs H Q E h => ?_) (fun cdv A0 outer s H vs Q E hr h => ?_)
  · obtain ⟨x, y, c1, c2, p1, g1, p2, g2, rfl, hC1, hC2, a0, a1, a2, a3, b0, b1, b2, b3, k⟩ := h
    rfl
  · obtain ⟨x, y, c1, c2, p1, g1, p2, g2, rfl, hC1, hC2, a0, a1, a2, a3, b0, b1, b2, b3, k⟩ := h
    refine ⟨_, (pss_cons (ps_if (pt_not (pt_val (pe_callB (r := rIsi K) call_isi (by rfl) T.isinstance (by decide +kernel) (pa_cons (pv 1) (pa_cons (pe_glob (v := .ref A.Curve) rfl T.m_Curve rfl) pa_nil))))) (pss_one ps_never) pss_nil)
    (pss_cons (ps_asg (pe_call G_common_writing (hr.mono (by decide)) rfl T.m_common_writing T.k_common_writing T.b_common_writing .nil pass0 (pa_cons (pv 0) (pa_cons (pv 1) pa_nil))) (pg_tup rfl (pgs_cons (pg_name (i := 2) sc_C_add.nd rfl (by first | exact Or.inl rfl | exact Or.inr rfl)) (pgs_cons (pg_name (i := 3) sc_C_add.nd rfl (by first | exact Or.inl rfl | exact Or.inr rfl)) pgs_nil))))
    (pss_cons (ps_setLc (i := 4) (own := [("length", 5)]) (g := gName 5) (tt := tYes) rfl sc_C_add.nd rfl rfl (sw_true rfl rfl rfl (by decide +kernel)) (pi_range2 rfl T.range (pa_cons pe_int (pa_cons (pe_op op_add (pv 2) pe_int) pa_nil))) (blkOk_by (own := [("length", 5)]) (N := ["self", "other", "many", "period", "values", "length"]) (sc := defScope s_C_add) (by decide +kernel)) (fun _ _ _ _ _ => pg_name (i := 5) sc_C_add.nd rfl (by first | exact Or.inl rfl | exact Or.inr rfl)) (fun _ _ _ _ _ => pts_nil) (fun _ _ _ _ _ => (pe_op op_add (pe_meth (pv 0) T.cl T.me_at G_C_at (hr.mono (by decide)) T.b_C_at .nil pass0 (pa_cons (pv 5) pa_nil)) (pe_meth (pv 1) T.cl T.me_at G_C_at (hr.mono (by decide)) T.b_C_at .nil pass0 (pa_cons (pv 5) pa_nil)))))
    (pss_one (ps_ret (pe_call G_make_curve (hr.mono (by decide)) rfl T.m_make_curve T.k_make_curve T.b_make_curve .nil pass0 (pa_cons (pv 4) (pa_cons (pv 3) (pa_cons (pe_op op_add (pe_call G_gain_in (hr.mono (by decide)) rfl T.m_gain_in T.k_gain_in T.b_gain_in .nil pass0 (pa_cons (pv 0) (pa_cons (pv 3) pa_nil))) (pe_call G_gain_in (hr.mono (by decide)) rfl T.m_gain_in T.k_gain_in T.b_gain_in .nil pass0 (pa_cons (pv 1) (pa_cons (pv 3) pa_nil)))) pa_nil))))))))), ?_⟩
    obtain ⟨dx, l1, w1, bb1, hx, hl1⟩ := id hC1
    obtain ⟨dy, l2, w2, bb2, hy, hl2⟩ := id hC2
    obtain ⟨L0, L1⟩ := lcm_le a0 a2 b0 b2
    have R := add_rep (g1 := g1) (g2 := g2) (Rep.cvAt a0 a1) (Rep.cvAt b0 b1) a0 a1 b0 b1
    refine ⟨_, rfl, _, _, _, _, _, rfl, .own _, T.ic_Curve.typ T.cl hy, VN.kit_self, _, rfl, iteF ?_⟩
    refine ⟨_, rfl, _, rfl, x, y, c1, c2, p1, g1, p2, g2, rfl, hC1, hC2, a0, by omega, b0, by omega, fun H1 t s1 ht => ?_⟩
    have k1 : ∀ H' z dx l', Same H H' → H z = none → H l' = none → _ → _ → Q (.ref z) H' := k
    have eN : ((addN c1.length c2.length p1 p2 : Nat) : Int) = max ((c1.length : Int) - p1) ((c2.length : Int) - p2) + (Nat.lcm p1.toNat p2.toNat : Nat) := by unfold addN; omega
    rw [← eN] at ht
    have nN : (Nat.lcm p1.toNat p2.toNat : Nat) ≤ addN c1.length c2.length p1 p2 := by omega
    have nM : addN c1.length c2.length p1 p2 ≤ 1000 := by omega
    unfold addG at k1
    generalize addN c1.length c2.length p1 p2 = N at *
    generalize Nat.lcm p1.toNat p2.toNat = L at *
    clear k R eN
    refine ⟨t, _, rfl, SqT.of ht, rfl, _, _, rfl, _, _, rfl, rfl, ?_⟩
    refine ⟨_, rfl, _, _, rfl, rfl, _, _, rfl, ⟨by omega, by omega, by omega, by omega⟩, fun D hD => ?_⟩
    refine lc_range (lo := 1) (n := ((N : Int) + 1 - 1).toNat) (fun j H2 => H2 D = some (.lst ((row (fun i => cvAt c1 p1 g1 (1 + i) + cvAt c2 p2 g2 (1 + i)) j).map V.int)) ∧ Same H1 H2) ⟨upd_same, Same.upd (Same.refl _) hD⟩ ?_ ?_
    · rintro j H2 hj ⟨hD2, s2⟩
      have s02 := s1.trans s2
      refine ⟨rfl, _, rfl, x, dx, _, rfl, s02 _ _ hx, cfs_no _ _ _ (by decide +kernel) (by decide +kernel) (by decide +kernel), _, rfl, x, c1, p1, g1, _, rfl, hC1.same s02, a0, a1, by omega, by omega, by omega, ?_⟩
      refine ⟨_, rfl, y, dy, _, rfl, s02 _ _ hy, cfs_no _ _ _ (by decide +kernel) (by decide +kernel) (by decide +kernel), _, rfl, y, c2, p2, g2, _, rfl, hC2.same s02, b0, b1, by omega, by omega, by omega, _, _, rfl, rfl, _, hD2, small (by rw [List.length_map, row_length]; omega), ?_, Same.upd s2 hD⟩
      rw [upd_same, rowI_succ]
    · rintro H2 ⟨hD2, s2⟩
      rw [show ((N : Int) + 1 - 1).toNat = N by omega, row_vals (f := fun t => cvAt c1 p1 g1 t + cvAt c2 p2 g2 t)] at hD2
      have s02 := s1.trans s2
      refine ⟨_, rfl, _, rfl, _, rfl, _, rfl, x, c1, p1, g1, _, rfl, hC1.same s02, a0, by omega, by omega, by omega, ?_⟩
      refine ⟨_, rfl, _, rfl, y, c2, p2, g2, _, rfl, hC2.same s02, b0, by omega, by omega, by omega, _, _, rfl, rfl, ?_⟩
      refine ⟨D, _, _, _, rfl, SqL.of hD2, by omega, by rw [vals_length]; omega, by rw [vals_length]; omega, fun H5 z dz l' s5 hz0 hl0 hz hl' => ?_⟩
      exact k1 H5 z dz l' (s02.trans s5) (s02.free hz0) (s02.free hl0) hz hl'
end
end VK


namespace VK
open PySem PySem.Spec PyProof.Rows L2 VM
theorem dp_ints {K : PySem.W.Frag} {H : Hp} : ∀ us : List Int, DpAll K H (us.map V.int) (us.map PyData.int)
  | [] => .nil
  | u :: us => .cons (.int u) (dp_ints us)
theorem int_len {i : Int} (h : i.natAbs < 10 ^ 100) : ((toString i : String) : Str).length ≤ 101 := by
  have e := int_text_length_le10 (k := 100) (by decide) h
  show (Str.ofString (toString i)).length ≤ 101
  rw [PySem.ofString_length]; exact e
theorem lit_len (x : String) {n : Nat} (h : x.length = n := by decide) : (x : Str).length = n := by
  show (Str.ofString x).length = n
  rw [PySem.ofString_length]; exact h
def crvS (xs : List Int) (p g : Int) : Str := ((((((Str.empty ++ ("Curve(" : Str)) ++ (PyData.shown (.list (xs.map PyData.int)))) ++ (", period=" : Str)) ++ (toString p : Str)) ++ (", gain=" : Str)) ++ (toString g : Str)) ++ (")" : Str)
def sp_C_repr (K : PySem.W.Frag) (A : Ad) : Sp := fun vs H Q _ => ∃ (x : Addr) (cs : List Int) (p g : Int), vs = [.ref x] ∧ CrvAt A H x cs p g ∧ VR.Sz 1 1000000 (.list (cs.map PyData.int)) ∧ p.natAbs < 10 ^ 100 ∧ g.natAbs < 10 ^ 100 ∧ Q (.str (crvS cs p g)) H
theorem row_mem {f : Int → Int} {k : Nat} {m : Int} : m ∈ row f k ↔ ∃ i : Nat, i < k ∧ m = f i := by
  unfold row
  rw [List.mem_map]
  constructor
  · rintro ⟨i, hi, rfl⟩; exact ⟨i, List.mem_range.mp hi, rfl⟩
  · rintro ⟨i, hi, rfl⟩; exact ⟨i, List.mem_range.mpr hi, rfl⟩
theorem nth_map {xs : List Int} {i : Nat} {x : V} (h : (xs.map V.int)[i]? = some x) : i < xs.length ∧ x = .int (xs.getD i 0) := by
  have hi : i < xs.length := by
    have := (List.getElem?_eq_some_iff.mp h).1
    rw [List.length_map] at this
    exact this
  rw [getD_map hi] at h
  exact ⟨hi, (Option.some.inj h).symm⟩
section
variable {P : Program} {w : World} {K : PySem.W.Frag} {mg : Str → Option Value} {base : Heap} {A : Ad}
theorem ok_C_repr (T : Txt K mg A) : VG.FnG P w K mg base CX0 1 A.f_C_repr A.d_C_repr ["self"] (sp_C_repr K A) := by
  refine VG.okG0 T.F_C_repr sc_C_repr (fun vs H Q E h => ?_) (fun cdv A0 outer s H vs Q E hA hr h => ?_)
  · obtain ⟨x, cs, p, g, rfl, ⟨dx, l, w, b, hx, hl⟩, sz, lp, lg, q⟩ := h
    rfl
  · obtain ⟨x, cs, p, g, rfl, ⟨dx, l, w, b, hx, hl⟩, sz, lp, lg, q⟩ := h
    refine ⟨_, (pss_one (ps_ret (pe_joined (.cons pe_str (.cons (VQ.pe_fmtD hA hr.units (pe_fld (pv 0) rfl)) (.cons pe_str (.cons (VN.pe_fmtN (pe_fld (pv 0) rfl)) (.cons pe_str (.cons (VN.pe_fmtN (pe_fld (pv 0) rfl)) (.cons pe_str .nil)))))))))), ?_⟩
    have e1 := int_len lp
    have e2 := int_len lg
    have e3 := sz.ln
    have k1 := lit_len "Curve(" (n := 6)
    have k2 := lit_len ", period=" (n := 9)
    have k3 := lit_len ", gain=" (n := 7)
    have k5 := lit_len ")" (n := 1)
    have k0 : Str.empty.length = 0 := rfl
    refine ⟨_, rfl, (by rw [sizeLine_eq]; simp only [Str.length_append]; omega), ?_⟩
    refine ⟨_, rfl, x, _, dx, _, _, rfl, hx, T.cl, T.n_values, cfs_v _ _ _ _ _, l, _, rfl, .lst (SqL.of hl) (dp_ints cs), sz.sh, Nat.le_trans sz.dp (by decide), Nat.le_trans e3 (by rw [sizeLine_eq]; decide), _, rfl, (by rw [sizeLine_eq]; simp only [Str.length_append]; omega), ?_⟩
    refine ⟨_, rfl, (by rw [sizeLine_eq]; simp only [Str.length_append]; omega), ?_⟩
    refine ⟨_, rfl, x, _, dx, _, _, rfl, hx, T.cl, T.n_period, cfs_p _ _ _ _ _, .inr (.inl ⟨_, rfl, VR.log_small lp, _, rfl, (by rw [sizeLine_eq]; simp only [Str.length_append]; omega), ?_⟩)⟩
    refine ⟨_, rfl, (by rw [sizeLine_eq]; simp only [Str.length_append]; omega), ?_⟩
    refine ⟨_, rfl, x, _, dx, _, _, rfl, hx, T.cl, T.n_gain, cfs_g _ _ _ _ _, .inr (.inl ⟨_, rfl, VR.log_small lg, _, rfl, (by rw [sizeLine_eq]; simp only [Str.length_append]; omega), ?_⟩)⟩
    exact ⟨_, rfl, (by rw [sizeLine_eq]; simp only [Str.length_append]; omega), q⟩
end
end VK


namespace VK
open PySem PySem.Spec PyProof.Rows L2 VM
theorem shaped_ints (us : List Int) : SeqAt.shaped (.list (us.map PyData.int)) = true := by
  have a : ∀ us : List Int, PyData.canLayAll0 (us.map PyData.int) = true := by
    intro us
    induction us with
    | nil => rfl
    | cons u us ih =>
      simp only [List.map_cons, PyData.canLayAll0, ih, Bool.and_true]
      rfl
  have b : ∀ us : List Int, PyData.depthAll (us.map PyData.int) ≤ 1 := by
    intro us
    induction us with
    | nil => exact Nat.zero_le _
    | cons u us ih =>
      simp only [List.map_cons, PyData.depthAll, PyData.depth]
      omega
  have c := b us
  refine Bool.and_eq_true_iff.mpr ⟨?_, decide_eq_true ?_⟩
  · simp only [PyData.canLay0]; exact a us
  · simp only [PyData.depth]; omega
theorem eqv_ints : ∀ us ws : List Int, PyData.eqv (.list (us.map PyData.int)) (.list (ws.map PyData.int)) = decide (us = ws) := by
  have a : ∀ us ws : List Int, PyData.eqvAll (us.map PyData.int) (ws.map PyData.int) = decide (us = ws) := by
    intro us
    induction us with
    | nil =>
      intro ws
      cases ws with
      | nil => rfl
      | cons w ws => rfl
    | cons u us ih =>
      intro ws
      cases ws with
      | nil => rfl
      | cons w ws =>
        simp only [List.map_cons, PyData.eqvAll, ih]
        by_cases h1 : u = w
        · subst h1
          by_cases h2 : us = ws
          · subst h2; simp [PyData.eqv]
          · rw [decide_eq_false h2, decide_eq_false (fun z => h2 (List.cons.inj z).2)]; simp
        · rw [decide_eq_false (fun z => h1 (List.cons.inj z).1)]
          simp [PyData.eqv, h1]
  intro us ws
  simp only [PyData.eqv]
  exact a us ws
def sp_C_at_most (K : PySem.W.Frag) (A : Ad) : Sp := fun vs H Q _ => ∃ (x y : Addr) (c1 c2 : List Int) (p1 g1 p2 g2 : Int), vs = [.ref x, .ref y] ∧ CrvAt A H x c1 p1 g1 ∧ CrvAt A H y c2 p2 g2 ∧ 0 < p1 ∧ p1 ≤ c1.length ∧ c1.length ≤ 1000 ∧ 0 < p2 ∧ p2 ≤ c2.length ∧ c2.length ≤ 1000 ∧
  ∀ H', Same H H' → Q (.bl (amM (cvAt c1 p1 g1) (cvAt c2 p2 g2) c1.length c2.length p1 g1 p2 g2)) H'
def sp_C_eq (K : PySem.W.Frag) (A : Ad) : Sp := fun vs H Q _ => ∃ (x : Addr) (cs : List Int) (p g : Int) (v : V), vs = [.ref x, v] ∧ CrvAt A H x cs p g ∧
  ((∃ (y : Addr) (c2 : List Int) (p2 g2 : Int), v = .ref y ∧ CrvAt A H y c2 p2 g2 ∧ Q (.bl (decide (cs = c2) && (decide (p = p2) && decide (g = g2)))) H) ∨
    ∃ n, TyX K H v (.type n) ∧ n ∈ VN.kinds ∧ Q (.bl false) H)
section
variable {P : Program} {w : World} {K : PySem.W.Frag} {mg : Str → Option Value} {base : Heap} {A : Ad}
theorem ok_C_at_most (T : Txt K mg A) : FnOk P w K mg base CX0 4 A.f_C_at_most A.d_C_at_most ["self", "other"] (sp_C_at_most K A) := by
  have G_C_at := ok_C_at (P := P) (w := w) (base := base) T
  have G_common_writing := ok_common_writing (P := P) (w := w) (base := base) T
  have G_gain_in := ok_gain_in (P := P) (w := w) (base := base) T
  refine T.F_C_at_most.ok sc_C_at_most (fun vs H Q E h => ?_) (fun cdv A0 outer s H vs Q E hr h => ?_)
  · obtain ⟨x, y, c1, c2, p1, g1, p2, g2, rfl, hC1, hC2, a0, a1, a2, b0, b1, b2, k⟩ := h
    rfl
  · obtain ⟨x, y, c1, c2, p1, g1, p2, g2, rfl, hC1, hC2, a0, a1, a2, b0, b1, b2, k⟩ := h
    refine ⟨_, (pss_cons (ps_asg (pe_call G_common_writing (hr.mono (by decide)) rfl T.m_common_writing T.k_common_writing T.b_common_writing .nil pass0 (pa_cons (pv 0) (pa_cons (pv 1) pa_nil))) (pg_tup rfl (pgs_cons (pg_name (i := 2) sc_C_at_most.nd rfl (by first | exact Or.inl rfl | exact Or.inr rfl)) (pgs_cons (pg_name (i := 3) sc_C_at_most.nd rfl (by first | exact Or.inl rfl | exact Or.inr rfl)) pgs_nil))))
    (pss_cons (ps_if (pt_cmpR op_gt (pe_call G_gain_in (hr.mono (by decide)) rfl T.m_gain_in T.k_gain_in T.b_gain_in .nil pass0 (pa_cons (pv 0) (pa_cons (pv 3) pa_nil))) (pe_call G_gain_in (hr.mono (by decide)) rfl T.m_gain_in T.k_gain_in T.b_gain_in .nil pass0 (pa_cons (pv 1) (pa_cons (pv 3) pa_nil))) (nomark _)) (pss_one (ps_ret pe_bl)) pss_nil)
    (pss_one (ps_ret (pe_callB (r := rAll K) (cr_all rfl) (by rfl) T.all (by decide +kernel) (pa_cons (pe_lc (own := [("length", 4)]) (g := gName 4) (tt := tYes) rfl sc_C_at_most.nd (pi_range2 rfl T.range (pa_cons pe_int (pa_cons (pe_op op_add (pv 2) pe_int) pa_nil))) (blkOk_by (own := [("length", 4)]) (N := ["self", "other", "many", "period", "length"]) (sc := defScope s_C_at_most) (by decide +kernel)) (fun _ _ _ _ _ => pg_name (i := 4) sc_C_at_most.nd rfl (by first | exact Or.inl rfl | exact Or.inr rfl)) (fun _ _ _ _ _ => pts_nil) (fun _ _ _ _ _ => (pe_cmpR op_le (pe_meth (pv 0) T.cl T.me_at G_C_at (hr.mono (by decide)) T.b_C_at .nil pass0 (pa_cons (pv 4) pa_nil)) (pe_meth (pv 1) T.cl T.me_at G_C_at (hr.mono (by decide)) T.b_C_at .nil pass0 (pa_cons (pv 4) pa_nil)) (nomark _)))) pa_nil)))))), ?_⟩
    have L1 : Nat.lcm p1.toNat p2.toNat ≤ 1000000 := by
      have m := Nat.le_of_dvd (Nat.mul_pos (show 0 < p1.toNat by omega) (show 0 < p2.toNat by omega)) (Nat.lcm_dvd_mul p1.toNat p2.toNat)
      have z : p1.toNat * p2.toNat ≤ 1000 * 1000 := Nat.mul_le_mul (by omega) (by omega)
      omega
    refine ⟨_, rfl, _, rfl, x, y, c1, c2, p1, g1, p2, g2, rfl, hC1, hC2, a0, by omega, b0, by omega, fun H1 t s1 ht => ?_⟩
    refine ⟨t, _, rfl, SqT.of ht, rfl, _, _, rfl, _, _, rfl, rfl, ?_⟩
    have k1 : ∀ H', Same H H' → Q (.bl (amM (cvAt c1 p1 g1) (cvAt c2 p2 g2) c1.length c2.length p1 g1 p2 g2)) H' := k
    unfold amM amN at k1
    generalize Nat.lcm p1.toNat p2.toNat = L at *
    refine ⟨_, rfl, _, rfl, x, c1, p1, g1, _, rfl, hC1.same s1, a0, by omega, by omega, by omega, ?_⟩
    refine ⟨_, rfl, _, rfl, y, c2, p2, g2, _, rfl, hC2.same s1, b0, by omega, by omega, by omega, _, _, rfl, rfl, _, rfl, ifD (fun c => ?_) (fun c => ?_)⟩
    · have := k1 H1 s1
      rw [if_pos c] at this
      exact this
    · have k2 : ∀ H', Same H H' → _ := fun H' s => k1 H' s
      simp only [if_neg c] at k2
      obtain ⟨dx, l1, w1, bb1, hx, hl1⟩ := id (hC1.same s1)
      obtain ⟨dy, l2, w2, bb2, hy, hl2⟩ := id (hC2.same s1)
      generalize hN : max ((c1.length : Int) - p1) ((c2.length : Int) - p2) + (L : Int) = N at *
      have hN0 : 0 ≤ N := by omega
      have hN1 : N ≤ 2000000 := by omega
      refine ⟨_, rfl, _, _, rfl, rfl, _, _, rfl, ⟨by omega, by omega, by omega, by omega⟩, fun D hD => ?_⟩
      refine lc_range (lo := 1) (n := (N + 1 - 1).toNat) (fun j H2 => H2 D = some (.lst (((List.range j).map fun i : Nat => decide (cvAt c1 p1 g1 ((i : Int) + 1) ≤ cvAt c2 p2 g2 ((i : Int) + 1))).map V.bl)) ∧ Same H1 H2) ⟨upd_same, Same.upd (Same.refl _) hD⟩ ?_ ?_
      · rintro j H2 hj ⟨hD2, s2⟩
        refine ⟨rfl, _, rfl, x, dx, _, rfl, s2 _ _ hx, cfs_no _ _ _ (by decide +kernel) (by decide +kernel) (by decide +kernel), _, rfl, x, c1, p1, g1, _, rfl, (hC1.same s1).same s2, a0, a1, a2, by omega, by omega, ?_⟩
        refine ⟨_, rfl, y, dy, _, rfl, s2 _ _ hy, cfs_no _ _ _ (by decide +kernel) (by decide +kernel) (by decide +kernel), _, rfl, y, c2, p2, g2, _, rfl, (hC2.same s1).same s2, b0, b1, b2, by omega, by omega, _, _, rfl, rfl, _, hD2, small (by simp; omega), ?_, Same.upd s2 hD⟩
        rw [upd_same, List.range_succ, List.map_append, List.map_append, show 1 + (j : Int) = (j : Int) + 1 by omega]
        rfl
      · rintro H2 ⟨hD2, s2⟩
        refine ⟨D, _, rfl, SqL.of hD2, ?_⟩
        have z := k2 H2 (s1.trans s2)
        rw [show (N + 1 - 1).toNat = N.toNat by omega, List.all_map]
        exact z
theorem ok_C_eq (T : Txt K mg A) : FnOk P w K mg base CX0 1 A.f_C_eq A.d_C_eq ["self", "other"] (sp_C_eq K A) := by
  refine T.F_C_eq.ok sc_C_eq (fun vs H Q E h => ?_) (fun cdv A0 outer s H vs Q E hr h => ?_)
  · obtain ⟨x, cs, p, g, v, rfl, ⟨dx, l, w, b, hx, hl⟩, k⟩ := h
    rfl
  · obtain ⟨x, cs, p, g, v, rfl, ⟨dx, l, w, b, hx, hl⟩, k⟩ := h
    refine ⟨_, (pss_one (ps_ret (pe_and (pe_callB (r := rIsi K) call_isi (by rfl) T.isinstance (by decide +kernel) (pa_cons (pv 1) (pa_cons (pe_glob (v := .ref A.Curve) rfl T.m_Curve rfl) pa_nil))) (pe_and (pe_cmpR (op_eqD hr.units) (pe_fld (pv 0) rfl) (pe_fld (pv 1) rfl) (nomark _)) (pe_and (pe_cmpR op_eq (pe_fld (pv 0) rfl) (pe_fld (pv 1) rfl) (nomark _)) (pe_one (pe_cmpR op_eq (pe_fld (pv 0) rfl) (pe_fld (pv 1) rfl) (nomark _)))))))), ?_⟩
    rcases k with ⟨y, c2, p2, g2, rfl, ⟨dy, l2, w2, bb2, hy, hl2⟩, q⟩ | ⟨n, ty, hn, q⟩
    · refine ⟨_, rfl, _, _, _, _, _, rfl, .own _, T.ic_Curve.typ T.cl hy, VN.kit_self, _, rfl, iteT ?_⟩
      refine ⟨_, rfl, x, _, dx, _, _, rfl, hx, T.cl, T.n_values, cfs_v _ _ _ _ _, _, rfl, y, _, dy, _, _, rfl, hy, T.cl, T.n_values, cfs_v _ _ _ _ _, _, _, .lst (SqL.of hl) (dp_ints cs), .lst (SqL.of hl2) (dp_ints c2), shaped_ints cs, shaped_ints c2, _, rfl, ?_⟩
      rw [eqv_ints]
      refine ifD (fun c => ?_) (fun c => ?_)
      · rw [decide_eq_true c, Bool.true_and] at q
        refine ⟨_, rfl, x, _, dx, _, _, rfl, hx, T.cl, T.n_period, cfs_p _ _ _ _ _, _, rfl, y, _, dy, _, _, rfl, hy, T.cl, T.n_period, cfs_p _ _ _ _ _, rfl, _, rfl, ifEq (fun c1 => ?_) (fun c1 => ?_)⟩
        · rw [decide_eq_true c1, Bool.true_and] at q
          refine ⟨_, rfl, x, _, dx, _, _, rfl, hx, T.cl, T.n_gain, cfs_g _ _ _ _ _, _, rfl, y, _, dy, _, _, rfl, hy, T.cl, T.n_gain, cfs_g _ _ _ _ _, rfl, ?_⟩
          show Q (.bl (decide (V.int g = V.int g2))) H
          rw [deq_int]; exact q
        · rw [decide_eq_false c1, Bool.false_and] at q
          exact q
      · rw [decide_eq_false c, Bool.false_and] at q
        exact q
    · exact ⟨_, rfl, _, _, _, _, _, rfl, .own _, ty, VN.kit_no T.ic_Curve hn, _, rfl, iteF q⟩
end
theorem own_eq {K : PySem.W.Frag} {mg : Str → Option Value} {A : Ad} (T : Txt K mg A) {H : Hp} {x y : Addr} {c1 c2 : List Int} {p1 g1 p2 g2 : Int} {Q : VK} {E : XK} (C1 : CrvAt A H x c1 p1 g1) (C2 : CrvAt A H y c2 p2 g2)
    (q : Q (.bl (decide (c1 = c2) && (decide (p1 = p2) && decide (g1 = g2)))) H) : VN.rOwn K A.Curve (sp_C_eq K A) E (.ref x) (.ref y) H Q := by
  obtain ⟨dx, l, w, b, hx, hl⟩ := id C1
  obtain ⟨dy, l2, w2, b2, hy, hl2⟩ := id C2
  exact ⟨x, dx, _, .ref A.Curve, rfl, hx, T.ic_Curve.typ T.cl hy, VN.notFirst_own, x, c1, p1, g1, .ref y, rfl, C1, .inl ⟨y, c2, p2, g2, rfl, C2, _, rfl, q⟩⟩
theorem own_ne {K : PySem.W.Frag} {mg : Str → Option Value} {A : Ad} (T : Txt K mg A) {H : Hp} {x y : Addr} {c1 c2 : List Int} {p1 g1 p2 g2 : Int} {Q : VK} {E : XK} (C1 : CrvAt A H x c1 p1 g1) (C2 : CrvAt A H y c2 p2 g2)
    (q : Q (.bl (!(decide (c1 = c2) && (decide (p1 = p2) && decide (g1 = g2))))) H) : VN.rOwnN K A.Curve (sp_C_eq K A) E (.ref x) (.ref y) H Q := by
  obtain ⟨dx, l, w, b, hx, hl⟩ := id C1
  obtain ⟨dy, l2, w2, b2, hy, hl2⟩ := id C2
  exact ⟨x, dx, _, .ref A.Curve, rfl, hx, T.ic_Curve.typ T.cl hy, VN.notFirst_own, x, c1, p1, g1, .ref y, rfl, C1, .inl ⟨y, c2, p2, g2, rfl, C2, _, rfl, q⟩⟩
theorem same3 {c : List Int} {p g : Int} : (decide (c = c) && (decide (p = p) && decide (g = g))) = true := by rw [decide_eq_true rfl, decide_eq_true rfl, decide_eq_true rfl]; rfl
theorem iteEqV {v : V} {X Y : Prop} (h : X) : if decide (v = v) = true then X else Y := by
  rw [decide_eq_true rfl]; exact h
theorem iteNeV {v : V} {X Y : Prop} (h : Y) : if (!decide (v = v)) = true then X else Y := by
  rw [decide_eq_true rfl]; exact h
end VK


namespace VK
open PySem PySem.Spec PyProof.Rows L2 VM
theorem Ext.put {r l : Addr} {H H' : Hp} {o : HO} (e : Ext r H H') (h : H l = none) (n : l ≠ r) : Ext r H (upd H' l o) := by
  refine ⟨fun b u hb q => ?_, ?_⟩
  · rw [upd_ne (ne_of_none q h)]; exact e.keep b u hb q
  · obtain ⟨a1, a2, a3, a4⟩ := e.rng
    exact ⟨a1, a2, by rw [upd_ne (Ne.symm n)]; exact a3, a4⟩
theorem Ext.new {r q : Addr} {H H' : Hp} {o : HO} (e : Ext r H H') (h : H' q = none) : Ext r H (upd H' q o) := e.same (Same.upd (Same.refl _) h)
theorem perV6 {i : Nat} {x : V} (h : ([.int 1, .int 2, .int 3, .int 4, .int 6, .int 12] : List V)[i]? = some x) : ∃ z : Int, x = .int z ∧ (z = 1 ∨ z = 2 ∨ z = 3 ∨ z = 4 ∨ z = 6 ∨ z = 12) ∧ (i = 0 → z = 1) := by
  match i, h with
  | 0, h => cases h; exact ⟨1, rfl, by omega, fun _ => rfl⟩
  | 1, h => cases h; exact ⟨2, rfl, by omega, fun z => absurd z (by decide)⟩
  | 2, h => cases h; exact ⟨3, rfl, by omega, fun z => absurd z (by decide)⟩
  | 3, h => cases h; exact ⟨4, rfl, by omega, fun z => absurd z (by decide)⟩
  | 4, h => cases h; exact ⟨6, rfl, by omega, fun z => absurd z (by decide)⟩
  | 5, h => cases h; exact ⟨12, rfl, by omega, fun z => absurd z (by decide)⟩
  | n + 6, h => cases h
theorem getD_push_lt {xs : List Int} {y : Int} {i : Nat} (h : i < xs.length) : (xs ++ [y]).getD i 0 = xs.getD i 0 := by
  rw [List.getD_eq_getElem?_getD, List.getD_eq_getElem?_getD, List.getElem?_append_left h]
theorem getD_push_eq {xs : List Int} {y : Int} : (xs ++ [y]).getD xs.length 0 = y := by
  rw [List.getD_eq_getElem?_getD, List.getElem?_append_right (Nat.le_refl _)]
  simp
/-- values that rise by at most s, from at most b -/
structure Ris (xs : List Int) (b s : Int) : Prop where
  lo : ∀ i, i < xs.length → 0 ≤ xs.getD i 0
  hi : ∀ i, i < xs.length → xs.getD i 0 ≤ b + s * i
  up : ∀ i, i + 1 < xs.length → xs.getD i 0 ≤ xs.getD (i + 1) 0
theorem Ris.one {x b s : Int} (h0 : 0 ≤ x) (h1 : x ≤ b) : Ris [x] b s := by
  refine ⟨fun i hi => ?_, fun i hi => ?_, fun i hi => ?_⟩
  · have : i = 0 := by simp at hi; exact hi
    subst this; exact h0
  · have : i = 0 := by simp at hi; exact hi
    subst this
    show x ≤ b + s * 0
    omega
  · simp at hi
theorem Ris.push {xs : List Int} {b s d : Int} (h : Ris xs b s) (n : 0 < xs.length) (d0 : 0 ≤ d) (d1 : d ≤ s) : Ris (xs ++ [xs.getD (xs.length - 1) 0 + d]) b s := by
  have l := h.lo (xs.length - 1) (by omega)
  have u := h.hi (xs.length - 1) (by omega)
  refine ⟨fun i hi => ?_, fun i hi => ?_, fun i hi => ?_⟩
  · rw [List.length_append, List.length_singleton] at hi
    by_cases c : i < xs.length
    · rw [getD_push_lt c]; exact h.lo i c
    · have e : i = xs.length := by omega
      rw [e, getD_push_eq]; omega
  · rw [List.length_append, List.length_singleton] at hi
    by_cases c : i < xs.length
    · rw [getD_push_lt c]; exact h.hi i c
    · have e : i = xs.length := by omega
      rw [e, getD_push_eq]
      have z : s * (((xs.length - 1 : Nat)) : Int) + s = s * (xs.length : Int) := by
        rw [show ((xs.length : Nat) : Int) = ((xs.length - 1 : Nat) : Int) + 1 by omega, Int.mul_add, Int.mul_one]
      omega
  · rw [List.length_append, List.length_singleton] at hi
    by_cases c : i + 1 < xs.length
    · rw [getD_push_lt (by omega), getD_push_lt c]; exact h.up i c
    · have e : i + 1 = xs.length := by omega
      rw [getD_push_lt (by omega), e, getD_push_eq]
      rw [show i = xs.length - 1 by omega]
      omega
theorem per_dvd {p : Int} (h : p = 1 ∨ p = 2 ∨ p = 3 ∨ p = 4 ∨ p = 6 ∨ p = 12) : p ∣ 12 := by
  rcases h with h | h | h | h | h | h <;> subst h <;> decide
theorem Ris.up2 {xs : List Int} {b s : Int} (h : Ris xs b s) {i j : Nat} (hij : i ≤ j) (hj : j < xs.length) : xs.getD i 0 ≤ xs.getD j 0 := by
  induction j with
  | zero => have : i = 0 := by omega
            subst this; exact Int.le_refl _
  | succ j ih =>
    by_cases c : i = j + 1
    · subst c; exact Int.le_refl _
    · exact Int.le_trans (ih (by omega) (by omega)) (h.up j (by omega))
theorem Ris.ok {xs : List Int} {p e : Int} (h : Ris xs 69 69) (n1 : 1 ≤ xs.length) (n2 : xs.length ≤ 24) (hp : p = 1 ∨ p = 2 ∨ p = 3 ∨ p = 4 ∨ p = 6 ∨ p = 12) (hpn : p ≤ xs.length) (e0 : 0 ≤ e) (e1 : e ≤ 69) :
    OkRow xs p (xs.getD (xs.length - 1) 0 - xs.getD (xs.length - p.toNat) 0 + e) := by
  have a1 := h.up2 (i := xs.length - p.toNat) (j := xs.length - 1) (by omega) (by omega)
  have a2 := h.hi (xs.length - 1) (by omega)
  have a3 := h.lo (xs.length - p.toNat) (by omega)
  exact ⟨n1, n2, h.lo, fun i hi => by have := h.hi i hi; omega, h.up, hp, hpn, by omega, by omega, by omega⟩
/-- a row as it is drawn: it may rise by one anywhere -/
structure Lo (xs : List Int) (p g : Int) : Prop where
  ok : OkRow xs p g
  hi : ∀ i, i < xs.length → xs.getD i 0 ≤ 1656
  g1 : g ≤ 1725
theorem Ris.lo_ {xs : List Int} {p e : Int} (h : Ris xs 69 69) (n1 : 1 ≤ xs.length) (n2 : xs.length ≤ 24) (hp : p = 1 ∨ p = 2 ∨ p = 3 ∨ p = 4 ∨ p = 6 ∨ p = 12) (hpn : p ≤ xs.length) (e0 : 0 ≤ e) (e1 : e ≤ 69) :
    Lo xs p (xs.getD (xs.length - 1) 0 - xs.getD (xs.length - p.toNat) 0 + e) := by
  have a2 := h.hi (xs.length - 1) (by omega)
  have a3 := h.lo (xs.length - p.toNat) (by omega)
  exact ⟨h.ok n1 n2 hp hpn e0 e1, fun i hi => by have := h.hi i hi; omega, by omega⟩
theorem kb_init2 {K : PySem.W.Frag} {mg : Str → Option Value} {A : Ad} (T : Txt K mg A) : ∃ mv : List Value, KBn K A.d_C_init ["self", "values", "period", "gain"] 2 ["period", "gain"] (fun us ws => us ++ ws) (fun vs zs => vs ++ zs) := by
  obtain ⟨mv, h⟩ := T.F_C_init.kbinds0 (ps := ["self", "values", "period", "gain"]) 2 ["period", "gain"] [] (fun us _ ws => us ++ ws) (by simp) (by simp) (fun a _ c => a.append c)
    (fun D doc pm an cdv ct us mv ws h1 h2 h3 => match us, mv, ws, h1, h2, h3 with | [_, _], [], [_, _], _, _, _ => rfl)
  exact ⟨mv, h⟩
theorem make_same {H H1 : Hp} {x dx : Addr} {o1 o2 : HO} (hx : H x = none) (hdx : H dx = none) (keep : ∀ b o, b ≠ x → upd (upd H dx o1) x o2 b = some o → H1 b = some o) : Same H H1 :=
  fun b o e => keep b o (ne_of_none e hx) (by rw [upd_ne (ne_of_none e hx), upd_ne (ne_of_none e hdx)]; exact e)
theorem flip_mul {d : Int} {b : Bool} {m : Int} (h0 : 0 ≤ d) (h1 : d ≤ m) : 0 ≤ d * (if b = true then 1 else 0) ∧ d * (if b = true then 1 else 0) ≤ m := by
  cases b
  · simp; omega
  · simp; omega
def sp_l_any_row (_ : PySem.W.Frag) (_ : Ad) : Sp := fun vs H Q _ => ∃ (r : Addr) (m : Int), vs = [.ref r, .int m] ∧ Rng H r ∧ 0 < m ∧ m ≤ 70 ∧
  ∀ H' t l xs p g, Ext r H H' → H t = none → H l = none → H' t = some (.tup [.ref l, .int p, .int g]) → H' l = some (.lst (xs.map V.int)) → Lo xs p g → Q (.ref t) H'
def sp_l_curve (_ : PySem.W.Frag) (A : Ad) : Sp := fun vs H Q _ => ∃ (t l : Addr) (xs : List Int) (p g : Int), vs = [.ref t] ∧ H t = some (.tup [.ref l, .int p, .int g]) ∧ H l = some (.lst (xs.map V.int)) ∧ OkRow xs p g ∧
  ∀ H' x dx lc, Same H H' → H x = none → H lc = none → H' x = some (.ins A.Curve dx (cfs lc (formP xs p g).1 (formP xs p g).2 false .non)) → H' lc = some (.lst ((formV xs p g).map V.int)) → Q (.ref x) H'
section
variable {P : Program} {w : World} {K : PySem.W.Frag} {mg : Str → Option Value} {base : Heap} {A : Ad}
theorem ok_l_any_row (T : Txt K mg A) : FnOk P w K mg base CX0 3 A.f_l_any_row A.d_l_any_row ["_law_rng_here", "_law_most"] (sp_l_any_row K A) := by
  have G_l_choice := ok_l_choice (P := P) (w := w) (base := base) T
  have G_l_draw := ok_l_draw (P := P) (w := w) (base := base) T
  refine T.F_l_any_row.ok sc_l_any_row (fun vs H Q E h => ?_) (fun cdv A0 outer s H vs Q E hr h => ?_)
  · obtain ⟨r, m, rfl, hr0, m0, m1, k⟩ := h
    rfl
  · obtain ⟨r, m, rfl, hr0, m0, m1, k⟩ := h
    refine ⟨_, (pss_cons (ps_set (i := 2) sc_l_any_row.nd rfl (by first | exact Or.inl rfl | exact Or.inr rfl) (pe_lst (pa_cons (pe_call G_l_draw (hr.mono (by decide)) rfl T.m_l_draw T.k_l_draw T.b_l_draw .nil pass0 (pa_cons (pv 0) (pa_cons (pv 1) pa_nil))) pa_nil)))
    (pss_cons (ps_for PassesOwn.never rfl (pi_range1 rfl T.range (pa_cons (pe_call G_l_draw (hr.mono (by decide)) rfl T.m_l_draw T.k_l_draw T.b_l_draw .nil pass0 (pa_cons (pv 0) (pa_cons (pe_ix (r := rIxL K) ix_list (pe_lst (pa_cons pe_int (pa_cons pe_int (pa_cons pe_int pa_nil)))) (pe_call G_l_draw (hr.mono (by decide)) rfl T.m_l_draw T.k_l_draw T.b_l_draw .nil pass0 (pa_cons (pv 0) (pa_cons pe_int pa_nil))) (fun _ _ => rfl)) pa_nil))) pa_nil)) (pg_name (i := 3) sc_l_any_row.nd rfl (by first | exact Or.inl rfl | exact Or.inr rfl))
      (pss_one (ps_expr (pe_bm PySem.F.plainAttrs_list PySem.F.slot_list_append PySem.F.type_list_append mt_append (pv 2) (pa_cons (pe_op op_add (pe_ix (r := rIxL K) ix_list (pv 2) (pe_un un_neg pe_int) (fun _ _ => rfl)) (pe_op op_mul (pe_call G_l_draw (hr.mono (by decide)) rfl T.m_l_draw T.k_l_draw T.b_l_draw .nil pass0 (pa_cons (pv 0) (pa_cons (pv 1) pa_nil))) (pe_callTy call_int1 (by rfl) T.int (by decide +kernel) (pa_cons (pe_cmpR op_eq (pe_call G_l_draw (hr.mono (by decide)) rfl T.m_l_draw T.k_l_draw T.b_l_draw .nil pass0 (pa_cons (pv 0) (pa_cons pe_int pa_nil))) pe_int (nomark _)) pa_nil)))) pa_nil)))))
    (pss_cons (ps_set (i := 4) sc_l_any_row.nd rfl (by first | exact Or.inl rfl | exact Or.inr rfl) (pe_call G_l_choice (hr.mono (by decide)) rfl T.m_l_choice T.k_l_choice T.b_l_choice .nil pass0 (pa_cons (pv 0) (pa_cons (pe_lc (own := [("_law_one", 6)]) (g := gName 6) rfl sc_l_any_row.nd (pi_list (pe_lst (pa_cons pe_int (pa_cons pe_int (pa_cons pe_int (pa_cons pe_int (pa_cons pe_int (pa_cons pe_int pa_nil)))))))) (blkOk_by (own := [("_law_one", 6)]) (N := ["_law_rng_here", "_law_most", "_law_values", "_law_turn", "_law_cycle", "_law_low", "_law_one"]) (sc := defScope s_l_any_row) (by decide +kernel)) (fun _ _ _ _ _ => pg_name (i := 6) sc_l_any_row.nd rfl (by first | exact Or.inl rfl | exact Or.inr rfl)) (fun _ _ _ _ _ => (pts_one (pt_cmpR op_le (pv 6) (pe_callB (r := VG.rLen K) VG.call_len (by rfl) T.len (by decide +kernel) (pa_cons (pv 2) pa_nil)) (nomark _)))) (fun _ _ _ _ _ => (pv 6))) pa_nil))))
    (pss_cons (ps_set (i := 5) sc_l_any_row.nd rfl (by first | exact Or.inl rfl | exact Or.inr rfl) (pe_op op_sub (pe_ix (r := rIxL K) ix_list (pv 2) (pe_un un_neg pe_int) (fun _ _ => rfl)) (pe_ix (r := rIxL K) ix_list (pe_op op_cat (pe_lst (pa_cons pe_int pa_nil)) (pv 2)) (pe_op op_sub (pe_op op_add (pe_callB (r := VG.rLen K) VG.call_len (by rfl) T.len (by decide +kernel) (pa_cons (pv 2) pa_nil)) pe_int) (pv 4)) (fun _ _ => rfl))))
    (pss_one (ps_ret (pe_tup (pa_cons (pv 2) (pa_cons (pv 4) (pa_cons (pe_op op_add (pv 5) (pe_op op_mul (pe_call G_l_draw (hr.mono (by decide)) rfl T.m_l_draw T.k_l_draw T.b_l_draw .nil pass0 (pa_cons (pv 0) (pa_cons (pv 1) pa_nil))) (pe_callTy call_int1 (by rfl) T.int (by decide +kernel) (pa_cons (pe_cmpR op_eq (pe_call G_l_draw (hr.mono (by decide)) rfl T.m_l_draw T.k_l_draw T.b_l_draw .nil pass0 (pa_cons (pv 0) (pa_cons pe_int pa_nil))) pe_int (nomark _)) pa_nil)))) pa_nil)))))))))), ?_⟩
    refine ⟨_, rfl, _, rfl, r, _, rfl, hr0, by omega, by omega, fun H1 d e1 d0 d1 => ⟨(by show 1 ≤ sizeLine; decide), fun l hl => ?_⟩⟩
    have nlr := e1.rng.ne hl
    have hlH := e1.free hl
    have e2 := e1.new (o := .lst [.int d]) hl
    refine ⟨_, rfl, (by show 3 ≤ sizeLine; decide), fun a ha => ?_⟩
    have na := e2.rng.ne ha
    have nla : l ≠ a := fun z => by rw [← z, upd_same] at ha; cases ha
    have e3 := e2.new (o := .lst (([3, 9, 24] : List Int).map V.int)) ha
    refine ⟨_, rfl, r, _, rfl, e3.rng, by decide, by decide, fun H2 z e4 z0 z1 => ?_⟩
    have h1 := e4.keep _ _ na (upd_same (H := upd H1 l (.lst [.int d])) (a := a) (o := .lst (([3, 9, 24] : List Int).map V.int)))
    refine ⟨a, _, _, _, rfl, rfl, SqL.of h1, at_map z0 z1, ?_⟩
    have hv : 3 ≤ ([3, 9, 24] : List Int).getD z.toNat 0 ∧ ([3, 9, 24] : List Int).getD z.toNat 0 ≤ 24 := by
      rcases (show z = 0 ∨ z = 1 ∨ z = 2 by omega) with y | y | y <;> subst y <;> decide
    generalize ([3, 9, 24] : List Int).getD z.toNat 0 = mm at *
    have e04 := e3.trans e4
    have hl4 : H2 l = some (.lst (([d] : List Int).map V.int)) := e4.keep _ _ nlr (by rw [upd_ne nla]; exact upd_same)
    refine ⟨r, _, rfl, e04.rng, by omega, by omega, fun H3 n e5 n0 n1 => ?_⟩
    have e05 := e04.trans e5
    have hl5 := e5.keep _ _ nlr hl4
    clear e04 e4 e3 e2 h1 na nla ha z0 z1 hl4 e5
    refine ⟨_, rfl, by omega, by omega, ?_⟩
    refine for_range (lo := 0) (n := n.toNat) (fun i σ H' => ∃ v3 xs, σ = [some (.ref r), some (.int m), some (.ref l), v3, none, none, none] ∧ Ext r H H' ∧ H' l = some (.lst (xs.map V.int)) ∧ xs.length = i + 1 ∧ Ris xs 69 69)
      ⟨_, [d], rfl, e05, hl5, rfl, Ris.one d0 (by omega)⟩ ?_ ?_
    · rintro i σ H' hi ⟨v3, xs, rfl, e3, hx, hn, R⟩
      refine ⟨_, rfl, .inl ⟨rfl, _, SqL.of hx⟩, _, rfl, _, rfl, l, _, _, _, rfl, rfl, SqL.of hx, at_back (by omega) (by omega), _, rfl, _, rfl, r, _, rfl, e3.rng, by omega, by omega, fun H4 d' e4 z0 z1 => ?_⟩
      have e04 := e3.trans e4
      have hx4 := e4.keep _ _ nlr hx
      refine ⟨_, rfl, r, _, rfl, e04.rng, by decide, by decide, fun H5 f e6 f0 f1 => ⟨rfl, .inr ⟨_, rfl, ?_⟩⟩⟩
      have hx5 := e6.keep _ _ nlr hx4
      have e06 := e04.trans e6
      obtain ⟨q0, q1⟩ := flip_mul (d := d') (b := decide (V.int f = V.int 0)) (m := 69) z0 (by omega)
      refine ⟨_, _, rfl, rfl, .inl ⟨by omega, by omega⟩, _, _, rfl, rfl, l, _, _, rfl, rfl, hx5, small (by rw [List.length_map]; omega), ?_⟩
      refine ⟨_, xs ++ [xs.getD (xs.length - 1) 0 + d' * (if decide (V.int f = V.int 0) = true then 1 else 0)], rfl, e06.put hlH nlr, ?_, by rw [List.length_append, hn]; rfl, R.push (by omega) q0 q1⟩
      rw [upd_same, List.map_append, show (-1 + (xs.length : Int)).toNat = xs.length - 1 by omega]
      rfl
    rintro σ H' ⟨v3, xs, rfl, e4, hx, hn, R⟩
    refine ⟨_, rfl, (by show 6 ≤ sizeLine; decide), fun p0 hp0 => ⟨p0, rfl, ⟨_, SqL.of upd_same⟩, fun D hD => ?_⟩⟩
    have hx4 : upd H' p0 (.lst [.int 1, .int 2, .int 3, .int 4, .int 6, .int 12]) l = some (.lst (xs.map V.int)) := by rw [upd_ne (ne_of_none hx hp0)]; exact hx
    have e5 : Ext r H (upd H' p0 (.lst [.int 1, .int 2, .int 3, .int 4, .int 6, .int 12])) := e4.new hp0
    have hp : upd H' p0 (.lst [.int 1, .int 2, .int 3, .int 4, .int 6, .int 12]) p0 = some (.lst [.int 1, .int 2, .int 3, .int 4, .int 6, .int 12]) := upd_same
    generalize upd H' p0 (.lst [.int 1, .int 2, .int 3, .int 4, .int 6, .int 12]) = H5 at *
    refine lc_list (K := K) (a := p0) (xs := [.int 1, .int 2, .int 3, .int 4, .int 6, .int 12]) (fun i H2 => Same H5 H2 ∧
        ∃ ys : List Int, H2 D = some (.lst (ys.map V.int)) ∧ ys.length ≤ i ∧ (0 < i → 0 < ys.length) ∧ ∀ y ∈ ys, (y = 1 ∨ y = 2 ∨ y = 3 ∨ y = 4 ∨ y = 6 ∨ y = 12) ∧ y ≤ xs.length)
        ⟨Same.upd (Same.refl _) hD, [], upd_same, Nat.le_refl _, fun h => absurd h (Nat.lt_irrefl _), fun y h => by cases h⟩ (fun i H2 _ ⟨s5, _⟩ => s5.seq (SqL.of hp)) ?_ ?_
    · rintro i x H2 hi ⟨s5, ys, hD2, hy, hy0, hys⟩
      have i5 : i < 6 := (List.getElem?_eq_some_iff.mp hi).1
      obtain ⟨z, rfl, hz, hz1⟩ := perV6 hi
      refine ⟨rfl, _, rfl, _, rfl, l, _, rfl, .inl (SqL.of (s5 _ _ hx4)), _, _, rfl, rfl, _, rfl, ?_⟩
      rw [List.length_map]
      refine ifD (fun c => ?_) (fun c => ?_)
      · refine ⟨_, rfl, _, hD2, small (by rw [List.length_map]; omega), Same.upd s5 hD, ys ++ [z], ?_, by rw [List.length_append, List.length_singleton]; omega, fun _ => by rw [List.length_append, List.length_singleton]; omega, fun y h => ?_⟩
        · rw [upd_same, List.map_append]; rfl
        · rcases List.mem_append.mp h with h | h
          · exact hys y h
          · cases List.mem_singleton.mp h; exact ⟨hz, by omega⟩
      · refine ⟨s5, ys, hD2, by omega, fun _ => ?_, hys⟩
        by_cases i0 : i = 0
        · exact absurd (hz1 i0) (by omega)
        · exact hy0 (by omega)
    rintro H2 ⟨s5, ys, hD2, hy, hy0, hys⟩
    have e6 := e5.same s5
    have hlen : 0 < ys.length := hy0 (by decide)
    have hy5 : ys.length ≤ 6 := hy
    refine ⟨r, D, _, rfl, e6.rng, SqL.of hD2, e5.rng.ne hD, by rw [List.length_map]; exact hlen, by rw [List.length_map]; omega, fun H3 v e7 hv => ?_⟩
    obtain ⟨p, hp, rfl⟩ := List.mem_map.mp hv
    obtain ⟨hper, hpn⟩ := hys p hp
    have pp : 0 < p ∧ p ≤ 12 := by omega
    have hx6 := e7.keep _ _ nlr (s5 _ _ hx4)
    have e06 := e6.trans e7
    refine ⟨_, rfl, _, rfl, l, _, _, _, rfl, rfl, SqL.of hx6, at_back (by omega) (by omega), (by show 1 ≤ sizeLine; decide), fun p1 hp1 => ?_⟩
    have hx7 : upd H3 p1 (.lst [.int 0]) l = some (.lst (xs.map V.int)) := by rw [upd_ne (ne_of_none hx6 hp1)]; exact hx6
    have e07 := e06.new (o := .lst [.int 0]) hp1
    refine ⟨_, rfl, p1, l, _, _, rfl, rfl, upd_same, hx7, (by rw [List.length_map, sizeLine_eq]; show 1 + xs.length ≤ _; omega), fun p2 hp2 => ?_⟩
    have hx8 : upd (upd H3 p1 (.lst [.int 0])) p2 (.lst (([.int 0] : List V) ++ xs.map V.int)) l = some (.lst (xs.map V.int)) := by rw [upd_ne (ne_of_none hx7 hp2)]; exact hx7
    have e08 := e07.new (o := .lst (([.int 0] : List V) ++ xs.map V.int)) hp2
    have h9 : upd (upd H3 p1 (.lst [.int 0])) p2 (.lst (([.int 0] : List V) ++ xs.map V.int)) p2 = some (.lst ((0 :: xs).map V.int)) := upd_same
    refine ⟨_, rfl, l, _, rfl, .inl (SqL.of hx8), _, _, rfl, rfl, _, rfl, _, _, rfl, rfl, ?_⟩
    rw [List.length_map]
    refine ⟨p2, _, _, _, rfl, rfl, SqL.of h9, at_map (by omega) (by rw [List.length_cons]; omega), _, _, rfl, rfl, ?_⟩
    refine ⟨_, rfl, _, rfl, _, rfl, ?_⟩
    refine ⟨_, rfl, _, rfl, r, _, rfl, e08.rng, by omega, by omega, fun H9 d9 e9 y0 y1 => ?_⟩
    have e09 := e08.trans e9
    have hx9 := e9.keep _ _ nlr hx8
    refine ⟨_, rfl, r, _, rfl, e09.rng, by decide, by decide, fun H10 f e10 f0 f1 => ⟨rfl, .inr ⟨_, rfl, ?_⟩⟩⟩
    have e010 := e09.trans e10
    have hx10 := e10.keep _ _ nlr hx9
    obtain ⟨q0, q1⟩ := flip_mul (d := d9) (b := decide (V.int f = V.int 0)) (m := 69) y0 (by omega)
    refine ⟨_, _, rfl, rfl, .inl ⟨by omega, by omega⟩, _, _, rfl, rfl, (by show 3 ≤ sizeLine; decide), fun t ht => ?_⟩
    have eg : xs.getD (-1 + (xs.length : Int)).toNat 0 - ((0 : Int) :: xs).getD ((xs.length : Int) + 1 - p).toNat 0 = xs.getD (xs.length - 1) 0 - xs.getD (xs.length - p.toNat) 0 := by
      rw [show (-1 + (xs.length : Int)).toNat = xs.length - 1 by omega, show ((xs.length : Int) + 1 - p).toNat = (xs.length - p.toNat) + 1 by omega]
      rfl
    rw [eg]
    exact k _ t l xs p _ (e010.new ht) (e010.free ht) hlH upd_same (by rw [upd_ne (ne_of_none hx10 ht)]; exact hx10) (R.lo_ (by omega) (by omega) hper hpn q0 q1)
theorem ok_l_curve (T : Txt K mg A) : FnOk P w K mg base CX0 7 A.f_l_curve A.d_l_curve ["_law_row"] (sp_l_curve K A) := by
  have G_C_init := ok_C_init (P := P) (w := w) (base := base) T
  obtain ⟨mv1, kb_Curve_period_gain⟩ := kb_init2 T
  refine T.F_l_curve.ok sc_l_curve (fun vs H Q E h => ?_) (fun cdv A0 outer s H vs Q E hr h => ?_)
  · obtain ⟨t, l, xs, p, g, rfl, ht, hl, R, k⟩ := h
    rfl
  · obtain ⟨t, l, xs, p, g, rfl, ht, hl, R, k⟩ := h
    refine ⟨_, (pss_one (ps_ret (pe_makeK (n := 1) T.M_Curve G_C_init (hr.mono (by decide)) rfl T.m_Curve kb_Curve_period_gain pass0 (pa_cons (pe_callTy (r := VG.rListOf K) VG.call_listOf (by rfl) T.list (by decide +kernel) (pa_cons (pe_ix (r := rIxT K) ix_tup (pv 0) pe_int (fun _ _ => rfl)) pa_nil)) pa_nil) (pk_cons (pe_ix (r := rIxT K) ix_tup (pv 0) pe_int (fun _ _ => rfl)) (pk_cons (pe_ix (r := rIxT K) ix_tup (pv 0) pe_int (fun _ _ => rfl)) pk_nil))))), ?_⟩
    refine ⟨_, rfl, t, _, _, _, rfl, rfl, SqT.of ht, rfl, l, _, rfl, .inl (SqL.of hl), fun q hq => ?_⟩
    have s2 : Same H (upd H q (.lst (xs.map V.int))) := Same.upd (Same.refl _) hq
    refine ⟨_, rfl, t, _, _, _, rfl, rfl, SqT.of (s2 _ _ ht), rfl, _, rfl, t, _, _, _, rfl, rfl, SqT.of (s2 _ _ ht), rfl, rfl, rfl, fun x dx hx hdx hne => ?_⟩
    have hq2 : upd H q (.lst (xs.map V.int)) q = some (.lst (xs.map V.int)) := upd_same
    refine ⟨x, dx, q, xs, p, g, rfl, upd_same, SqL.of (show upd _ x _ q = some (.lst (xs.map V.int)) by rw [upd_ne (ne_of_none hq2 hx), upd_ne (ne_of_none hq2 hdx)]; exact hq2), R, fun H5 dxc lc keep hlc c1 c2 => ⟨rfl, ?_⟩⟩
    have s3 := make_same hx hdx keep
    have hlc1 := s2.free ((Same.upd (Same.upd (Same.refl _) hdx) hx).free hlc)
    exact k _ x dxc lc (s2.trans s3) (s2.free hx) hlc1 c1 c2
end
end VK


namespace VK
open PySem PySem.Spec PyProof.Rows L2 VM
/-- cs, p, g is the form of F -/
structure CFo (cs : List Int) (p g : Int) (F : Int → Int) (N : Nat) : Prop where
  p0 : 0 < p
  pd : p ∣ 12
  pn : p ≤ cs.length
  n : cs.length ≤ N
  eq : ∀ t : Int, 0 ≤ t → cvAt cs p g t = F t
  c1 : formV cs p g = cs
  c2 : formP cs p g = (p, g)
theorem CFo.p12 {cs : List Int} {p g : Int} {F : Int → Int} {N : Nat} (h : CFo cs p g F N) : p ≤ 12 := Int.le_of_dvd (by decide) h.pd
theorem CFo.of {vs : List Int} {P G : Int} {F : Int → Int} {N : Nat} (p0 : 0 < P) (pd : P ∣ 12) (pn : P ≤ vs.length) (n : vs.length ≤ N) (eq : ∀ t : Int, 0 ≤ t → cvAt vs P G t = F t) : CFo (formV vs P G) (formP vs P G).1 (formP vs P G).2 F N := by
  obtain ⟨f1, f2, f3, f4, f5⟩ := form_spec (g := G) p0 pn
  obtain ⟨i1, i2⟩ := fm_idem (g := G) p0 pn
  exact ⟨f1, Int.dvd_trans (fm_least (g := G) p0 pn).1 pd, f3, by omega, fun t ht => by rw [f5 t ht]; exact eq t ht, i1, i2⟩
theorem CFo.uniq {c1 c2 : List Int} {p1 g1 p2 g2 : Int} {F1 F2 : Int → Int} {N1 N2 : Nat} (a : CFo c1 p1 g1 F1 N1) (b : CFo c2 p2 g2 F2 N2) (e : ∀ t : Int, 0 ≤ t → F1 t = F2 t) : c1 = c2 ∧ p1 = p2 ∧ g1 = g2 := by
  obtain ⟨u1, u2⟩ := form_unique (g := g1) (e := g2) a.p0 a.pn b.p0 b.pn (fun t ht => by rw [a.eq t ht, b.eq t ht, e t ht])
  rw [a.c2, b.c2] at u1
  rw [a.c1, b.c1] at u2
  exact ⟨u2, (Prod.mk.inj u1).1, (Prod.mk.inj u1).2⟩
theorem dvd12 {p : Int} (h : p = 1 ∨ p = 2 ∨ p = 3 ∨ p = 4 ∨ p = 6 ∨ p = 12) : p ∣ 12 := by
  rcases h with h | h | h | h | h | h <;> subst h <;> decide
theorem CFo.row {xs : List Int} {p g : Int} (R : OkRow xs p g) : CFo (formV xs p g) (formP xs p g).1 (formP xs p g).2 (cvAt xs p g) 24 :=
  .of (by rcases R.per with h | h | h | h | h | h <;> omega) (dvd12 R.per) R.pn R.l2 fun _ _ => rfl
theorem CFo.later {cs : List Int} {p g : Int} {F : Int → Int} {N n : Nat} (h : CFo cs p g F N) (hn : n ≤ 100) :
    CFo (formV (List.replicate n 0 ++ cs) p g) (formP (List.replicate n 0 ++ cs) p g).1 (formP (List.replicate n 0 ++ cs) p g).2 (laterF F n) (N + 100) := by
  have pn := h.pn
  have nn := h.n
  refine .of h.p0 h.pd (by simp; omega) (by simp; omega) fun t ht => ?_
  rw [cvAt_later h.p0 h.pn ht]
  unfold laterF
  by_cases c : t ≤ n
  · rw [if_pos c, if_pos c]
  · rw [if_neg c, if_neg c]; exact h.eq _ (by omega)
theorem CFo.rep {cs : List Int} {p g : Int} {F : Int → Int} {N : Nat} (h : CFo cs p g F N) : Rep (cvAt cs p g) cs.length p g := Rep.cvAt h.p0 h.pn
theorem lcm12 {p q : Int} (p0 : 0 < p) (q0 : 0 < q) (pd : p ∣ 12) (qd : q ∣ 12) : ((Nat.lcm p.toNat q.toNat : Nat) : Int) ∣ 12 := by
  have a : p.toNat ∣ 12 := by
    have : ((p.toNat : Nat) : Int) ∣ ((12 : Nat) : Int) := by rw [Int.toNat_of_nonneg (by omega)]; exact pd
    exact Int.natCast_dvd_natCast.mp this
  have b : q.toNat ∣ 12 := by
    have : ((q.toNat : Nat) : Int) ∣ ((12 : Nat) : Int) := by rw [Int.toNat_of_nonneg (by omega)]; exact qd
    exact Int.natCast_dvd_natCast.mp this
  exact Int.natCast_dvd_natCast.mpr (Nat.lcm_dvd a b)
theorem CFo.add {c1 c2 : List Int} {p1 g1 p2 g2 : Int} {F1 F2 : Int → Int} {N1 N2 N : Nat} (a : CFo c1 p1 g1 F1 N1) (b : CFo c2 p2 g2 F2 N2) (h1 : N1 + 12 ≤ N) (h2 : N2 + 12 ≤ N) :
    CFo (formV (vals (fun t => cvAt c1 p1 g1 t + cvAt c2 p2 g2 t) (addN c1.length c2.length p1 p2)) (Nat.lcm p1.toNat p2.toNat : Nat) (addG p1 g1 p2 g2))
      (formP (vals (fun t => cvAt c1 p1 g1 t + cvAt c2 p2 g2 t) (addN c1.length c2.length p1 p2)) (Nat.lcm p1.toNat p2.toNat : Nat) (addG p1 g1 p2 g2)).1
      (formP (vals (fun t => cvAt c1 p1 g1 t + cvAt c2 p2 g2 t) (addN c1.length c2.length p1 p2)) (Nat.lcm p1.toNat p2.toNat : Nat) (addG p1 g1 p2 g2)).2
      (fun t => F1 t + F2 t) N := by
  have R := add_rep a.rep b.rep a.p0 a.pn b.p0 b.pn
  have d := lcm12 a.p0 b.p0 a.pd b.pd
  have l12 := Int.le_of_dvd (by decide) d
  have l0 : 0 < Nat.lcm p1.toNat p2.toNat := Nat.lcm_pos (by have := a.p0; omega) (by have := b.p0; omega)
  have x1 := a.n
  have x2 := b.n
  have x3 := a.pn
  have x4 := b.pn
  have x5 := a.p0
  have x6 := b.p0
  have eN : ((addN c1.length c2.length p1 p2 : Nat) : Int) = max ((c1.length : Int) - p1) ((c2.length : Int) - p2) + (Nat.lcm p1.toNat p2.toNat : Nat) := by unfold addN; omega
  refine .of (by omega) d (by rw [vals_length]; omega) (by rw [vals_length]; omega) fun t ht => ?_
  rw [cvAt_vals (by omega) (by omega) (by show cvAt c1 p1 g1 0 + cvAt c2 p2 g2 0 = 0; rw [cvAt_zero, cvAt_zero]; rfl) R t ht]
  show cvAt c1 p1 g1 t + cvAt c2 p2 g2 t = F1 t + F2 t
  rw [a.eq t ht, b.eq t ht]
end VK


namespace VK
open PySem PySem.Spec PyProof.Rows L2 VM
/-- a row in the heap -/
def RowH (H : Hp) (t l : Addr) (xs : List Int) (p g : Int) : Prop := H t = some (.tup [.ref l, .int p, .int g]) ∧ H l = some (.lst (xs.map V.int))
theorem RowH.same {H H' : Hp} {t l : Addr} {xs : List Int} {p g : Int} (h : RowH H t l xs p g) (s : Same H H') : RowH H' t l xs p g := ⟨s _ _ h.1, s _ _ h.2⟩
def sp_l_later_at (_ : PySem.W.Frag) (_ : Ad) : Sp := fun vs H Q _ => ∃ (t l : Addr) (xs : List Int) (p g n x : Int), vs = [.ref t, .int n, .int x] ∧ RowH H t l xs p g ∧ 0 < p ∧ p ≤ xs.length ∧ xs.length ≤ 1000 ∧ 0 ≤ n ∧ 0 ≤ x ∧ x < 2 ^ 62 ∧ Q (.int (laterF (cvAt xs p g) n x)) H
def sp_l_lengths (_ : PySem.W.Frag) (_ : Ad) : Sp := fun vs H Q _ => ∃ (r : Addr), vs = [.ref r] ∧ Rng H r ∧ ∀ H' q (ys : List Int), Ext r H H' → H q = none → H' q = some (.lst (ys.map V.int)) → ys.length ≤ 100 → (∀ y ∈ ys, 0 ≤ y ∧ y < 2 ^ 62) → Q (.ref q) H'
def sp_l_is_at_most (_ : PySem.W.Frag) (_ : Ad) : Sp := fun vs H Q _ => ∃ (t1 l1 t2 l2 : Addr) (xs ys : List Int) (p g q e : Int) (n m : Nat), vs = [.ref t1, .int n, .ref t2, .int m] ∧ RowH H t1 l1 xs p g ∧ RowH H t2 l2 ys q e ∧ 0 < p ∧ p ∣ 12 ∧ p ≤ xs.length ∧ xs.length ≤ 100 ∧ 0 < q ∧ q ∣ 12 ∧ q ≤ ys.length ∧ ys.length ≤ 100 ∧ n ≤ 100 ∧ m ≤ 100 ∧
  ∀ b : Bool, (b = true ↔ ∀ t : Int, 1 ≤ t → laterF (cvAt xs p g) n t ≤ laterF (cvAt ys q e) m t) → Q (.bl b) H
theorem most_iff {xs ys : List Int} {p g q e : Int} {n m : Nat} (p0 : 0 < p) (pn : p ≤ xs.length) (q0 : 0 < q) (qn : q ≤ ys.length) (pd : p ∣ 12) (qd : q ∣ 12)
    (al : ∀ t : Int, 0 ≤ t → t < max ((xs.length : Int) + n) ((ys.length : Int) + m) + 13 → laterF (cvAt xs p g) n t ≤ laterF (cvAt ys q e) m t) :
    g * q ≤ e * p ↔ ∀ t : Int, 1 ≤ t → laterF (cvAt xs p g) n t ≤ laterF (cvAt ys q e) m t := by
  have R := later_rep (Rep.cvAt (g := g) p0 pn) p0 pn (show (0 : Int) ≤ n by omega) cvAt_zero
  have S := later_rep (Rep.cvAt (g := e) q0 qn) q0 qn (show (0 : Int) ≤ m by omega) cvAt_zero
  rw [show (n : Int) + xs.length = ((n + xs.length : Nat) : Int) by omega] at R
  rw [show (m : Int) + ys.length = ((m + ys.length : Nat) : Int) by omega] at S
  have A := am_iff R S p0 (by omega) q0 (by omega)
  rw [← A]
  have d := lcm12 p0 q0 pd qd
  have l12 := Int.le_of_dvd (by decide) d
  have l0 : 0 < Nat.lcm p.toNat q.toNat := Nat.lcm_pos (by omega) (by omega)
  have d1 : p ∣ ((Nat.lcm p.toNat q.toNat : Nat) : Int) := by
    have := Int.natCast_dvd_natCast.mpr (Nat.dvd_lcm_left p.toNat q.toNat)
    rwa [Int.toNat_of_nonneg (by omega)] at this
  have d2 : q ∣ ((Nat.lcm p.toNat q.toNat : Nat) : Int) := by
    have := Int.natCast_dvd_natCast.mpr (Nat.dvd_lcm_right p.toNat q.toNat)
    rwa [Int.toNat_of_nonneg (by omega)] at this
  have eN : ((amN (n + xs.length) (m + ys.length) p q : Nat) : Int) = max (((n + xs.length : Nat) : Int) - p) (((m + ys.length : Nat) : Int) - q) + (Nat.lcm p.toNat q.toNat : Nat) := by unfold amN; omega
  unfold amM
  have al2 : ((List.range (amN (n + xs.length) (m + ys.length) p q)).all fun i : Nat => decide (laterF (cvAt xs p g) n ((i : Int) + 1) ≤ laterF (cvAt ys q e) m ((i : Int) + 1))) = true := by
    rw [List.all_eq_true]
    intro i hi
    have hi := List.mem_range.mp hi
    exact decide_eq_true (al _ (by omega) (by omega))
  rw [al2]
  obtain ⟨a, ea⟩ := d1
  obtain ⟨b, eb⟩ := d2
  have e1 : ((Nat.lcm p.toNat q.toNat : Nat) : Int) / p = a := by rw [ea]; exact Int.mul_ediv_cancel_left _ (by omega)
  have e2 : ((Nat.lcm p.toNat q.toNat : Nat) : Int) / q = b := by rw [eb]; exact Int.mul_ediv_cancel_left _ (by omega)
  rw [e1, e2]
  have L0 : (0 : Int) < p * a := by omega
  have eab : p * a = q * b := by omega
  have key : g * q ≤ e * p ↔ g * a ≤ e * b := by
    have i1 : g * q * (p * a) = g * a * (p * q) := by ac_rfl
    have i2 : e * p * (p * a) = e * b * (p * q) := by rw [eab]; ac_rfl
    have pq : 0 < p * q := Int.mul_pos p0 q0
    constructor
    · intro h
      have := Int.mul_le_mul_of_nonneg_right h (Int.le_of_lt L0)
      rw [i1, i2] at this
      exact Int.le_of_mul_le_mul_right this pq
    · intro h
      have := Int.mul_le_mul_of_nonneg_right h (Int.le_of_lt pq)
      rw [← i1, ← i2] at this
      exact Int.le_of_mul_le_mul_right this L0
  rw [key]
  by_cases c : e * b < g * a
  · rw [if_pos c]
    exact ⟨fun h => absurd h (by omega), fun h => by cases h⟩
  · rw [if_neg c]
    exact ⟨fun _ => rfl, fun _ => by omega⟩
section
variable {P : Program} {w : World} {K : PySem.W.Frag} {mg : Str → Option Value} {base : Heap} {A : Ad}
theorem ok_l_later_at (T : Txt K mg A) : FnOk P w K mg base CX0 3 A.f_l_later_at A.d_l_later_at ["_law_row", "_law_ticks", "_law_length"] (sp_l_later_at K A) := by
  have G_l_at := ok_l_at (P := P) (w := w) (base := base) T
  refine T.F_l_later_at.ok sc_l_later_at (fun vs H Q E h => ?_) (fun cdv A0 outer s H vs Q E hr h => ?_)
  · obtain ⟨t, l, xs, p, g, n, x, rfl, ⟨ht, hl⟩, p0, pn, xn, n0, x0, x1, k⟩ := h
    rfl
  · obtain ⟨t, l, xs, p, g, n, x, rfl, ⟨ht, hl⟩, p0, pn, xn, n0, x0, x1, k⟩ := h
    refine ⟨_, (pss_one (ps_ret (pe_ifExp (pt_cmpR op_gt (pv 2) (pv 1) (nomark _)) (pe_call G_l_at (hr.mono (by decide)) rfl T.m_l_at T.k_l_at T.b_l_at .nil pass0 (pa_cons (pv 0) (pa_cons (pe_op op_sub (pv 2) (pv 1)) pa_nil))) pe_int))), ?_⟩
    refine ⟨_, rfl, _, rfl, _, _, rfl, rfl, _, rfl, ifD (fun c => ?_) (fun c => ?_)⟩
    · refine ⟨_, rfl, _, rfl, _, rfl, _, _, rfl, rfl, t, l, xs, p, g, x - n, rfl, SqT.of ht, SqL.of hl, p0, pn, xn, by omega, by omega, ?_⟩
      have e : laterF (cvAt xs p g) n x = cvAt xs p g (x - n) := by unfold laterF; rw [if_neg (by omega)]
      rw [← e]
      exact k
    · have e : laterF (cvAt xs p g) n x = 0 := by unfold laterF; rw [if_pos (by omega)]
      rw [e] at k
      exact k
theorem ok_l_lengths (T : Txt K mg A) : FnOk P w K mg base CX0 4 A.f_l_lengths A.d_l_lengths ["_law_rng_here"] (sp_l_lengths K A) := by
  have G_l_draw := ok_l_draw (P := P) (w := w) (base := base) T
  refine T.F_l_lengths.ok sc_l_lengths (fun vs H Q E h => ?_) (fun cdv A0 outer s H vs Q E hr h => ?_)
  · obtain ⟨r, rfl, hr0, k⟩ := h
    rfl
  · obtain ⟨r, rfl, hr0, k⟩ := h
    refine ⟨_, (pss_one (ps_ret (pe_op op_cat (pe_listRg rfl (by rfl) T.list (prg_1 (by rfl) T.range pe_int)) (pe_lst (pa_cons (pe_op op_add pe_int (pe_call G_l_draw (hr.mono (by decide)) rfl T.m_l_draw T.k_l_draw T.b_l_draw .nil pass0 (pa_cons (pv 0) (pa_cons pe_int pa_nil)))) (pa_cons (pe_op op_add (pe_op op_pow pe_int pe_int) (pe_call G_l_draw (hr.mono (by decide)) rfl T.m_l_draw T.k_l_draw T.b_l_draw .nil pass0 (pa_cons (pv 0) (pa_cons (pe_op op_pow pe_int pe_int) pa_nil)))) pa_nil)))))), ?_⟩
    refine ⟨40, rfl, ⟨by decide, by decide, by decide, by decide, by decide⟩, fun q0 hq0 => ?_⟩
    have q0r := hr0.ne hq0
    have hq1 : upd H q0 (.lst (rgV 0 40)) q0 = some (.lst (rgV 0 40)) := upd_same
    have e1 := (Ext.refl hr0).new (o := .lst (rgV 0 40)) hq0
    generalize upd H q0 (.lst (rgV 0 40)) = H1 at *
    refine ⟨_, rfl, r, _, rfl, e1.rng, by decide, by decide, fun H2 a e2 a0 a1 => ?_⟩
    have e12 := e1.trans e2
    have hq2 := e2.keep _ _ q0r hq1
    refine ⟨_, _, rfl, rfl, _, _, rfl, rfl, ⟨by decide, by decide, by decide⟩, _, rfl, _, _, rfl, rfl, ⟨by decide, by decide, by decide⟩, r, _, rfl, e2.rng, by decide, by decide, fun H3 b e3 b0 b1 => ?_⟩
    have e13 := e12.trans e3
    have hq3 := e3.keep _ _ q0r hq2
    refine ⟨_, _, rfl, rfl, (by show 2 ≤ sizeLine; decide), fun q1 hq1' => ?_⟩
    have b1 : b < 10 ^ 6 := b1
    have hl1 : upd H3 q1 (.lst (([1000 + a, 10 ^ 9 + b] : List Int).map V.int)) q1 = some (.lst (([1000 + a, 10 ^ 9 + b] : List Int).map V.int)) := upd_same
    have hq4 : upd H3 q1 (.lst (([1000 + a, 10 ^ 9 + b] : List Int).map V.int)) q0 = some (.lst (rgV 0 40)) := by rw [upd_ne (ne_of_none hq3 hq1')]; exact hq3
    have e14 : Ext r H (upd H3 q1 (.lst (([1000 + a, 10 ^ 9 + b] : List Int).map V.int))) := e13.new hq1'
    show rCat (.ref q0) (.ref q1) (upd H3 q1 (.lst (([1000 + a, 10 ^ 9 + b] : List Int).map V.int))) Q
    generalize upd H3 q1 (.lst (([1000 + a, 10 ^ 9 + b] : List Int).map V.int)) = H4 at *
    refine ⟨q0, q1, _, _, rfl, rfl, hq4, hl1, ?_, fun q2 hq2' => ?_⟩
    · unfold rgV
      rw [List.length_map, List.length_map, List.length_range]
      exact Nat.le_trans (show _ ≤ 1000 by simp) (by rw [sizeLine_eq]; decide)
    refine k _ q2 (((List.range ((40 : Int) - 0).toNat).map fun i : Nat => (0 : Int) + i) ++ [1000 + a, 10 ^ 9 + b]) (e14.new hq2') (e14.free hq2') ?_ (by simp) fun y h => ?_
    · rw [upd_same]
      unfold rgV
      rw [List.map_append, List.map_map]
      rfl
    · rcases List.mem_append.mp h with h | h
      · obtain ⟨i, hi, rfl⟩ := List.mem_map.mp h
        have hi := List.mem_range.mp hi
        omega
      · simp only [List.mem_cons, List.not_mem_nil, or_false] at h
        omega
theorem ok_l_is_at_most (T : Txt K mg A) : FnOk P w K mg base CX0 4 A.f_l_is_at_most A.d_l_is_at_most ["_law_one", "_law_ticks", "_law_other", "_law_more"] (sp_l_is_at_most K A) := by
  have G_l_later_at := ok_l_later_at (P := P) (w := w) (base := base) T
  refine T.F_l_is_at_most.ok sc_l_is_at_most (fun vs H Q E h => ?_) (fun cdv A0 outer s H vs Q E hr h => ?_)
  · obtain ⟨t1, l1, t2, l2, xs, ys, p, g, q, e, n, m, rfl, R1, R2, p0, pd, pn, xn, q0, qd, qn, yn, n1, m1, k⟩ := h
    rfl
  · obtain ⟨t1, l1, t2, l2, xs, ys, p, g, q, e, n, m, rfl, R1, R2, p0, pd, pn, xn, q0, qd, qn, yn, n1, m1, k⟩ := h
    refine ⟨_, (pss_cons (ps_for PassesOwn.never rfl (pi_range1 rfl T.range (pa_cons (pe_op op_add (pe_callB (call_max2 rfl) (by rfl) T.max (by decide +kernel) (pa_cons (pe_op op_add (pe_callB (r := VG.rLen K) VG.call_len (by rfl) T.len (by decide +kernel) (pa_cons (pe_ix (r := rIxT K) ix_tup (pv 0) pe_int (fun _ _ => rfl)) pa_nil)) (pv 1)) (pa_cons (pe_op op_add (pe_callB (r := VG.rLen K) VG.call_len (by rfl) T.len (by decide +kernel) (pa_cons (pe_ix (r := rIxT K) ix_tup (pv 2) pe_int (fun _ _ => rfl)) pa_nil)) (pv 3)) pa_nil))) pe_int) pa_nil)) (pg_name (i := 4) sc_l_is_at_most.nd rfl (by first | exact Or.inl rfl | exact Or.inr rfl))
      (pss_one (ps_if (pt_cmpR op_gt (pe_call G_l_later_at (hr.mono (by decide)) rfl T.m_l_later_at T.k_l_later_at T.b_l_later_at .nil pass0 (pa_cons (pv 0) (pa_cons (pv 1) (pa_cons (pv 4) pa_nil)))) (pe_call G_l_later_at (hr.mono (by decide)) rfl T.m_l_later_at T.k_l_later_at T.b_l_later_at .nil pass0 (pa_cons (pv 2) (pa_cons (pv 3) (pa_cons (pv 4) pa_nil)))) (nomark _)) (pss_one (ps_ret pe_bl)) pss_nil)))
    (pss_one (ps_ret (pe_cmpR op_le (pe_op op_mul (pe_ix (r := rIxT K) ix_tup (pv 0) pe_int (fun _ _ => rfl)) (pe_ix (r := rIxT K) ix_tup (pv 2) pe_int (fun _ _ => rfl))) (pe_op op_mul (pe_ix (r := rIxT K) ix_tup (pv 2) pe_int (fun _ _ => rfl)) (pe_ix (r := rIxT K) ix_tup (pv 0) pe_int (fun _ _ => rfl))) (nomark _))))), ?_⟩
    have x1 := R1.1
    have x2 := R2.1
    refine ⟨_, rfl, t1, _, _, _, rfl, rfl, SqT.of R1.1, rfl, l1, _, rfl, .inl (SqL.of R1.2), _, rfl, _, _, rfl, rfl, ?_⟩
    refine ⟨_, rfl, t2, _, _, _, rfl, rfl, SqT.of R2.1, rfl, l2, _, rfl, .inl (SqL.of R2.2), _, rfl, _, _, rfl, rfl, _, _, rfl, _, _, rfl, rfl, _, rfl, ?_⟩
    rw [List.length_map, List.length_map]
    have eM : (if ((ys.length : Int) + m) > (xs.length : Int) + n then (ys.length : Int) + m else (xs.length : Int) + n) = max ((xs.length : Int) + n) ((ys.length : Int) + m) := by
      split <;> omega
    rw [eM]
    refine ⟨by omega, by omega, ?_⟩
    refine for_range (lo := 0) (n := (max ((xs.length : Int) + n) ((ys.length : Int) + m) + 13).toNat) (fun j σ H' => ∃ v4, σ = [some (.ref t1), some (.int n), some (.ref t2), some (.int m), v4] ∧ H' = H ∧ ∀ t : Int, 0 ≤ t → t < j → laterF (cvAt xs p g) n t ≤ laterF (cvAt ys q e) m t)
      ⟨_, rfl, rfl, fun t h1 h2 => absurd h2 (by omega)⟩ ?_ ?_
    · rintro j σ H' hj ⟨v4, rfl, rfl, al⟩
      refine ⟨_, rfl, _, rfl, _, rfl, t1, l1, xs, p, g, n, _, rfl, R1, p0, pn, by omega, by omega, by omega, by omega, ?_⟩
      refine ⟨_, rfl, _, rfl, _, rfl, t2, l2, ys, q, e, m, _, rfl, R2, q0, qn, by omega, by omega, by omega, by omega, ?_⟩
      refine ⟨_, _, rfl, rfl, _, rfl, ifD (fun c => ?_) (fun c => ?_)⟩
      · refine k false ⟨fun z => (nomatch z), fun h => ?_⟩
        exfalso
        by_cases z : j = 0
        · subst z
          rw [show (0 : Int) + ((0 : Nat) : Int) = 0 by rfl, later_zero (by omega), later_zero (by omega)] at c
          omega
        · have := h (0 + (j : Int)) (by omega)
          omega
      · refine ⟨_, rfl, rfl, fun t h1 h2 => ?_⟩
        by_cases z : t = j
        · subst z
          rw [Int.zero_add] at c
          omega
        · exact al t h1 (by omega)
    rintro σ H' ⟨v4, rfl, rfl, al⟩
    refine ⟨_, rfl, t1, _, _, _, rfl, rfl, SqT.of R1.1, rfl, _, rfl, t2, _, _, _, rfl, rfl, SqT.of R2.1, rfl, _, _, rfl, rfl, ?_⟩
    have q12 := Int.le_of_dvd (by decide) qd
    have p12 := Int.le_of_dvd (by decide) pd
    refine ⟨.inr ⟨by omega, by omega⟩, _, rfl, t2, _, _, _, rfl, rfl, SqT.of R2.1, rfl, _, rfl, t1, _, _, _, rfl, rfl, SqT.of R1.1, rfl, _, _, rfl, rfl, .inr ⟨by omega, by omega⟩, _, _, rfl, rfl, ?_⟩
    refine k _ ?_
    rw [decide_eq_true_iff]
    exact most_iff p0 pn q0 qn pd qd fun t h1 h2 => al t h1 (by omega)
end
end VK


namespace VK
open PySem PySem.Spec PyProof.Rows L2 VM
theorem cv_up {xs : List Int} {p g : Int} (R : OkRow xs p g) : ∀ k : Nat, cvAt xs p g k ≤ cvAt xs p g ((k : Int) + 1) := fun k => by
  have p0 : 0 < p := by rcases R.per with h | h | h | h | h | h <;> omega
  have U := up_cv p0 R.pn (R.lo 0 (by have := R.l1; omega)) R.up R.last
  by_cases z : k = 0
  · subst z
    have := U.one
    rw [show ((0 : Nat) : Int) = 0 from rfl, cvAt_zero]
    exact this
  · exact U.up k (by omega)
theorem cv_nn {xs : List Int} {p g : Int} (R : OkRow xs p g) : ∀ k : Nat, 0 ≤ cvAt xs p g k := fun k => by
  induction k with
  | zero => rw [show ((0 : Nat) : Int) = 0 from rfl, cvAt_zero]; exact Int.le_refl _
  | succ k ih =>
    have := cv_up R k
    rw [show ((k + 1 : Nat) : Int) = (k : Int) + 1 by omega]
    omega
/-- a row of the sum -/
structure SumR (ys : List Int) (G : Int) (F : Int → Int) : Prop where
  eq : ∀ t : Int, 0 ≤ t → cvAt ys 12 G t = F t
  n0 : 12 ≤ ys.length
  n1 : ys.length ≤ 36
  ok : ys.length ≤ 24 → (∀ v ∈ ys, v ≤ 2000) → G ≤ 2000 → OkRow ys 12 G
theorem per_gain {p g : Int} (h : p ∣ 12) (p0 : 0 < p) : g * 12 / p = g * (12 / p) := Int.mul_ediv_assoc g h
theorem sum_row {xs ys : List Int} {p g q e : Int} {m : Nat} (R : OkRow xs p g) (S : OkRow ys q e) (hm : (m : Int) = max ((xs.length : Int) + 12 - p) ((ys.length : Int) + 12 - q)) :
    SumR (vals (fun t => cvAt xs p g t + cvAt ys q e t) m) (g * 12 / p + e * 12 / q) (fun t => cvAt xs p g t + cvAt ys q e t) := by
  have p0 : 0 < p := by rcases R.per with h | h | h | h | h | h <;> omega
  have q0 : 0 < q := by rcases S.per with h | h | h | h | h | h <;> omega
  have pn := R.pn
  have qn := S.pn
  have x1 := R.l2
  have x2 := S.l2
  rw [per_gain (dvd12 R.per) p0, per_gain (dvd12 S.per) q0]
  have R1 : Rep (cvAt xs p g) m 12 (g * (12 / p)) := (Rep.cvAt p0 pn).mul p0 (dvd12 R.per) (by decide) (by omega)
  have S1 : Rep (cvAt ys q e) m 12 (e * (12 / q)) := (Rep.cvAt q0 qn).mul q0 (dvd12 S.per) (by decide) (by omega)
  have RR := R1.add S1
  have up : ∀ k : Nat, (fun t => cvAt xs p g t + cvAt ys q e t) (k : Int) ≤ (fun t => cvAt xs p g t + cvAt ys q e t) ((k : Int) + 1) := fun k => by
    have a := cv_up R k
    have b := cv_up S k
    show cvAt xs p g k + cvAt ys q e k ≤ cvAt xs p g ((k : Int) + 1) + cvAt ys q e ((k : Int) + 1)
    omega
  have nn : ∀ k : Nat, 0 ≤ (fun t => cvAt xs p g t + cvAt ys q e t) (k : Int) := fun k => by
    have a := cv_nn R k
    have b := cv_nn S k
    show 0 ≤ cvAt xs p g k + cvAt ys q e k
    omega
  have F0 : (fun t => cvAt xs p g t + cvAt ys q e t) 0 = 0 := by show cvAt xs p g 0 + cvAt ys q e 0 = 0; rw [cvAt_zero, cvAt_zero]; rfl
  have gg : 0 ≤ g * (12 / p) := Int.mul_nonneg R.g0 (Int.ediv_nonneg (by decide) (by omega))
  have ee : 0 ≤ e * (12 / q) := Int.mul_nonneg S.g0 (Int.ediv_nonneg (by decide) (by omega))
  have GG : 0 ≤ g * (12 / p) + e * (12 / q) := Int.add_nonneg gg ee
  generalize (fun t => cvAt xs p g t + cvAt ys q e t) = F at *
  generalize g * (12 / p) + e * (12 / q) = G at *
  have m12 : 12 ≤ m := by omega
  have m36 : m ≤ 36 := by omega
  refine ⟨fun t ht => cvAt_vals (by decide) (by omega) F0 RR t ht, by rw [vals_length]; omega, by rw [vals_length]; omega, fun h1 h2 h3 => ?_⟩
  rw [vals_length] at h1
  have get : ∀ i, i < m → (vals F m).getD i 0 = F ((i : Int) + 1) := fun i hi => vals_getD hi
  refine ⟨by rw [vals_length]; omega, by rw [vals_length]; omega, fun i hi => ?_, fun i hi => ?_, fun i hi => ?_, by omega, by rw [vals_length]; omega, GG, h3, ?_⟩
  · rw [vals_length] at hi
    rw [get i hi]
    have := nn (i + 1)
    rw [show ((i + 1 : Nat) : Int) = (i : Int) + 1 by omega] at this
    exact this
  · refine h2 _ ?_
    rw [List.getD_eq_getElem?_getD, List.getElem?_eq_getElem hi]
    exact List.getElem_mem hi
  · rw [vals_length] at hi
    rw [get i (by omega), get (i + 1) hi]
    have := up (i + 1)
    rw [show ((i + 1 : Nat) : Int) = (i : Int) + 1 by omega] at this ⊢
    exact this
  · rw [vals_length, get _ (by omega), get _ (by omega)]
    have r := RR ((m : Int) + 1) (by omega)
    have u := up m
    rw [show ((m - 1 : Nat) : Int) + 1 = m by omega, show ((m - Int.toNat 12 : Nat) : Int) + 1 = (m : Int) + 1 - 12 by omega]
    omega
theorem vals_more {f : Int → Int} {j : Nat} : vals f (j + 1) = vals f j ++ [f ((j : Int) + 1)] := by
  unfold vals
  rw [List.range_succ, List.map_append]
  rfl
def sp_l_sum_row (_ : PySem.W.Frag) (_ : Ad) : Sp := fun vs H Q _ => ∃ (t1 l1 t2 l2 : Addr) (xs ys : List Int) (p g q e : Int), vs = [.ref t1, .ref t2] ∧ RowH H t1 l1 xs p g ∧ RowH H t2 l2 ys q e ∧ OkRow xs p g ∧ OkRow ys q e ∧
  ∀ H' t l zs G, Same H H' → H t = none → H l = none → RowH H' t l zs 12 G → SumR zs G (fun t => cvAt xs p g t + cvAt ys q e t) → Q (.ref t) H'
def sp_l_is_written (_ : PySem.W.Frag) (_ : Ad) : Sp := fun vs H Q _ => ∃ (t l : Addr) (xs : List Int) (p g : Int), vs = [.ref t] ∧ RowH H t l xs p g ∧ xs.length ≤ 100 ∧
  ∀ H' b, Same H H' → (b = true ↔ xs.length ≤ 24 ∧ (∀ v ∈ xs, v ≤ 2000) ∧ g ≤ 2000) → Q (.bl b) H'
section
variable {P : Program} {w : World} {K : PySem.W.Frag} {mg : Str → Option Value} {base : Heap} {A : Ad}
theorem ok_l_sum_row (T : Txt K mg A) : FnOk P w K mg base CX0 3 A.f_l_sum_row A.d_l_sum_row ["_law_one", "_law_other"] (sp_l_sum_row K A) := by
  have G_l_at := ok_l_at (P := P) (w := w) (base := base) T
  refine T.F_l_sum_row.ok sc_l_sum_row (fun vs H Q E h => ?_) (fun cdv A0 outer s H vs Q E hr h => ?_)
  · obtain ⟨t1, l1, t2, l2, xs, ys, p, g, q, e, rfl, A1, A2, R, S, k⟩ := h
    rfl
  · obtain ⟨t1, l1, t2, l2, xs, ys, p, g, q, e, rfl, A1, A2, R, S, k⟩ := h
    refine ⟨_, (pss_cons (ps_set (i := 2) sc_l_sum_row.nd rfl (by first | exact Or.inl rfl | exact Or.inr rfl) (pe_callB (call_max2 rfl) (by rfl) T.max (by decide +kernel) (pa_cons (pe_op op_sub (pe_op op_add (pe_callB (r := VG.rLen K) VG.call_len (by rfl) T.len (by decide +kernel) (pa_cons (pe_ix (r := rIxT K) ix_tup (pv 0) pe_int (fun _ _ => rfl)) pa_nil)) pe_int) (pe_ix (r := rIxT K) ix_tup (pv 0) pe_int (fun _ _ => rfl))) (pa_cons (pe_op op_sub (pe_op op_add (pe_callB (r := VG.rLen K) VG.call_len (by rfl) T.len (by decide +kernel) (pa_cons (pe_ix (r := rIxT K) ix_tup (pv 1) pe_int (fun _ _ => rfl)) pa_nil)) pe_int) (pe_ix (r := rIxT K) ix_tup (pv 1) pe_int (fun _ _ => rfl))) pa_nil))))
    (pss_cons (ps_setLc (i := 3) (own := [("_law_k", 4)]) (g := gName 4) (tt := tYes) rfl sc_l_sum_row.nd rfl rfl (sw_true rfl rfl rfl (by decide +kernel)) (pi_range1 rfl T.range (pa_cons (pv 2) pa_nil)) (blkOk_by (own := [("_law_k", 4)]) (N := ["_law_one", "_law_other", "_law_many", "_law_values", "_law_k"]) (sc := defScope s_l_sum_row) (by decide +kernel)) (fun _ _ _ _ _ => pg_name (i := 4) sc_l_sum_row.nd rfl (by first | exact Or.inl rfl | exact Or.inr rfl)) (fun _ _ _ _ _ => pts_nil) (fun _ _ _ _ _ => (pe_op op_add (pe_call G_l_at (hr.mono (by decide)) rfl T.m_l_at T.k_l_at T.b_l_at .nil pass0 (pa_cons (pv 0) (pa_cons (pe_op op_add (pv 4) pe_int) pa_nil))) (pe_call G_l_at (hr.mono (by decide)) rfl T.m_l_at T.k_l_at T.b_l_at .nil pass0 (pa_cons (pv 1) (pa_cons (pe_op op_add (pv 4) pe_int) pa_nil))))))
    (pss_one (ps_ret (pe_tup (pa_cons (pv 3) (pa_cons pe_int (pa_cons (pe_op op_add (pe_op op_fdiv (pe_op op_mul (pe_ix (r := rIxT K) ix_tup (pv 0) pe_int (fun _ _ => rfl)) pe_int) (pe_ix (r := rIxT K) ix_tup (pv 0) pe_int (fun _ _ => rfl))) (pe_op op_fdiv (pe_op op_mul (pe_ix (r := rIxT K) ix_tup (pv 1) pe_int (fun _ _ => rfl)) pe_int) (pe_ix (r := rIxT K) ix_tup (pv 1) pe_int (fun _ _ => rfl)))) pa_nil)))))))), ?_⟩
    have p0 : 0 < p := by rcases R.per with h | h | h | h | h | h <;> omega
    have q0 : 0 < q := by rcases S.per with h | h | h | h | h | h <;> omega
    have p12 := Int.le_of_dvd (by decide) (dvd12 R.per)
    have q12 := Int.le_of_dvd (by decide) (dvd12 S.per)
    have xl := R.l2
    have yl := S.l2
    have pn := R.pn
    have qn := S.pn
    have g0 := R.g0
    have g1 := R.g1
    have e0 := S.g0
    have e1 := S.g1
    refine ⟨_, rfl, t1, _, _, _, rfl, rfl, SqT.of A1.1, rfl, l1, _, rfl, .inl (SqL.of A1.2), _, _, rfl, rfl, _, rfl, t1, _, _, _, rfl, rfl, SqT.of A1.1, rfl, _, _, rfl, rfl, ?_⟩
    refine ⟨_, rfl, t2, _, _, _, rfl, rfl, SqT.of A2.1, rfl, l2, _, rfl, .inl (SqL.of A2.2), _, _, rfl, rfl, _, rfl, t2, _, _, _, rfl, rfl, SqT.of A2.1, rfl, _, _, rfl, rfl, _, _, rfl, ?_⟩
    rw [List.length_map, List.length_map]
    obtain ⟨M, hM, eM⟩ : ∃ M : Nat, (M : Int) = max ((xs.length : Int) + 12 - p) ((ys.length : Int) + 12 - q) ∧ (if ((ys.length : Int) + 12 - q) > (xs.length : Int) + 12 - p then (ys.length : Int) + 12 - q else (xs.length : Int) + 12 - p) = (M : Int) := by
      refine ⟨(max ((xs.length : Int) + 12 - p) ((ys.length : Int) + 12 - q)).toNat, by omega, ?_⟩
      split <;> omega
    rw [eM]
    have SR := sum_row R S hM
    refine ⟨_, rfl, _, rfl, by omega, by omega, fun D hD => ?_⟩
    refine lc_range (lo := 0) (n := (M : Int).toNat) (fun j H' => Same H H' ∧ H' D = some (.lst ((vals (fun t => cvAt xs p g t + cvAt ys q e t) j).map V.int))) ⟨Same.upd (Same.refl _) hD, upd_same⟩ ?_ ?_
    · rintro j H' hj ⟨s1, hD2⟩
      refine ⟨rfl, _, rfl, _, rfl, _, _, rfl, rfl, t1, l1, xs, p, g, _, rfl, SqT.of (s1 _ _ A1.1), SqL.of (s1 _ _ A1.2), p0, pn, by omega, by omega, by omega, ?_⟩
      refine ⟨_, rfl, _, rfl, _, _, rfl, rfl, t2, l2, ys, q, e, _, rfl, SqT.of (s1 _ _ A2.1), SqL.of (s1 _ _ A2.2), q0, qn, by omega, by omega, by omega, ?_⟩
      refine ⟨_, _, rfl, rfl, _, hD2, small (by rw [List.length_map, vals_length]; omega), Same.upd s1 hD, ?_⟩
      rw [upd_same, vals_more, List.map_append, Int.zero_add]
      rfl
    rintro H' ⟨s1, hD2⟩
    rw [Int.toNat_natCast] at hD2
    refine ⟨_, rfl, _, rfl, t1, _, _, _, rfl, rfl, SqT.of (s1 _ _ A1.1), rfl, _, _, rfl, rfl, .inr ⟨by decide, by decide⟩, _, rfl, t1, _, _, _, rfl, rfl, SqT.of (s1 _ _ A1.1), rfl, _, _, rfl, rfl, ⟨p0, by omega⟩, ?_⟩
    refine ⟨_, rfl, t2, _, _, _, rfl, rfl, SqT.of (s1 _ _ A2.1), rfl, _, _, rfl, rfl, .inr ⟨by decide, by decide⟩, _, rfl, t2, _, _, _, rfl, rfl, SqT.of (s1 _ _ A2.1), rfl, _, _, rfl, rfl, ⟨q0, by omega⟩, _, _, rfl, rfl, ?_⟩
    refine ⟨(by show 3 ≤ sizeLine; decide), fun t ht => ?_⟩
    have s2 := Same.upd (o := .tup [.ref D, .int 12, .int (g * 12 / p + e * 12 / q)]) s1 (s1.free ht)
    exact k _ t D _ _ s2 (s1.free ht) hD ⟨upd_same, by rw [upd_ne (ne_of_none hD2 ht)]; exact hD2⟩ SR
theorem ok_l_is_written (T : Txt K mg A) : FnOk P w K mg base CX0 1 A.f_l_is_written A.d_l_is_written ["_law_row"] (sp_l_is_written K A) := by
  refine T.F_l_is_written.ok sc_l_is_written (fun vs H Q E h => ?_) (fun cdv A0 outer s H vs Q E hr h => ?_)
  · obtain ⟨t, l, xs, p, g, rfl, hR, xn, k⟩ := h
    rfl
  · obtain ⟨t, l, xs, p, g, rfl, hR, xn, k⟩ := h
    refine ⟨_, (pss_one (ps_ret (pe_and (pe_cmpR op_le (pe_callB (r := VG.rLen K) VG.call_len (by rfl) T.len (by decide +kernel) (pa_cons (pe_ix (r := rIxT K) ix_tup (pv 0) pe_int (fun _ _ => rfl)) pa_nil)) pe_int (nomark _)) (pe_one (pe_cmpR op_le (pe_callB (r := rMax K) (cr_max rfl) (by rfl) T.max (by decide +kernel) (pa_cons (pe_op op_cat (pe_ix (r := rIxT K) ix_tup (pv 0) pe_int (fun _ _ => rfl)) (pe_lst (pa_cons (pe_ix (r := rIxT K) ix_tup (pv 0) pe_int (fun _ _ => rfl)) pa_nil))) pa_nil)) pe_int (nomark _)))))), ?_⟩
    refine ⟨_, rfl, t, _, _, _, rfl, rfl, SqT.of hR.1, rfl, l, _, rfl, .inl (SqL.of hR.2), _, _, rfl, rfl, _, rfl, ?_⟩
    rw [List.length_map]
    refine ifD (fun c => ?_) (fun c => ?_)
    · refine ⟨_, rfl, t, _, _, _, rfl, rfl, SqT.of hR.1, rfl, _, rfl, t, _, _, _, rfl, rfl, SqT.of hR.1, rfl, (by show 1 ≤ sizeLine; decide), fun q hq => ?_⟩
      have s1 := Same.upd (o := .lst [.int g]) (Same.refl H) hq
      refine ⟨l, q, _, _, rfl, rfl, s1 _ _ hR.2, upd_same, (by rw [List.length_map, List.length_singleton, sizeLine_eq]; omega), fun q2 hq2 => ?_⟩
      have s2 := s1.trans (Same.upd (o := .lst (xs.map V.int ++ [.int g])) (Same.refl _) hq2)
      refine ⟨q2, xs ++ [g], rfl, SqL.of (by rw [upd_same, List.map_append]; rfl), by simp, fun m hm hmx => ?_⟩
      refine ⟨_, _, rfl, rfl, ?_⟩
      refine k _ _ s2 ?_
      rw [decide_eq_true_iff]
      constructor
      · intro h
        refine ⟨by omega, fun v hv => ?_, ?_⟩
        · have := hmx v (List.mem_append_left _ hv); omega
        · have := hmx g (List.mem_append_right _ (List.mem_singleton.mpr rfl)); omega
      · rintro ⟨_, h1, h2⟩
        rcases List.mem_append.mp hm with h | h
        · exact h1 m h
        · rw [List.mem_singleton.mp h]; exact h2
    · refine k H _ (Same.refl _) ⟨fun z => (nomatch z), fun h => ?_⟩
      exact absurd (show (xs.length : Int) ≤ 24 by omega) c
end
end VK


namespace VK
open PySem PySem.Spec PyProof.Rows L2 VM
theorem ixn {n i : Nat} (h : i < n) : ixN n (i : Int) = some i := by
  unfold ixN
  rw [if_pos (by omega), if_pos (by omega)]
  rfl
theorem near_ok {xs ys : List Int} {p g e : Int} (R : Lo xs p g) (yl : ys.length = xs.length) (yh : ∀ i, i < ys.length → ys.getD i 0 ≤ 1657) (eh : e ≤ 1726) (ris : ∀ i, i < ys.length → ((0 : Int) :: ys).getD i 0 ≤ ys.getD i 0)
    (lo : ys.getD (ys.length - 1) 0 - ys.getD (ys.length - p.toNat) 0 ≤ e) : OkRow ys p e := by
  have p0 : 0 < p := by rcases R.ok.per with h | h | h | h | h | h <;> omega
  have pn := R.ok.pn
  have x1 := R.ok.l1
  have x2 := R.ok.l2
  have up : ∀ i, i + 1 < ys.length → ys.getD i 0 ≤ ys.getD (i + 1) 0 := fun i hi => ris (i + 1) hi
  have nn : ∀ i, i < ys.length → 0 ≤ ys.getD i 0 := fun i => by
    induction i with
    | zero => intro hi; exact ris 0 hi
    | succ i ih => intro hi; have := ih (by omega); have := up i hi; omega
  have mono : ∀ d i, i + d < ys.length → ys.getD i 0 ≤ ys.getD (i + d) 0 := fun d i => by
    induction d with
    | zero => intro _; exact Int.le_refl _
    | succ d ih => intro hi; have := ih (by omega); have := up (i + d) hi; rw [show i + (d + 1) = i + d + 1 by omega]; omega
  have m := mono (p.toNat - 1) (ys.length - p.toNat) (by omega)
  rw [show ys.length - p.toNat + (p.toNat - 1) = ys.length - 1 by omega] at m
  exact ⟨by omega, by omega, nn, fun i hi => by have := yh i hi; omega, up, R.ok.per, by omega, by omega, by omega, by omega⟩
def sp_l_near (_ : PySem.W.Frag) (_ : Ad) : Sp := fun vs H Q _ => ∃ (r t l : Addr) (xs : List Int) (p g : Int), vs = [.ref r, .ref t] ∧ Rng H r ∧ t ≠ r ∧ l ≠ r ∧ RowH H t l xs p g ∧ Lo xs p g ∧
  ∀ H' t2 l2 ys e, Ext r H H' → RowH H' t2 l2 ys p e → OkRow ys p e → t2 ≠ r → l2 ≠ r → (l2 = l ∨ H l2 = none) → Q (.ref t2) H'
section
variable {P : Program} {w : World} {K : PySem.W.Frag} {mg : Str → Option Value} {base : Heap} {A : Ad}
theorem ok_l_near (T : Txt K mg A) : FnOk P w K mg base CX0 3 A.f_l_near A.d_l_near ["_law_rng_here", "_law_row"] (sp_l_near K A) := by
  have G_l_draw := ok_l_draw (P := P) (w := w) (base := base) T
  refine T.F_l_near.ok sc_l_near (fun vs H Q E h => ?_) (fun cdv A0 outer s H vs Q E hr h => ?_)
  · obtain ⟨r, t, l, xs, p, g, rfl, hr0, nt, nl, hR, R, k⟩ := h
    rfl
  · obtain ⟨r, t, l, xs, p, g, rfl, hr0, nt, nl, hR, R, k⟩ := h
    refine ⟨_, (pss_cons (ps_par3 (i := 2) (j := 3) (l := 4) (by rfl) sc_l_near.nd rfl rfl rfl (by decide) (by decide) (by decide) rfl rfl rfl (pa_cons (pe_callTy (r := VG.rListOf K) VG.call_listOf (by rfl) T.list (by decide +kernel) (pa_cons (pe_ix (r := rIxT K) ix_tup (pv 1) pe_int (fun _ _ => rfl)) pa_nil)) (pa_cons (pe_ix (r := rIxT K) ix_tup (pv 1) pe_int (fun _ _ => rfl)) (pa_cons (pe_ix (r := rIxT K) ix_tup (pv 1) pe_int (fun _ _ => rfl)) pa_nil))) (by rfl))
    (pss_cons (ps_par (i := 5) (j := 6) (by rfl) sc_l_near.nd rfl rfl (by decide) rfl rfl (pa_cons (pe_call G_l_draw (hr.mono (by decide)) rfl T.m_l_draw T.k_l_draw T.b_l_draw .nil pass0 (pa_cons (pv 0) (pa_cons (pe_op op_add (pe_callB (r := VG.rLen K) VG.call_len (by rfl) T.len (by decide +kernel) (pa_cons (pv 2) pa_nil)) pe_int) pa_nil))) (pa_cons (pe_op op_sub pe_int (pe_op op_mul pe_int (pe_call G_l_draw (hr.mono (by decide)) rfl T.m_l_draw T.k_l_draw T.b_l_draw .nil pass0 (pa_cons (pv 0) (pa_cons pe_int pa_nil))))) pa_nil)) (by rfl))
    (VG.pss_join (ps_if (pt_cmpR op_eq (pv 5) (pe_callB (r := VG.rLen K) VG.call_len (by rfl) T.len (by decide +kernel) (pa_cons (pv 2) pa_nil)) (nomark _)) (pss_one (ps_set (i := 4) sc_l_near.nd rfl (by first | exact Or.inl rfl | exact Or.inr rfl) (pe_op op_add (pv 4) (pv 6)))) (pss_one (ps_asg (pe_op op_add (pe_ix (r := rIxL K) ix_list (pv 2) (pv 5) (fun _ _ => rfl)) (pv 6)) (pg_sub (pv 2) (pv 5) set_list))))
    (pss_cons (ps_setLc (i := 7) (own := [("_law_one", 9), ("_law_other", 10)]) (g := gTup K 2 (gCons (gName 9) (gCons (gName 10) gNil))) (tt := tYes) rfl sc_l_near.nd rfl rfl (sw_true rfl rfl rfl (by decide +kernel)) (pi_zip (by rfl) T.zip (pa_cons (pe_op op_cat (pe_lst (pa_cons pe_int pa_nil)) (pv 2)) (pa_cons (pv 2) pa_nil))) (blkOk_by (own := [("_law_one", 9), ("_law_other", 10)]) (N := ["_law_rng_here", "_law_row", "_law_values", "_law_cycle", "_law_rise", "_law_at_here", "_law_by", "_law_rising", "_law_low", "_law_one", "_law_other"]) (sc := defScope s_l_near) (by decide +kernel)) (fun _ _ _ _ _ => pg_tup rfl (pgs_cons (pg_name (i := 9) sc_l_near.nd rfl (by first | exact Or.inl rfl | exact Or.inr rfl)) (pgs_cons (pg_name (i := 10) sc_l_near.nd rfl (by first | exact Or.inl rfl | exact Or.inr rfl)) pgs_nil))) (fun _ _ _ _ _ => pts_nil) (fun _ _ _ _ _ => (pe_cmpR op_le (pv 9) (pv 10) (nomark _))))
    (pss_cons (ps_set (i := 8) sc_l_near.nd rfl (by first | exact Or.inl rfl | exact Or.inr rfl) (pe_op op_sub (pe_ix (r := rIxL K) ix_list (pv 2) (pe_un un_neg pe_int) (fun _ _ => rfl)) (pe_ix (r := rIxL K) ix_list (pe_op op_cat (pe_lst (pa_cons pe_int pa_nil)) (pv 2)) (pe_op op_sub (pe_op op_add (pe_callB (r := VG.rLen K) VG.call_len (by rfl) T.len (by decide +kernel) (pa_cons (pv 2) pa_nil)) pe_int) (pv 3)) (fun _ _ => rfl))))
    (pss_one (ps_ret (pe_ifExp (PW.pt (pw_and (pt_val (pe_callB (r := rAll K) (cr_all rfl) (by rfl) T.all (by decide +kernel) (pa_cons (pv 7) pa_nil))) (pw_and1 (pt_cmpR op_ge (pv 4) (pv 8) (nomark _))))) (pe_tup (pa_cons (pv 2) (pa_cons (pv 3) (pa_cons (pv 4) pa_nil)))) (pv 1))))))))), ?_⟩
    have xl := R.ok.l2
    have x1 := R.ok.l1
    refine ⟨_, rfl, t, _, _, _, rfl, rfl, SqT.of hR.1, rfl, l, _, rfl, .inl (SqL.of hR.2), fun q hq => ?_⟩
    have nq := hr0.ne hq
    have hqH := hq
    have s1 := Same.upd (o := .lst (xs.map V.int)) (Same.refl H) hq
    have hq1 : upd H q (.lst (xs.map V.int)) q = some (.lst (xs.map V.int)) := upd_same
    have e1 := Ext.of hr0 s1
    generalize upd H q (.lst (xs.map V.int)) = H1 at *
    refine ⟨_, rfl, t, _, _, _, rfl, rfl, SqT.of (s1 _ _ hR.1), rfl, _, rfl, t, _, _, _, rfl, rfl, SqT.of (s1 _ _ hR.1), rfl, ?_⟩
    refine ⟨_, _, _, rfl, ?_⟩
    refine ⟨_, rfl, _, rfl, q, _, rfl, .inl (SqL.of hq1), _, _, rfl, rfl, r, _, rfl, e1.rng, by omega, by rw [List.length_map]; omega, fun H2 a e2 a0 a1 => ?_⟩
    rw [List.length_map] at a1
    have e12 := e1.trans e2
    have hq2 := e2.keep _ _ nq hq1
    refine ⟨_, rfl, r, _, rfl, e12.rng, by decide, by decide, fun H3 b e3 b0 b1 => ?_⟩
    have e13 := e12.trans e3
    have hq3 := e3.keep _ _ nq hq2
    refine ⟨_, _, rfl, rfl, .inl ⟨by decide, by decide⟩, _, _, rfl, rfl, ?_⟩
    refine ⟨_, _, rfl, ?_⟩
    refine ⟨fun σ' H' => ∃ (ys : List Int) (e : Int), σ' = [some (.ref r), some (.ref t), some (.ref q), some (.int p), some (.int e), some (.int a), some (.int (1 - 2 * b)), none, none, none, none] ∧ Ext r H H' ∧ H' q = some (.lst (ys.map V.int)) ∧ ys.length = xs.length ∧ (∀ i, i < ys.length → ys.getD i 0 ≤ 1657) ∧ e ≤ 1726, ?_, ?_⟩
    · refine ⟨_, rfl, _, rfl, q, _, rfl, .inl (SqL.of hq3), rfl, _, rfl, ?_⟩
      rw [List.length_map]
      refine ifEq (fun c => ?_) (fun c => ?_)
      · have g1 := R.g1
        exact ⟨_, rfl, _, rfl, _, _, rfl, rfl, xs, g + (1 - 2 * b), rfl, e13, hq3, rfl, fun i hi => by have := R.hi i hi; omega, by omega⟩
      · refine ⟨_, rfl, _, rfl, q, _, _, _, rfl, rfl, SqL.of hq3, at_map a0 (by omega), _, rfl, _, _, rfl, rfl, ?_⟩
        refine ⟨_, rfl, _, rfl, q, _, a, a.toNat, rfl, rfl, hq3, ?_, ?_⟩
        · rw [List.length_map]
          have := ixn (n := xs.length) (i := a.toNat) (by omega)
          rw [Int.toNat_of_nonneg a0] at this
          exact this
        · refine ⟨xs.set a.toNat (xs.getD a.toNat 0 + (1 - 2 * b)), g, rfl, e13.put hqH nq, by rw [upd_same, List.map_set], by rw [List.length_set], fun i hi => ?_, by have := R.g1; omega⟩
          rw [List.length_set] at hi
          rw [List.getD_eq_getElem?_getD]
          by_cases z : a.toNat = i
          · subst z
            rw [List.getElem?_set_self hi]
            have := R.hi a.toNat hi
            show xs.getD a.toNat 0 + (1 - 2 * b) ≤ 1657
            omega
          · rw [List.getElem?_set_ne z, ← List.getD_eq_getElem?_getD]
            have := R.hi i hi
            omega
    rintro σ H4 ⟨ys, e, rfl, e4, hq4, yl, yh, eh⟩
    clear e13 hq3 e3 hq2 e12 e2 hq1 e1 s1 a1 a0 b0 b1
    refine ⟨(by show 1 ≤ sizeLine; decide), fun z0 hz0 => ?_⟩
    have s5 := Same.upd (o := .lst [.int 0]) (Same.refl H4) hz0
    refine ⟨_, rfl, z0, q, _, _, rfl, rfl, upd_same, s5 _ _ hq4, (by rw [List.length_map, sizeLine_eq]; show 1 + ys.length ≤ _; omega), fun z1 hz1 => ?_⟩
    have hz11 : upd (upd H4 z0 (.lst [.int 0])) z1 (.lst (([.int 0] : List V) ++ ys.map V.int)) z1 = some (.lst (((0 : Int) :: ys).map V.int)) := upd_same
    have s6 := s5.trans (Same.upd (o := .lst (([.int 0] : List V) ++ ys.map V.int)) (Same.refl _) hz1)
    generalize upd (upd H4 z0 (.lst [.int 0])) z1 (.lst (([.int 0] : List V) ++ ys.map V.int)) = H6 at *
    refine ⟨_, rfl, z1, q, _, _, rfl, SqL.of hz11, SqL.of (s6 _ _ hq4), fun B hB => ?_⟩
    refine lc_it (walk_zip (K := K) (a := z1) (b := q) (xs := ((0 : Int) :: ys).map V.int) (ys := ys.map V.int) (n := ys.length) (by rw [List.length_map, List.length_map, List.length_cons]; omega))
      (fun j H' => H' B = some (.lst (((List.range j).map fun i => decide (((0 : Int) :: ys).getD i 0 ≤ ys.getD i 0)).map V.bl)) ∧ Same H6 H') ⟨upd_same, Same.upd (Same.refl _) hB⟩ (fun j H' _ ⟨_, s⟩ => ⟨s.seq (SqL.of hz11), s.seq (SqL.of (s6 _ _ hq4))⟩) ?_ ?_
    · rintro j y Hc Hd hj ⟨hB2, sB⟩ ⟨T', a', b', rfl, hT, rfl, ea, eb⟩
      have ea' : some (V.int (((0 : Int) :: ys).getD j 0)) = some a' := by
        rw [← ea]
        show _ = (List.map V.int ((0 : Int) :: ys))[j]?
        rw [List.getElem?_map, List.getD_eq_getElem?_getD, List.getElem?_eq_getElem (by rw [List.length_cons]; omega)]; rfl
      have eb' : some (V.int (ys.getD j 0)) = some b' := by
        rw [← eb]
        show _ = (List.map V.int ys)[j]?
        rw [List.getElem?_map, List.getD_eq_getElem?_getD, List.getElem?_eq_getElem hj]; rfl
      cases ea'
      cases eb'
      have nBT : B ≠ T' := ne_of_none hB2 hT
      refine ⟨T', _, rfl, SqT.of upd_same, rfl, _, _, rfl, _, _, rfl, rfl, rfl, _, rfl, _, rfl, _, _, rfl, rfl, _, by rw [upd_ne nBT]; exact hB2, small (by rw [List.length_map, List.length_map, List.length_range]; omega), ?_, Same.upd (Same.upd sB (sB.free hT)) hB⟩
      rw [upd_same, List.range_succ, List.map_append, List.map_append]
      rfl
    rintro H7 ⟨hB7, s7⟩
    have s47 := s6.trans s7
    have hq7 := s47 _ _ hq4
    have e7 := e4.same s47
    clear s47 s7 s6 s5 hz11 hB
    have pn := R.ok.pn
    have p0 : 0 < p := by rcases R.ok.per with h | h | h | h | h | h <;> omega
    refine ⟨_, rfl, _, rfl, q, _, _, _, rfl, rfl, SqL.of hq7, at_back (by decide) (by omega), ?_⟩
    refine ⟨(by show 1 ≤ sizeLine; decide), fun z2 hz2 => ?_⟩
    have s8 := Same.upd (o := .lst [.int 0]) (Same.refl H7) hz2
    refine ⟨_, rfl, z2, q, _, _, rfl, rfl, upd_same, s8 _ _ hq7, (by rw [List.length_map, sizeLine_eq]; show 1 + ys.length ≤ _; omega), fun z3 hz3 => ?_⟩
    have hz31 : upd (upd H7 z2 (.lst [.int 0])) z3 (.lst (([.int 0] : List V) ++ ys.map V.int)) z3 = some (.lst (((0 : Int) :: ys).map V.int)) := upd_same
    have s9 := s8.trans (Same.upd (o := .lst (([.int 0] : List V) ++ ys.map V.int)) (Same.refl _) hz3)
    generalize upd (upd H7 z2 (.lst [.int 0])) z3 (.lst (([.int 0] : List V) ++ ys.map V.int)) = H9 at *
    have hq9 := s9 _ _ hq7
    have hB9 := s9 _ _ hB7
    have e9 := e7.same s9
    refine ⟨_, rfl, q, _, rfl, .inl (SqL.of hq9), _, _, rfl, rfl, _, rfl, _, _, rfl, rfl, z3, _, _, _, rfl, rfl, SqL.of hz31, at_map (by rw [List.length_map]; omega) (by rw [List.length_map, List.length_cons]; omega), _, _, rfl, rfl, ?_⟩
    rw [List.length_map]
    have el : ((-1 : Int) + (ys.length : Nat)).toNat = ys.length - 1 := by omega
    have eh2 : ((0 : Int) :: ys).getD ((ys.length : Int) + 1 - p).toNat 0 = ys.getD (ys.length - p.toNat) 0 := by
      rw [show ((ys.length : Int) + 1 - p).toNat = (ys.length - p.toNat) + 1 by omega]
      rfl
    refine ⟨_, rfl, B, _, rfl, SqL.of hB9, ?_⟩
    rw [el, eh2]
    refine ⟨_, rfl, ite2 (fun c => ?_) (fun _ => ?_)⟩
    · refine ⟨_, rfl, _, rfl, _, _, rfl, rfl, _, rfl, ifD (fun c2 => ?_) (fun c2 => ?_)⟩
      · refine ⟨_, rfl, _, rfl, _, rfl, (by show 3 ≤ sizeLine; decide), fun t2 ht2 => ?_⟩
        have ris : ∀ i, i < ys.length → ((0 : Int) :: ys).getD i 0 ≤ ys.getD i 0 := fun i hi => by
          rw [List.all_eq_true] at c
          exact of_decide_eq_true (c _ (List.mem_map.mpr ⟨i, List.mem_range.mpr hi, rfl⟩))
        have ht0 := e9.free ht2
        have e10 := e9.new (o := .tup [.ref q, .int p, .int e]) ht2
        refine k _ t2 q ys e e10 ⟨upd_same, by rw [upd_ne (ne_of_none hq9 ht2)]; exact hq9⟩ ?_ (hr0.ne ht0) nq (.inr hqH)
        exact near_ok R yl yh eh ris (by omega)
      · exact ⟨_, rfl, k _ t l xs g e9 ⟨e9.keep _ _ nt hR.1, e9.keep _ _ nl hR.2⟩ R.ok nt nl (.inl rfl)⟩
    · exact ⟨_, rfl, k _ t l xs g e9 ⟨e9.keep _ _ nt hR.1, e9.keep _ _ nl hR.2⟩ R.ok nt nl (.inl rfl)⟩
end
end VK


namespace VK
open PySem PySem.Spec PyProof.Rows L2 VM
/-- a row and where it lies -/
structure RwD where
  t : Addr
  l : Addr
  xs : List Int
  p : Int
  g : Int
def RwD.F (d : RwD) : Int → Int := cvAt d.xs d.p d.g
structure RwAt (H : Hp) (r : Addr) (d : RwD) : Prop where
  row : RowH H d.t d.l d.xs d.p d.g
  nt : d.t ≠ r
  nl : d.l ≠ r
  ok : OkRow d.xs d.p d.g
theorem RwAt.ext {H H' : Hp} {r : Addr} {d : RwD} (h : RwAt H r d) (e : Ext r H H') : RwAt H' r d := ⟨⟨e.keep _ _ h.nt h.row.1, e.keep _ _ h.nl h.row.2⟩, h.nt, h.nl, h.ok⟩
theorem RwAt.same {H H' : Hp} {r : Addr} {d : RwD} (h : RwAt H r d) (s : Same H H') : RwAt H' r d := ⟨h.row.same s, h.nt, h.nl, h.ok⟩
theorem RwAt.b {H : Hp} {r : Addr} {d : RwD} (h : RwAt H r d) : 0 < d.p ∧ d.p ∣ 12 ∧ d.p ≤ d.xs.length ∧ d.xs.length ≤ 24 := ⟨by rcases h.ok.per with z | z | z | z | z | z <;> omega, dvd12 h.ok.per, h.ok.pn, h.ok.l2⟩
/-- a curve that is told by its function -/
def CvR (A : Ad) (H : Hp) (r x : Addr) (F : Int → Int) (N : Nat) : Prop := ∃ cs p g dx l w b, H x = some (.ins A.Curve dx (cfs l p g w b)) ∧ H l = some (.lst (cs.map V.int)) ∧ CFo cs p g F N ∧ x ≠ r ∧ l ≠ r
theorem CvR.ext {A : Ad} {H H' : Hp} {r x : Addr} {F : Int → Int} {N : Nat} (h : CvR A H r x F N) (e : Ext r H H') : CvR A H' r x F N := by
  obtain ⟨cs, p, g, dx, l, w, b, h1, h2, h3, h4, h5⟩ := h
  exact ⟨cs, p, g, dx, l, w, b, e.keep _ _ h4 h1, e.keep _ _ h5 h2, h3, h4, h5⟩
theorem CvR.same {A : Ad} {H H' : Hp} {r x : Addr} {F : Int → Int} {N : Nat} (h : CvR A H r x F N) (s : Same H H') : CvR A H' r x F N := by
  obtain ⟨cs, p, g, dx, l, w, b, h1, h2, h3, h4, h5⟩ := h
  exact ⟨cs, p, g, dx, l, w, b, s _ _ h1, s _ _ h2, h3, h4, h5⟩
theorem CvR.crv {A : Ad} {H : Hp} {r x : Addr} {F : Int → Int} {N : Nat} (h : CvR A H r x F N) : ∃ cs p g, CrvAt A H x cs p g ∧ CFo cs p g F N := by
  obtain ⟨cs, p, g, dx, l, w, b, h1, h2, h3, h4, h5⟩ := h
  exact ⟨cs, p, g, ⟨dx, l, w, b, h1, h2⟩, h3⟩
theorem CvR.fn {A : Ad} {H : Hp} {r x : Addr} {F G : Int → Int} {N : Nat} (h : CvR A H r x F N) (e : ∀ t : Int, 0 ≤ t → F t = G t) : CvR A H r x G N := by
  obtain ⟨cs, p, g, dx, l, w, b, h1, h2, h3, h4, h5⟩ := h
  exact ⟨cs, p, g, dx, l, w, b, h1, h2, ⟨h3.p0, h3.pd, h3.pn, h3.n, fun t ht => by rw [h3.eq t ht, e t ht], h3.c1, h3.c2⟩, h4, h5⟩
theorem CvR.ins {A : Ad} {H : Hp} {r x : Addr} {F : Int → Int} {N : Nat} (h : CvR A H r x F N) : ∃ dx l p g w b, H x = some (.ins A.Curve dx (cfs l p g w b)) := by
  obtain ⟨cs, p, g, dx, l, w, b, h1, h2, h3, h4, h5⟩ := h
  exact ⟨dx, l, p, g, w, b, h1⟩
theorem CvR.put {A : Ad} {H : Hp} {r D x : Addr} {F : Int → Int} {N : Nat} {o : HO} (h : CvR A H r x F N) (h2 : CvR A H D x F N) : CvR A (upd H D o) r x F N ∧ CvR A (upd H D o) D x F N := by
  obtain ⟨cs, p, g, dx, l, w, b, a1, a2, a3, a4, a5⟩ := h
  obtain ⟨cs2, p2, g2, dx2, l2, w2, b2, c1, c2, c3, c4, c5⟩ := h2
  have e := Option.some.inj (a1.symm.trans c1)
  have el : l = l2 := by
    unfold cfs at e
    injection e with e1 e2 e3
    injection e3 with e4 e5
    injection e4 with e6 e7
    injection e7
  subst el
  exact ⟨⟨cs, p, g, dx, l, w, b, by rw [upd_ne c4]; exact a1, by rw [upd_ne c5]; exact a2, a3, a4, a5⟩, ⟨cs, p, g, dx, l, w, b, by rw [upd_ne c4]; exact a1, by rw [upd_ne c5]; exact a2, a3, c4, c5⟩⟩
section
variable {P : Program} {w : World} {K : PySem.W.Frag} {mg : Str → Option Value} {base : Heap} {A : Ad}
/-- curve(row) -/
theorem rw_curve {H : Hp} {r : Addr} {d : RwD} {Q : VK} {E : XK} (h : RwAt H r d) (hr : Rng H r) (k : ∀ H' x, Same H H' → H x = none → CvR A H' r x d.F 24 → Q (.ref x) H') : sp_l_curve K A [.ref d.t] H Q E :=
  ⟨d.t, d.l, d.xs, d.p, d.g, rfl, h.row.1, h.row.2, h.ok, fun H' x dx lc s hx hlc h1 h2 => k H' x s hx ⟨_, _, _, dx, lc, false, .non, h1, h2, CFo.row h.ok, hr.ne hx, hr.ne hlc⟩⟩
theorem rw_curve2 {H : Hp} {r : Addr} {d : RwD} {Q : VK} {E : XK} (h : RwAt H r d) (k : ∀ H' x, Same H H' → H x = none → (∀ a, H a ≠ none → CvR A H' a x d.F 24) → Q (.ref x) H') : sp_l_curve K A [.ref d.t] H Q E :=
  ⟨d.t, d.l, d.xs, d.p, d.g, rfl, h.row.1, h.row.2, h.ok, fun H' x dx lc s hx hlc h1 h2 => k H' x s hx fun a ha => ⟨_, _, _, dx, lc, false, .non, h1, h2, CFo.row h.ok, fun z => ha (z ▸ hx), fun z => ha (z ▸ hlc)⟩⟩
/-- at(row, t) -/
theorem rw_at {H : Hp} {r : Addr} {d : RwD} {t : Int} {Q : VK} {E : XK} (h : RwAt H r d) (t0 : 0 ≤ t) (t1 : t < 2 ^ 62) (k : Q (.int (d.F t)) H) : sp_l_at K A [.ref d.t, .int t] H Q E := by
  obtain ⟨p0, _, pn, xl⟩ := h.b
  exact ⟨d.t, d.l, d.xs, d.p, d.g, t, rfl, SqT.of h.row.1, SqL.of h.row.2, p0, pn, by omega, t0, t1, k⟩
/-- curve.at(t) -/
theorem cv_at {H : Hp} {r x : Addr} {F : Int → Int} {N : Nat} {t : Int} {Q : VK} {E : XK} (h : CvR A H r x F N) (hN : N ≤ 900) (t0 : 0 ≤ t) (t1 : t < 2 ^ 62) (k : Q (.int (F t)) H) : sp_C_at K A [.ref x, .int t] H Q E := by
  obtain ⟨cs, p, g, C, O⟩ := h.crv
  have := O.n
  rw [← O.eq t t0] at k
  exact ⟨x, cs, p, g, t, rfl, C, O.p0, O.pn, by omega, t0, t1, k⟩
/-- x + y -/
theorem cv_add {H : Hp} {r x y : Addr} {F1 F2 : Int → Int} {N1 N2 N : Nat} {Q : VK} {E : XK} (h1 : CvR A H r x F1 N1) (h2 : CvR A H r y F2 N2) (hr : Rng H r) (b1 : N1 + 12 ≤ N) (b2 : N2 + 12 ≤ N) (hN : N ≤ 400)
    (k : ∀ H' z, Same H H' → H z = none → CvR A H' r z (fun t => F1 t + F2 t) N → Q (.ref z) H') : VO.rAddOwn A.Curve (sp_C_add K A) E (.ref x) (.ref y) H Q := by
  obtain ⟨c1, p1, g1, C1, O1⟩ := h1.crv
  obtain ⟨c2, p2, g2, C2, O2⟩ := h2.crv
  obtain ⟨dx, lx, wx, bx, hx, hlx⟩ := id C1
  obtain ⟨dy, ly, wy, by_, hy, hly⟩ := id C2
  have n1 := O1.n
  have n2 := O2.n
  refine ⟨x, dx, _, y, dy, _, rfl, hx, rfl, hy, x, y, c1, c2, p1, g1, p2, g2, rfl, C1, C2, O1.p0, O1.pn, O1.p12, by omega, O2.p0, O2.pn, O2.p12, by omega, fun H' z dz lz s hz hlz h3 h4 => ⟨z, rfl, ?_⟩⟩
  exact k H' z s hz ⟨_, _, _, dz, lz, false, .non, h3, h4, O1.add O2 b1 b2, hr.ne hz, hr.ne hlz⟩
/-- x.later(n) -/
theorem cv_later {H : Hp} {r x : Addr} {F : Int → Int} {N n : Nat} {Q : VK} {E : XK} (h : CvR A H r x F N) (hr : Rng H r) (hn : n ≤ 100) (hN : N ≤ 400)
    (k : ∀ H' z, Same H H' → H z = none → CvR A H' r z (laterF F n) (N + 100) → Q (.ref z) H') : sp_C_later K A [.ref x, .int n] H Q E := by
  obtain ⟨cs, p, g, C, O⟩ := h.crv
  have := O.n
  exact ⟨x, cs, p, g, n, rfl, C, O.p0, O.pn, by omega, hn, fun H' y dx l' s hy hl h1 h2 => k H' y s hy ⟨_, _, _, dx, l', false, .non, h1, h2, O.later hn, hr.ne hy, hr.ne hl⟩⟩
/-- x == y -/
theorem cv_eq (T : Txt K mg A) {H : Hp} {r x y : Addr} {F1 F2 : Int → Int} {N1 N2 : Nat} {Q : VK} {E : XK} (h1 : CvR A H r x F1 N1) (h2 : CvR A H r y F2 N2) (e : ∀ t : Int, 0 ≤ t → F1 t = F2 t) (k : Q (.bl true) H) : VN.rOwn K A.Curve (sp_C_eq K A) E (.ref x) (.ref y) H Q := by
  obtain ⟨c1, p1, g1, C1, O1⟩ := h1.crv
  obtain ⟨c2, p2, g2, C2, O2⟩ := h2.crv
  obtain ⟨rfl, rfl, rfl⟩ := O1.uniq O2 e
  refine own_eq T C1 C2 ?_
  rw [same3]
  exact k
/-- x.at_most(y) -/
theorem cv_most {H : Hp} {r x y : Addr} {F1 F2 : Int → Int} {N1 N2 : Nat} {Q : VK} {E : XK} (h1 : CvR A H r x F1 N1) (h2 : CvR A H r y F2 N2) (b1 : N1 ≤ 900) (b2 : N2 ≤ 900)
    (k : ∀ H' b, Same H H' → (b = true ↔ ∀ t : Int, 1 ≤ t → F1 t ≤ F2 t) → Q (.bl b) H') : sp_C_at_most K A [.ref x, .ref y] H Q E := by
  obtain ⟨c1, p1, g1, C1, O1⟩ := h1.crv
  obtain ⟨c2, p2, g2, C2, O2⟩ := h2.crv
  have := O1.n
  have := O2.n
  refine ⟨x, y, c1, c2, p1, g1, p2, g2, rfl, C1, C2, O1.p0, O1.pn, by omega, O2.p0, O2.pn, by omega, fun H' s => k H' _ s ?_⟩
  rw [am_iff O1.rep O2.rep O1.p0 O1.pn O2.p0 O2.pn]
  exact ⟨fun h t ht => by rw [← O1.eq t (by omega), ← O2.eq t (by omega)]; exact h t ht, fun h t ht => by rw [O1.eq t (by omega), O2.eq t (by omega)]; exact h t ht⟩
end
end VK


namespace VK
open PySem PySem.Spec PyProof.Rows L2 VM
theorem cv_hi {xs : List Int} {p g : Int} (R : OkRow xs p g) : ∀ k : Nat, cvAt xs p g k ≤ 2000 + 2000 * (k : Int) := by
  have p0 : 0 < p := by rcases R.per with h | h | h | h | h | h <;> omega
  intro k
  induction k using Nat.strongRecOn with
  | ind k ih =>
    by_cases z : k = 0
    · subst z
      rw [show ((0 : Nat) : Int) = 0 from rfl, cvAt_zero]
      decide
    · by_cases c : (k : Int) ≤ xs.length
      · rw [cvAt_in (by omega) c]
        have := R.hi ((k : Int) - 1).toNat (by omega)
        omega
      · have pn := R.pn
        have g1 := R.g1
        have h := cvAt_back (g := g) p0 pn (show (xs.length : Int) < k by omega)
        have := ih (k - p.toNat) (by omega)
        rw [show ((k - p.toNat : Nat) : Int) = k - p by omega] at this
        omega
theorem CFo.small {cs : List Int} {p g : Int} {F : Int → Int} {N : Nat} (O : CFo cs p g F N) (b : ∀ t : Int, 0 ≤ t → t ≤ N + 12 → 0 ≤ F t ∧ F t ≤ 10 ^ 9) : (∀ u ∈ cs, u.natAbs < 10 ^ 100) ∧ p.natAbs < 10 ^ 100 ∧ g.natAbs < 10 ^ 100 := by
  have big : (10000000000 : Nat) < 10 ^ 100 := by decide +kernel
  have p0 := O.p0
  have p12 := O.p12
  have pn := O.pn
  have n := O.n
  have e9 : (10 : Int) ^ 9 = 1000000000 := by decide
  refine ⟨fun u hu => ?_, Nat.lt_trans (show p.natAbs < 10000000000 by omega) big, ?_⟩
  · obtain ⟨i, hi, rfl⟩ := List.getElem_of_mem hu
    have h := cvAt_in (vs := cs) (p := p) (g := g) (t := (i : Int) + 1) (by omega) (by omega)
    rw [O.eq _ (by omega)] at h
    have hb := b ((i : Int) + 1) (by omega) (by omega)
    rw [show ((i : Int) + 1 - 1).toNat = i by omega, List.getD_eq_getElem?_getD, List.getElem?_eq_getElem hi] at h
    have h : F ((i : Int) + 1) = cs[i] := h
    exact Nat.lt_trans (show cs[i].natAbs < 10000000000 by omega) big
  · have r := O.rep ((cs.length : Int) + 1) (by omega)
    rw [O.eq _ (by omega), O.eq _ (by omega)] at r
    have b1 := b ((cs.length : Int) + 1) (by omega) (by omega)
    have b2 := b ((cs.length : Int) + 1 - p) (by omega) (by omega)
    exact Nat.lt_trans (show g.natAbs < 10000000000 by omega) big
theorem rw_small {d : RwD} (h : OkRow d.xs d.p d.g) : ∀ t : Int, 0 ≤ t → t ≤ 500 → 0 ≤ d.F t ∧ d.F t ≤ 10 ^ 9 := fun t t0 t1 => by
  have a := cv_nn h t.toNat
  have b := cv_hi h t.toNat
  rw [Int.toNat_of_nonneg t0] at a b
  have e9 : (10 : Int) ^ 9 = 1000000000 := by decide
  have a : 0 ≤ d.F t := a
  have b : d.F t ≤ 2000 + 2000 * t := b
  omega
/-- what repr asks of a curve -/
theorem CvR.rep {A : Ad} {H : Hp} {r x : Addr} {F : Int → Int} {N : Nat} (h : CvR A H r x F N) (hN : N ≤ 400) (b : ∀ t : Int, 0 ≤ t → t ≤ 500 → 0 ≤ F t ∧ F t ≤ 10 ^ 9) :
    ∃ cs p g dx fs, H x = some (.ins A.Curve dx fs) ∧ CrvAt A H x cs p g ∧ CFo cs p g F N ∧ VR.Sz 1 1000000 (.list (cs.map PyData.int)) ∧ p.natAbs < 10 ^ 100 ∧ g.natAbs < 10 ^ 100 := by
  obtain ⟨cs, p, g, dx, l, w, bb, h1, h2, h3, h4, h5⟩ := h
  obtain ⟨s1, s2, s3⟩ := h3.small fun t t0 t1 => b t t0 (by omega)
  exact ⟨cs, p, g, dx, _, h1, ⟨dx, l, w, bb, h1, h2⟩, h3, (VR.Sz.ints (n := 1000) s1 (by have := h3.n; omega)).mono (by decide) (by decide), s2, s3⟩
def sp_l_sums_right (_ : PySem.W.Frag) (_ : Ad) : Sp := fun vs H Q _ => ∃ (r L : Addr) (d0 d1 d2 : RwD), vs = [.ref r, .ref L] ∧ Rng H r ∧ L ≠ r ∧ H L = some (.lst [.ref d0.t, .ref d1.t, .ref d2.t]) ∧ RwAt H r d0 ∧ RwAt H r d1 ∧ RwAt H r d2 ∧
  ∀ H', Ext r H H' → Q (.bl true) H'
section
variable {P : Program} {w : World} {K : PySem.W.Frag} {mg : Str → Option Value} {base : Heap} {A : Ad}
theorem ok_l_sums_right (T : Txt K mg A) : VG.FnG P w K mg base CX0 9 A.f_l_sums_right A.d_l_sums_right ["_law_rng_here", "_law_rows"] (sp_l_sums_right K A) := by
  have G_C_add := ok_C_add (P := P) (w := w) (base := base) T
  have G_C_at := ok_C_at (P := P) (w := w) (base := base) T
  have G_C_eq := ok_C_eq (P := P) (w := w) (base := base) T
  have G_C_repr := ok_C_repr (P := P) (w := w) (base := base) T
  have G_l_at := ok_l_at (P := P) (w := w) (base := base) T
  have G_l_curve := ok_l_curve (P := P) (w := w) (base := base) T
  have G_l_is_written := ok_l_is_written (P := P) (w := w) (base := base) T
  have G_l_lengths := ok_l_lengths (P := P) (w := w) (base := base) T
  have G_l_sum_row := ok_l_sum_row (P := P) (w := w) (base := base) T
  have G_C_eq := ok_C_eq (P := P) (w := w) (base := base) T
  have G_C_add := ok_C_add (P := P) (w := w) (base := base) T
  have G_C_repr := ok_C_repr (P := P) (w := w) (base := base) T
  refine VG.okG0 T.F_l_sums_right sc_l_sums_right (fun vs H Q E h => ?_) (fun cdv A0 outer s H vs Q E hA hr h => ?_)
  · obtain ⟨r, L, d0, d1, d2, rfl, hr0, nL, hL, D0, D1, D2, k⟩ := h
    rfl
  · obtain ⟨r, L, d0, d1, d2, rfl, hr0, nL, hL, D0, D1, D2, k⟩ := h
    refine ⟨_, (pss_cons (ps_asg (pe_lc (own := [("_law_row", 10)]) (g := gName 10) (tt := tYes) rfl sc_l_sums_right.nd (pi_list (pv 1)) (blkOk_by (own := [("_law_row", 10)]) (N := ["_law_rng_here", "_law_rows", "_law_one", "_law_other", "_law_third", "_law_both", "_law_back", "_law_three", "_law_length", "_law_due", "_law_row"]) (sc := defScope s_l_sums_right) (by decide +kernel)) (fun _ _ _ _ _ => pg_name (i := 10) sc_l_sums_right.nd rfl (by first | exact Or.inl rfl | exact Or.inr rfl)) (fun _ _ _ _ _ => pts_nil) (fun _ _ _ _ _ => (pe_call G_l_curve (hr.mono (by decide)) rfl T.m_l_curve T.k_l_curve T.b_l_curve .nil pass0 (pa_cons (pv 10) pa_nil)))) (pg_unl rfl (pgs_cons (pg_name (i := 2) sc_l_sums_right.nd rfl (by first | exact Or.inl rfl | exact Or.inr rfl)) (pgs_cons (pg_name (i := 3) sc_l_sums_right.nd rfl (by first | exact Or.inl rfl | exact Or.inr rfl)) (pgs_cons (pg_name (i := 4) sc_l_sums_right.nd rfl (by first | exact Or.inl rfl | exact Or.inr rfl)) pgs_nil)))))
    (pss_cons (ps_par (i := 5) (j := 6) (by rfl) sc_l_sums_right.nd rfl rfl (by decide) rfl rfl (pa_cons (pe_op (VO.op_addOwn (C := A.Curve) G_C_add (hr.mono (by decide)) T.me___add__ T.sf_Curve T.b_C_add pass0) (pv 2) (pv 3)) (pa_cons (pe_op (VO.op_addOwn (C := A.Curve) G_C_add (hr.mono (by decide)) T.me___add__ T.sf_Curve T.b_C_add pass0) (pv 3) (pv 2)) pa_nil)) (by rfl))
    (pss_cons (ps_set (i := 7) sc_l_sums_right.nd rfl (by first | exact Or.inl rfl | exact Or.inr rfl) (pe_op (VO.op_addOwn (C := A.Curve) G_C_add (hr.mono (by decide)) T.me___add__ T.sf_Curve T.b_C_add pass0) (pv 5) (pv 4)))
    (pss_cons (ps_for PassesOwn.never rfl (pi_list (pe_call G_l_lengths (hr.mono (by decide)) rfl T.m_l_lengths T.k_l_lengths T.b_l_lengths .nil pass0 (pa_cons (pv 0) pa_nil))) (pg_name (i := 8) sc_l_sums_right.nd rfl (by first | exact Or.inl rfl | exact Or.inr rfl))
      (pss_cons (ps_set (i := 9) sc_l_sums_right.nd rfl (by first | exact Or.inl rfl | exact Or.inr rfl) (pe_op op_add (pe_call G_l_at (hr.mono (by decide)) rfl T.m_l_at T.k_l_at T.b_l_at .nil pass0 (pa_cons (pe_ix (r := rIxL K) ix_list (pv 1) pe_int (fun _ _ => rfl)) (pa_cons (pv 8) pa_nil))) (pe_call G_l_at (hr.mono (by decide)) rfl T.m_l_at T.k_l_at T.b_l_at .nil pass0 (pa_cons (pe_ix (r := rIxL K) ix_list (pv 1) pe_int (fun _ _ => rfl)) (pa_cons (pv 8) pa_nil)))))
    (pss_cons (ps_if (PW.pt (pw_or (pt_cmpR op_ne (pe_meth (pv 5) T.cl T.me_at G_C_at (hr.mono (by decide)) T.b_C_at .nil pass0 (pa_cons (pv 8) pa_nil)) (pv 9) (nomark _)) (pw_or1 (pt_cmpR op_ne (pe_meth (pv 6) T.cl T.me_at G_C_at (hr.mono (by decide)) T.b_C_at .nil pass0 (pa_cons (pv 8) pa_nil)) (pv 9) (nomark _))))) (pss_one (ps_ret pe_bl)) pss_nil)
    (pss_one (ps_if (pt_cmpR op_ne (pe_meth (pv 7) T.cl T.me_at G_C_at (hr.mono (by decide)) T.b_C_at .nil pass0 (pa_cons (pv 8) pa_nil)) (pe_op op_add (pv 9) (pe_call G_l_at (hr.mono (by decide)) rfl T.m_l_at T.k_l_at T.b_l_at .nil pass0 (pa_cons (pe_ix (r := rIxL K) ix_list (pv 1) pe_int (fun _ _ => rfl)) (pa_cons (pv 8) pa_nil)))) (nomark _)) (pss_one (ps_ret pe_bl)) pss_nil)))))
    (pss_cons (ps_if (PW.pt (pw_or (pt_not (pt_cmpR (VN.op_eqOwn (C := A.Curve) G_C_eq (hr.mono (by decide)) T.me___eq__ T.ic_Curve T.b_C_eq pass0) (pv 5) (pv 6) (nomark _))) (pw_or (pt_not (pt_cmpR (VN.op_eqOwn (C := A.Curve) G_C_eq (hr.mono (by decide)) T.me___eq__ T.ic_Curve T.b_C_eq pass0) (pv 7) (pe_op (VO.op_addOwn (C := A.Curve) G_C_add (hr.mono (by decide)) T.me___add__ T.sf_Curve T.b_C_add pass0) (pv 2) (pe_op (VO.op_addOwn (C := A.Curve) G_C_add (hr.mono (by decide)) T.me___add__ T.sf_Curve T.b_C_add pass0) (pv 3) (pv 4))) (nomark _))) (pw_or1 (pt_not (pt_val (pe_callB (r := rIsi K) call_isi (by rfl) T.isinstance (by decide +kernel) (pa_cons (pv 5) (pa_cons (pe_glob (v := .ref A.Curve) rfl T.m_Curve rfl) pa_nil))))))))) (pss_one (ps_ret pe_bl)) pss_nil)
    (pss_cons (ps_set (i := 10) sc_l_sums_right.nd rfl (by first | exact Or.inl rfl | exact Or.inr rfl) (pe_call G_l_sum_row (hr.mono (by decide)) rfl T.m_l_sum_row T.k_l_sum_row T.b_l_sum_row .nil pass0 (pa_cons (pe_ix (r := rIxL K) ix_list (pv 1) pe_int (fun _ _ => rfl)) (pa_cons (pe_ix (r := rIxL K) ix_list (pv 1) pe_int (fun _ _ => rfl)) pa_nil))))
    (VG.pss_join (ps_if (PW.pt (pw_and (pt_val (pe_call G_l_is_written (hr.mono (by decide)) rfl T.m_l_is_written T.k_l_is_written T.b_l_is_written .nil pass0 (pa_cons (pv 10) pa_nil))) (pw_and1 (pt_not (pt_cmpR (VN.op_eqOwn (C := A.Curve) G_C_eq (hr.mono (by decide)) T.me___eq__ T.ic_Curve T.b_C_eq pass0) (pe_call G_l_curve (hr.mono (by decide)) rfl T.m_l_curve T.k_l_curve T.b_l_curve .nil pass0 (pa_cons (pv 10) pa_nil)) (pv 5) (nomark _)))))) (pss_one (ps_ret pe_bl)) pss_nil)
    (pss_one (ps_ret (pe_and (pe_cmpR op_eq (pe_callB (VQ.call_reprOwnG (C := A.Curve) G_C_repr hA (hr.mono (by decide)) T.me___repr__ T.b_C_repr pass0) (by rfl) T.repr (by decide +kernel) (pa_cons (pv 2) pa_nil)) (pe_callB (VQ.call_reprOwnG (C := A.Curve) G_C_repr hA (hr.mono (by decide)) T.me___repr__ T.b_C_repr pass0) (by rfl) T.repr (by decide +kernel) (pa_cons (pe_call G_l_curve (hr.mono (by decide)) rfl T.m_l_curve T.k_l_curve T.b_l_curve .nil pass0 (pa_cons (pe_ix (r := rIxL K) ix_list (pv 1) pe_int (fun _ _ => rfl)) pa_nil)) pa_nil)) (nomark _)) (pe_one (pe_cmpR op_eq (pe_callB (VQ.call_reprOwnG (C := A.Curve) G_C_repr hA (hr.mono (by decide)) T.me___repr__ T.b_C_repr pass0) (by rfl) T.repr (by decide +kernel) (pa_cons (pv 3) pa_nil)) (pe_callB (VQ.call_reprOwnG (C := A.Curve) G_C_repr hA (hr.mono (by decide)) T.me___repr__ T.b_C_repr pass0) (by rfl) T.repr (by decide +kernel) (pa_cons (pe_call G_l_curve (hr.mono (by decide)) rfl T.m_l_curve T.k_l_curve T.b_l_curve .nil pass0 (pa_cons (pe_ix (r := rIxL K) ix_list (pv 1) pe_int (fun _ _ => rfl)) pa_nil)) pa_nil)) (nomark _))))))))))))), ?_⟩
    refine ⟨_, rfl, L, rfl, ⟨_, SqL.of hL⟩, fun D hD => ?_⟩
    refine lc_list (K := K) (a := L) (xs := [.ref d0.t, .ref d1.t, .ref d2.t]) (fun j H' => Same H H' ∧ ∃ us : List Addr, us.length = j ∧ H' D = some (.lst (us.map V.ref)) ∧ ∀ (i : Nat) (x : Addr) (d : RwD), us[i]? = some x → [d0, d1, d2][i]? = some d → CvR A H' r x d.F 24 ∧ CvR A H' D x d.F 24)
      ⟨Same.upd (Same.refl _) hD, [], rfl, upd_same, fun i x d h => (nomatch h)⟩ (fun j H' _ ⟨s, _⟩ => SqL.of (s _ _ hL)) ?_ ?_
    · rintro j v H' hv ⟨s1, us, ul, hD2, cs⟩
      obtain ⟨d, hd, rfl, Dd⟩ : ∃ d, [d0, d1, d2][j]? = some d ∧ v = .ref d.t ∧ RwAt H r d := by
        match j, hv with
        | 0, h => cases h; exact ⟨d0, rfl, rfl, D0⟩
        | 1, h => cases h; exact ⟨d1, rfl, rfl, D1⟩
        | 2, h => cases h; exact ⟨d2, rfl, rfl, D2⟩
        | n + 3, h => cases h
      refine ⟨rfl, _, rfl, ?_⟩
      try delta tNil
      refine rw_curve2 (Dd.same s1) fun H2 x s2 hx C => ?_
      have C1 := C r (by obtain ⟨_, _, e, _⟩ := hr0.same s1; rw [e]; exact fun z => nomatch z)
      have C2 := C D (by rw [hD2]; exact fun z => nomatch z)
      have jl : j < 3 := (List.getElem?_eq_some_iff.mp hv).1
      refine ⟨_, s2 _ _ hD2, small (by rw [List.length_map]; omega), Same.upd (s1.trans s2) hD, us ++ [x], by rw [List.length_append, ul]; rfl, by rw [upd_same, List.map_append]; rfl, fun i y e hi he => ?_⟩
      by_cases c : i < us.length
      · rw [List.getElem?_append_left c] at hi
        obtain ⟨a, b⟩ := cs i y e hi he
        exact (a.same s2).put (b.same s2)
      · have hl := (List.getElem?_eq_some_iff.mp hi).1
        rw [List.length_append, List.length_singleton] at hl
        obtain rfl : i = us.length := by omega
        rw [List.getElem?_append_right (Nat.le_refl _), Nat.sub_self] at hi
        cases hi
        rw [ul, hd] at he
        cases he
        exact C1.put C2
    rintro H1 ⟨s1, us, ul, hD1, cs⟩
    obtain ⟨x0, x1, x2, rfl⟩ : ∃ x0 x1 x2, us = [x0, x1, x2] := match us, ul with | [a, b, c], _ => ⟨a, b, c, rfl⟩
    have X0 := (cs 0 x0 d0 rfl rfl).1
    have X1 := (cs 1 x1 d1 rfl rfl).1
    have X2 := (cs 2 x2 d2 rfl rfl).1
    refine ⟨D, _, rfl, SqL.of hD1, rfl, _, _, rfl, _, _, rfl, _, _, rfl, rfl, ?_⟩
    have e1 := Ext.of hr0 s1
    have A0 := D0.same s1
    have A1 := D1.same s1
    have A2 := D2.same s1
    have hL1 := s1 _ _ hL
    clear s1 ul hD1 cs hD D0 D1 D2
    refine ⟨_, rfl, _, rfl, ?_⟩
    refine cv_add X0 X1 e1.rng (N := 36) (by decide) (by decide) (by decide) fun H2 y s2 hy Y => ?_
    refine ⟨_, rfl, _, rfl, ?_⟩
    refine cv_add (X1.same s2) (X0.same s2) (e1.same s2).rng (N := 36) (by decide) (by decide) (by decide) fun H3 z s3 hz Z0 => ?_
    have Z : CvR A H3 r z (fun t => d0.F t + d1.F t) 36 := Z0.fn fun t _ => Int.add_comm _ _
    have s13 := s2.trans s3
    have Y3 := Y.same s3
    refine ⟨_, _, rfl, ?_⟩
    refine ⟨_, rfl, _, rfl, ?_⟩
    refine cv_add Y3 (X2.same s13) (e1.same s13).rng (N := 48) (by decide) (by decide) (by decide) fun H4 u s4 hu U => ?_
    have s14 := s13.trans s4
    have e4 := e1.same s14
    refine ⟨_, rfl, r, rfl, e4.rng, fun H5 q ys e45 hq0 hq yl yb => ?_⟩
    have e5 := e4.trans e45
    have nLr := nL
    have hL5 := e45.keep _ _ nL (s14 _ _ hL1)
    have A05 := (A0.same s14).ext e45
    have A15 := (A1.same s14).ext e45
    have A25 := (A2.same s14).ext e45
    have X05 := (X0.same s14).ext e45
    have X15 := (X1.same s14).ext e45
    have X25 := (X2.same s14).ext e45
    have Y5 := (Y3.same s4).ext e45
    have Z5 := (Z.same s4).ext e45
    have U5 := U.ext e45
    clear U Z Z0 Y3 Y X0 X1 X2 A0 A1 A2 hL1 e1 e4 e45 s14 s13 s4 s3 s2 hq0 hu hz hy
    refine ⟨q, rfl, ⟨_, SqL.of hq⟩, ?_⟩
    refine for_list (K := K) (a := q) (xs := ys.map V.int) (fun i σ H' => ∃ v8 v9, σ = [some (.ref r), some (.ref L), some (.ref x0), some (.ref x1), some (.ref x2), some (.ref y), some (.ref z), some (.ref u), v8, v9, none] ∧ Same H5 H')
      ⟨_, _, rfl, Same.refl _⟩ (fun i σ H' _ ⟨_, _, _, h⟩ => SqL.of (h _ _ hq)) ?_ ?_
    · rintro i v σ H6 hv ⟨v8, v9, rfl, s6⟩
      obtain ⟨il, rfl⟩ := nth_map hv
      have tb := yb (ys.getD i 0) (by rw [List.getD_eq_getElem?_getD, List.getElem?_eq_getElem il]; exact List.getElem_mem il)
      generalize ys.getD i 0 = t at *
      have hL6 := s6 _ _ hL5
      refine ⟨_, rfl, L, _, _, _, rfl, rfl, SqL.of hL6, (show atI [V.ref d0.t, V.ref d1.t, V.ref d2.t] ((0 : Nat) : Int) = some (.ref d0.t) from atI_nat rfl), _, rfl, ?_⟩
      try delta tNil
      refine rw_at (A05.same s6) tb.1 tb.2 ?_
      refine ⟨_, rfl, L, _, _, _, rfl, rfl, SqL.of hL6, (show atI [V.ref d0.t, V.ref d1.t, V.ref d2.t] ((1 : Nat) : Int) = some (.ref d1.t) from atI_nat rfl), _, rfl, ?_⟩
      try delta tNil
      refine rw_at (A15.same s6) tb.1 tb.2 ?_
      refine ⟨_, _, rfl, rfl, ?_⟩
      obtain ⟨dy, ly, py, gy, wy, by1, hy⟩ := (Y5.same s6).ins
      refine ⟨_, rfl, y, dy, _, rfl, hy, cfs_no _ _ _ (by decide +kernel) (by decide +kernel) (by decide +kernel), _, rfl, ?_⟩
      try delta tNil
      refine cv_at (Y5.same s6) (by decide) tb.1 tb.2 ?_
      refine ⟨_, rfl, rfl, _, rfl, iteNeV ?_⟩
      obtain ⟨dz, lz, pz, gz, wz, bz, hz⟩ := (Z5.same s6).ins
      refine ⟨_, rfl, z, dz, _, rfl, hz, cfs_no _ _ _ (by decide +kernel) (by decide +kernel) (by decide +kernel), _, rfl, ?_⟩
      try delta tNil
      refine cv_at (Z5.same s6) (by decide) tb.1 tb.2 ?_
      refine ⟨_, rfl, rfl, _, rfl, iteNeV ?_⟩
      obtain ⟨du, lu, pu, gu, wu, bu, hu⟩ := (U5.same s6).ins
      refine ⟨_, rfl, u, du, _, rfl, hu, cfs_no _ _ _ (by decide +kernel) (by decide +kernel) (by decide +kernel), _, rfl, ?_⟩
      try delta tNil
      refine cv_at (U5.same s6) (by decide) tb.1 tb.2 ?_
      refine ⟨_, rfl, _, rfl, L, _, _, _, rfl, rfl, SqL.of hL6, (show atI [V.ref d0.t, V.ref d1.t, V.ref d2.t] ((2 : Nat) : Int) = some (.ref d2.t) from atI_nat rfl), _, rfl, ?_⟩
      try delta tNil
      refine rw_at (A25.same s6) tb.1 tb.2 ?_
      refine ⟨_, _, rfl, rfl, rfl, _, rfl, iteNeV ?_⟩
      exact ⟨_, _, rfl, s6⟩
    rintro σ H6 ⟨v8, v9, rfl, s6⟩
    have e6 := e5.same s6
    have hL6 := s6 _ _ hL5
    have A06 := A05.same s6
    have A16 := A15.same s6
    have X06 := X05.same s6
    have X16 := X15.same s6
    have X26 := X25.same s6
    have Y6 := Y5.same s6
    have Z6 := Z5.same s6
    have U6 := U5.same s6
    clear U5 Z5 Y5 X25 X15 X05 A25 A15 A05 hL5 e5 hq s6 yb yl
    refine ⟨_, rfl, _, rfl, ?_⟩
    refine cv_eq T Y6 Z6 (fun t _ => rfl) ?_
    refine ⟨_, rfl, iteF ?_⟩
    refine ⟨_, rfl, _, rfl, _, rfl, _, rfl, ?_⟩
    refine cv_add X16 X26 e6.rng (N := 36) (by decide) (by decide) (by decide) fun H7 v s7 hv V => ?_
    refine cv_add (X06.same s7) V (e6.same s7).rng (N := 48) (by decide) (by decide) (by decide) fun H8 vv s8 hvv VV => ?_
    have s68 := s7.trans s8
    refine cv_eq T (U6.same s68) VV (fun t _ => Int.add_assoc _ _ _) ?_
    refine ⟨_, rfl, iteF ?_⟩
    obtain ⟨dy, ly, py, gy, wy, by1, hy⟩ := (Y6.same s68).ins
    refine ⟨_, rfl, _, _, _, _, _, rfl, .own _, T.ic_Curve.typ T.cl hy, VN.kit_self, _, rfl, iteF ?_⟩
    clear V VV U6 Z6 X26 hv hvv hy s7 s8
    have e8 := e6.same s68
    have hL8 := s68 _ _ hL6
    have A08 := A06.same s68
    have A18 := A16.same s68
    have X08 := X06.same s68
    have X18 := X16.same s68
    have Y8 := Y6.same s68
    clear Y6 X16 X06 A16 A06 hL6 e6 s68
    refine ⟨_, rfl, L, _, _, _, rfl, rfl, SqL.of hL8, (show atI [V.ref d0.t, V.ref d1.t, V.ref d2.t] ((0 : Nat) : Int) = some (.ref d0.t) from atI_nat rfl), _, rfl, L, _, _, _, rfl, rfl, SqL.of hL8, (show atI [V.ref d0.t, V.ref d1.t, V.ref d2.t] ((1 : Nat) : Int) = some (.ref d1.t) from atI_nat rfl), ?_⟩
    refine ⟨d0.t, d0.l, d1.t, d1.l, d0.xs, d1.xs, d0.p, d0.g, d1.p, d1.g, rfl, A08.row, A18.row, A08.ok, A18.ok, fun H9 t l ws G s9 ht hl RH SR => ?_⟩
    refine ⟨fun σ' H' => σ' = [some (.ref r), some (.ref L), some (.ref x0), some (.ref x1), some (.ref x2), some (.ref y), some (.ref z), some (.ref u), v8, v9, some (.ref t)] ∧ Same H8 H', ?_, ?_⟩
    · refine ⟨_, rfl, t, l, ws, 12, G, rfl, RH, by have := SR.n1; omega, fun H10 b s10 hb => ⟨_, rfl, ite2 (fun c => ?_) (fun c => ?_)⟩⟩
      · obtain ⟨w1, w2, w3⟩ := hb.mp c
        have Dn : RwAt H10 r ⟨t, l, ws, 12, G⟩ := ⟨RH.same s10, e8.rng.ne ht, e8.rng.ne hl, SR.ok w1 w2 w3⟩
        have e10 := (e8.same s9).same s10
        refine ⟨_, rfl, ?_⟩
        try delta tNil
        refine rw_curve Dn e10.rng fun H11 x s11 hx X => ?_
        have s811 := (s9.trans s10).trans s11
        refine ⟨_, rfl, ?_⟩
        refine cv_eq T X (Y8.same s811) (fun t ht => SR.eq t ht) ?_
        exact ⟨_, rfl, iteF ⟨rfl, s811⟩⟩
      · exact ⟨rfl, s9.trans s10⟩
    rintro σ H9 ⟨rfl, s9⟩
    obtain ⟨cs0, p0, g0, dx0, fs0, hx0, C0, O0, sz0, hp0, hg0⟩ := (X08.same s9).rep (by decide) (rw_small A08.ok)
    refine ⟨_, rfl, x0, dx0, fs0, rfl, hx0, x0, cs0, p0, g0, rfl, C0, sz0, hp0, hg0, _, rfl, ?_⟩
    refine ⟨_, rfl, L, _, _, _, rfl, rfl, SqL.of (s9 _ _ hL8), (show atI [V.ref d0.t, V.ref d1.t, V.ref d2.t] ((0 : Nat) : Int) = some (.ref d0.t) from atI_nat rfl), ?_⟩
    try delta tNil
    refine rw_curve (A08.same s9) (e8.same s9).rng fun H10 x0' s10 _ X0' => ?_
    obtain ⟨cs0', p0', g0', dx0', fs0', hx0', C0', O0', sz0', hp0', hg0'⟩ := X0'.rep (by decide) (rw_small A08.ok)
    obtain ⟨rfl, rfl, rfl⟩ := O0.uniq O0' fun _ _ => rfl
    refine ⟨x0', dx0', fs0', rfl, hx0', x0', cs0, p0, g0, rfl, C0', sz0, hp0, hg0, _, rfl, rfl, ?_⟩
    refine ⟨_, rfl, iteEqV ?_⟩
    have s90 := s9.trans s10
    obtain ⟨cs1, p1, g1, dx1, fs1, hx1, C1, O1, sz1, hp1, hg1⟩ := (X18.same s90).rep (by decide) (rw_small A18.ok)
    refine ⟨_, rfl, x1, dx1, fs1, rfl, hx1, x1, cs1, p1, g1, rfl, C1, sz1, hp1, hg1, _, rfl, ?_⟩
    refine ⟨_, rfl, L, _, _, _, rfl, rfl, SqL.of (s90 _ _ hL8), (show atI [V.ref d0.t, V.ref d1.t, V.ref d2.t] ((1 : Nat) : Int) = some (.ref d1.t) from atI_nat rfl), ?_⟩
    try delta tNil
    refine rw_curve (A18.same s90) (e8.same s90).rng fun H11 x1' s11 _ X1' => ?_
    obtain ⟨cs1', p1', g1', dx1', fs1', hx1', C1', O1', sz1', hp1', hg1'⟩ := X1'.rep (by decide) (rw_small A18.ok)
    obtain ⟨rfl, rfl, rfl⟩ := O1.uniq O1' fun _ _ => rfl
    refine ⟨x1', dx1', fs1', rfl, hx1', x1', cs1, p1, g1, rfl, C1', sz1, hp1, hg1, _, rfl, rfl, ?_⟩
    rw [decide_eq_true rfl]
    exact k _ (e8.same (s90.trans s11))
end
end VK


namespace VK
open PySem PySem.Spec PyProof.Rows L2 VM
/-- what stays where only r and S change -/
def Mv (r S : Addr) (H H' : Hp) : Prop := ∀ b o, b ≠ r → b ≠ S → H b = some o → H' b = some o
theorem Mv.same {r S : Addr} {H H' : Hp} (s : Same H H') : Mv r S H H' := fun b o _ _ e => s b o e
theorem Mv.ext {r S : Addr} {H H' : Hp} (e : Ext r H H') : Mv r S H H' := fun b o n _ h => e.keep b o n h
theorem Mv.put {r S : Addr} {H : Hp} {o : HO} : Mv r S H (upd H S o) := fun b u _ n h => by rw [upd_ne n]; exact h
theorem Mv.trans {r S : Addr} {H H1 H2 : Hp} (a : Mv r S H H1) (b : Mv r S H1 H2) : Mv r S H H2 := fun c o n m e => b c o n m (a c o n m e)
theorem CvR.two {A : Ad} {H H' : Hp} {r S x : Addr} {F : Int → Int} {N : Nat} (h : CvR A H r x F N) (h2 : CvR A H S x F N) (m : Mv r S H H') : CvR A H' r x F N ∧ CvR A H' S x F N := by
  obtain ⟨cs, p, g, dx, l, w, b, a1, a2, a3, a4, a5⟩ := h
  obtain ⟨cs2, p2, g2, dx2, l2, w2, b2, c1, c2, c3, c4, c5⟩ := h2
  have e := Option.some.inj (a1.symm.trans c1)
  have el : l = l2 := by
    unfold cfs at e
    injection e with e1 e2 e3
    injection e3 with e4 e5
    injection e4 with e6 e7
    injection e7
  subst el
  exact ⟨⟨cs, p, g, dx, l, w, b, m _ _ a4 c4 a1, m _ _ a5 c5 a2, a3, a4, a5⟩, ⟨cs, p, g, dx, l, w, b, m _ _ a4 c4 a1, m _ _ a5 c5 a2, a3, c4, c5⟩⟩
theorem RwAt.two {H H' : Hp} {r S : Addr} {d : RwD} (h : RwAt H r d) (h2 : RwAt H S d) (m : Mv r S H H') : RwAt H' r d ∧ RwAt H' S d :=
  ⟨⟨⟨m _ _ h.nt h2.nt h.row.1, m _ _ h.nl h2.nl h.row.2⟩, h.nt, h.nl, h.ok⟩, ⟨⟨m _ _ h.nt h2.nt h.row.1, m _ _ h.nl h2.nl h.row.2⟩, h2.nt, h2.nl, h.ok⟩⟩
theorem CvR.weak {A : Ad} {H : Hp} {r x : Addr} {F : Int → Int} {N M : Nat} (h : CvR A H r x F N) (n : N ≤ M) : CvR A H r x F M := by
  obtain ⟨cs, p, g, dx, l, w, b, h1, h2, h3, h4, h5⟩ := h
  exact ⟨cs, p, g, dx, l, w, b, h1, h2, ⟨h3.p0, h3.pd, h3.pn, Nat.le_trans h3.n n, h3.eq, h3.c1, h3.c2⟩, h4, h5⟩
/-- a row, by how much its curve is later, the curve -/
def En (A : Ad) (H : Hp) (r S : Addr) (v : V) : Prop := ∃ (a : Addr) (d : RwD) (n : Nat) (x : Addr), v = .ref a ∧ a ≠ r ∧ a ≠ S ∧ H a = some (.tup [.ref d.t, .int n, .ref x]) ∧ n ≤ 100 ∧ RwAt H r d ∧ RwAt H S d ∧ CvR A H r x (laterF d.F n) 124 ∧ CvR A H S x (laterF d.F n) 124
theorem En.mv {A : Ad} {H H' : Hp} {r S : Addr} {v : V} (h : En A H r S v) (m : Mv r S H H') : En A H' r S v := by
  obtain ⟨a, d, n, x, rfl, h1, h2, h3, h4, h5, h6, h7, h8⟩ := h
  obtain ⟨i1, i2⟩ := h5.two h6 m
  obtain ⟨i3, i4⟩ := h7.two h8 m
  exact ⟨a, d, n, x, rfl, h1, h2, m _ _ h1 h2 h3, h4, i1, i2, i3, i4⟩
/-- a row that may be too long or too great -/
structure WrR (H : Hp) (r : Addr) (d : RwD) : Prop where
  row : RowH H d.t d.l d.xs d.p d.g
  nt : d.t ≠ r
  nl : d.l ≠ r
  len : d.xs.length ≤ 100
  ok : d.xs.length ≤ 24 → (∀ v ∈ d.xs, v ≤ 2000) → d.g ≤ 2000 → OkRow d.xs d.p d.g
theorem RwAt.wr {H : Hp} {r : Addr} {d : RwD} (h : RwAt H r d) : WrR H r d := ⟨h.row, h.nt, h.nl, by have := h.ok.l2; omega, fun _ _ _ => h.ok⟩
theorem WrR.same {H H' : Hp} {r : Addr} {d : RwD} (h : WrR H r d) (s : Same H H') : WrR H' r d := ⟨h.row.same s, h.nt, h.nl, h.len, h.ok⟩
theorem later0 {F : Int → Int} (F0 : F 0 = 0) : ∀ t : Int, 0 ≤ t → F t = laterF F ((0 : Nat) : Int) t := fun t ht => by
  unfold laterF
  by_cases c : t ≤ ((0 : Nat) : Int)
  · have : t = 0 := by omega
    rw [if_pos c, this, F0]
  · rw [if_neg c, show t - ((0 : Nat) : Int) = t by omega]
theorem cut_mem {xs : List V} {a b : Option Int} {v : V} (h : v ∈ cutV xs a b) : v ∈ xs := by
  unfold cutV at h
  exact List.mem_of_mem_drop (List.mem_of_mem_take h)
theorem refs_nth {ds : List RwD} {i : Nat} {v : V} (h : (ds.map fun d => V.ref d.t)[i]? = some v) : ∃ d, d ∈ ds ∧ ds[i]? = some d ∧ v = .ref d.t := by
  rw [List.getElem?_map] at h
  cases e : ds[i]? with
  | none => rw [e] at h; cases h
  | some d => rw [e] at h; cases h; exact ⟨d, List.mem_of_getElem? e, rfl, rfl⟩
def sp_l_most_right (_ : PySem.W.Frag) (_ : Ad) : Sp := fun vs H Q _ => ∃ (r L : Addr) (d0 d1 d2 : RwD), vs = [.ref r, .ref L] ∧ Rng H r ∧ L ≠ r ∧ H L = some (.lst [.ref d0.t, .ref d1.t, .ref d2.t]) ∧ RwAt H r d0 ∧ RwAt H r d1 ∧ RwAt H r d2 ∧ Lo d0.xs d0.p d0.g ∧
  ∀ H', Ext r H H' → Q (.bl true) H'
section
variable {P : Program} {w : World} {K : PySem.W.Frag} {mg : Str → Option Value} {base : Heap} {A : Ad}
theorem cv_later2 {H : Hp} {r x : Addr} {F : Int → Int} {N n : Nat} {Q : VK} {E : XK} (h : CvR A H r x F N) (hn : n ≤ 100) (hN : N ≤ 400)
    (k : ∀ H' z, Same H H' → H z = none → (∀ a, H a ≠ none → CvR A H' a z (laterF F n) (N + 100)) → Q (.ref z) H') : sp_C_later K A [.ref x, .int n] H Q E := by
  obtain ⟨cs, p, g, C, O⟩ := h.crv
  have := O.n
  exact ⟨x, cs, p, g, n, rfl, C, O.p0, O.pn, by omega, hn, fun H' y dx l' s hy hl h1 h2 => k H' y s hy fun a ha => ⟨_, _, _, dx, l', false, .non, h1, h2, O.later hn, fun z => ha (z ▸ hy), fun z => ha (z ▸ hl)⟩⟩
theorem ok_l_most_right (T : Txt K mg A) : VG.FnG P w K mg base CX0 9 A.f_l_most_right A.d_l_most_right ["_law_rng_here", "_law_rows"] (sp_l_most_right K A) := by
  have G_C_at_most := ok_C_at_most (P := P) (w := w) (base := base) T
  have G_C_later := ok_C_later (P := P) (w := w) (base := base) T
  have G_l_choice := ok_l_choice (P := P) (w := w) (base := base) T
  have G_l_curve := ok_l_curve (P := P) (w := w) (base := base) T
  have G_l_draw := ok_l_draw (P := P) (w := w) (base := base) T
  have G_l_is_at_most := ok_l_is_at_most (P := P) (w := w) (base := base) T
  have G_l_is_written := ok_l_is_written (P := P) (w := w) (base := base) T
  have G_l_near := ok_l_near (P := P) (w := w) (base := base) T
  have G_l_sum_row := ok_l_sum_row (P := P) (w := w) (base := base) T
  refine VG.okG0 T.F_l_most_right sc_l_most_right (fun vs H Q E h => ?_) (fun cdv A0 outer s H vs Q E hA hr h => ?_)
  · obtain ⟨r, L, d0, d1, d2, rfl, hr0, nL, hL, D0, D1, D2, lo, k⟩ := h
    rfl
  · obtain ⟨r, L, d0, d1, d2, rfl, hr0, nL, hL, D0, D1, D2, lo, k⟩ := h
    refine ⟨_, (pss_cons (ps_set (i := 1) sc_l_most_right.nd rfl (by first | exact Or.inl rfl | exact Or.inr rfl) (pe_op op_cat (pv 1) (pe_lst (pa_cons (pe_call G_l_near (hr.mono (by decide)) rfl T.m_l_near T.k_l_near T.b_l_near .nil pass0 (pa_cons (pv 0) (pa_cons (pe_ix (r := rIxL K) ix_list (pv 1) pe_int (fun _ _ => rfl)) pa_nil))) (pa_cons (pe_call G_l_sum_row (hr.mono (by decide)) rfl T.m_l_sum_row T.k_l_sum_row T.b_l_sum_row .nil pass0 (pa_cons (pe_ix (r := rIxL K) ix_list (pv 1) pe_int (fun _ _ => rfl)) (pa_cons (pe_ix (r := rIxL K) ix_list (pv 1) pe_int (fun _ _ => rfl)) pa_nil))) pa_nil)))))
    (pss_cons (ps_setLc (i := 1) (own := [("_law_row", 3)]) (g := gName 3) rfl sc_l_most_right.nd rfl rfl (sw_true rfl rfl rfl (by decide +kernel)) (pi_list (pv 1)) (blkOk_by (own := [("_law_row", 3)]) (N := ["_law_rng_here", "_law_rows", "_law_some", "_law_row", "_law_ticks", "_law_one", "_law_due", "_law_more", "_law_other"]) (sc := defScope s_l_most_right) (by decide +kernel)) (fun _ _ _ _ _ => pg_name (i := 3) sc_l_most_right.nd rfl (by first | exact Or.inl rfl | exact Or.inr rfl)) (fun _ _ _ _ _ => (pts_one (pt_val (pe_call G_l_is_written (hr.mono (by decide)) rfl T.m_l_is_written T.k_l_is_written T.b_l_is_written .nil pass0 (pa_cons (pv 3) pa_nil))))) (fun _ _ _ _ _ => (pv 3)))
    (pss_cons (ps_setLc (i := 2) (own := [("_law_row", 3)]) (g := gName 3) (tt := tYes) rfl sc_l_most_right.nd rfl rfl (sw_true rfl rfl rfl (by decide +kernel)) (pi_list (pv 1)) (blkOk_by (own := [("_law_row", 3)]) (N := ["_law_rng_here", "_law_rows", "_law_some", "_law_row", "_law_ticks", "_law_one", "_law_due", "_law_more", "_law_other"]) (sc := defScope s_l_most_right) (by decide +kernel)) (fun _ _ _ _ _ => pg_name (i := 3) sc_l_most_right.nd rfl (by first | exact Or.inl rfl | exact Or.inr rfl)) (fun _ _ _ _ _ => pts_nil) (fun _ _ _ _ _ => (pe_tup (pa_cons (pv 3) (pa_cons pe_int (pa_cons (pe_call G_l_curve (hr.mono (by decide)) rfl T.m_l_curve T.k_l_curve T.b_l_curve .nil pass0 (pa_cons (pv 3) pa_nil)) pa_nil))))))
    (pss_cons (ps_for PassesOwn.never rfl (pi_list (pe_slice (r := rSlL K) sl_list (pv 1) po_none (po_some pe_int))) (pg_name (i := 3) sc_l_most_right.nd rfl (by first | exact Or.inl rfl | exact Or.inr rfl))
      (pss_cons (ps_set (i := 4) sc_l_most_right.nd rfl (by first | exact Or.inl rfl | exact Or.inr rfl) (pe_call G_l_choice (hr.mono (by decide)) rfl T.m_l_choice T.k_l_choice T.b_l_choice .nil pass0 (pa_cons (pv 0) (pa_cons (pe_lst (pa_cons pe_int (pa_cons pe_int (pa_cons (pe_call G_l_draw (hr.mono (by decide)) rfl T.m_l_draw T.k_l_draw T.b_l_draw .nil pass0 (pa_cons (pv 0) (pa_cons pe_int pa_nil))) (pa_cons (pe_call G_l_draw (hr.mono (by decide)) rfl T.m_l_draw T.k_l_draw T.b_l_draw .nil pass0 (pa_cons (pv 0) (pa_cons pe_int pa_nil))) pa_nil))))) pa_nil))))
    (pss_one (ps_expr (pe_bm PySem.F.plainAttrs_list PySem.F.slot_list_append PySem.F.type_list_append mt_append (pv 2) (pa_cons (pe_tup (pa_cons (pv 3) (pa_cons (pv 4) (pa_cons (pe_meth (pe_call G_l_curve (hr.mono (by decide)) rfl T.m_l_curve T.k_l_curve T.b_l_curve .nil pass0 (pa_cons (pv 3) pa_nil)) T.cl T.me_later G_C_later (hr.mono (by decide)) T.b_C_later .nil pass0 (pa_cons (pv 4) pa_nil)) pa_nil)))) pa_nil))))))
    (pss_cons (ps_for PassesOwn.never rfl (pi_list (pv 2)) (pg_tup rfl (pgs_cons (pg_name (i := 3) sc_l_most_right.nd rfl (by first | exact Or.inl rfl | exact Or.inr rfl)) (pgs_cons (pg_name (i := 4) sc_l_most_right.nd rfl (by first | exact Or.inl rfl | exact Or.inr rfl)) (pgs_cons (pg_name (i := 5) sc_l_most_right.nd rfl (by first | exact Or.inl rfl | exact Or.inr rfl)) pgs_nil))))
      (pss_one (ps_for PassesOwn.never rfl (pi_list (pv 2)) (pg_tup rfl (pgs_cons (pg_name (i := 6) sc_l_most_right.nd rfl (by first | exact Or.inl rfl | exact Or.inr rfl)) (pgs_cons (pg_name (i := 7) sc_l_most_right.nd rfl (by first | exact Or.inl rfl | exact Or.inr rfl)) (pgs_cons (pg_name (i := 8) sc_l_most_right.nd rfl (by first | exact Or.inl rfl | exact Or.inr rfl)) pgs_nil))))
      (pss_one (ps_if (pt_cmpR op_ne (pe_callB (r := VG.rRepr K) (VG.call_repr hA hr.units) (by rfl) T.repr (by decide +kernel) (pa_cons (pe_meth (pv 5) T.cl T.me_at_most G_C_at_most (hr.mono (by decide)) T.b_C_at_most .nil pass0 (pa_cons (pv 8) pa_nil)) pa_nil)) (pe_callB (r := VG.rRepr K) (VG.call_repr hA hr.units) (by rfl) T.repr (by decide +kernel) (pa_cons (pe_call G_l_is_at_most (hr.mono (by decide)) rfl T.m_l_is_at_most T.k_l_is_at_most T.b_l_is_at_most .nil pass0 (pa_cons (pv 3) (pa_cons (pv 4) (pa_cons (pv 6) (pa_cons (pv 7) pa_nil))))) pa_nil)) (nomark _)) (pss_one (ps_ret pe_bl)) pss_nil)))))
    (pss_one (ps_ret pe_bl))))))), ?_⟩
    have at0 : atI [V.ref d0.t, V.ref d1.t, V.ref d2.t] ((0 : Nat) : Int) = some (.ref d0.t) := atI_nat rfl
    have at1 : atI [V.ref d0.t, V.ref d1.t, V.ref d2.t] ((1 : Nat) : Int) = some (.ref d1.t) := atI_nat rfl
    refine ⟨_, rfl, _, rfl, _, rfl, L, _, _, _, rfl, rfl, SqL.of hL, at0, ?_⟩
    refine ⟨r, d0.t, d0.l, d0.xs, d0.p, d0.g, rfl, hr0, D0.nt, D0.nl, D0.row, lo, fun H1 t l ys e e1 RH ok nt nl _ => ?_⟩
    have Dn : RwAt H1 r ⟨t, l, ys, d0.p, e⟩ := ⟨RH, nt, nl, ok⟩
    have hL1 := e1.keep _ _ nL hL
    have D01 := D0.ext e1
    have D11 := D1.ext e1
    refine ⟨_, rfl, L, _, _, _, rfl, rfl, SqL.of hL1, at0, _, rfl, L, _, _, _, rfl, rfl, SqL.of hL1, at1, ?_⟩
    refine ⟨d0.t, d0.l, d1.t, d1.l, d0.xs, d1.xs, d0.p, d0.g, d1.p, d1.g, rfl, D01.row, D11.row, D01.ok, D11.ok, fun H2 t2 l2 zs G s2 ht2 hl2 RH2 SR => ?_⟩
    have e2 := e1.same s2
    have W0 := (D01.same s2).wr
    have W1 := (D11.same s2).wr
    have W2 := ((D2.ext e1).same s2).wr
    have Wn := (Dn.same s2).wr
    have Ws : WrR H2 r ⟨t2, l2, zs, 12, G⟩ := ⟨RH2, e1.rng.ne ht2, e1.rng.ne hl2, by have := SR.n1; show zs.length ≤ 100; omega, SR.ok⟩
    have hL2 := s2 _ _ hL1
    clear RH RH2 SR Dn D01 D11 D0 D1 D2 hL hL1 s2 ht2 hl2 ok nt nl lo
    refine ⟨(by show 2 ≤ sizeLine; decide), fun q hq => ?_⟩
    have s3 := Same.upd (o := .lst [.ref t, .ref t2]) (Same.refl H2) hq
    refine ⟨L, q, _, _, rfl, rfl, s3 _ _ hL2, upd_same, (by show 5 ≤ sizeLine; decide), fun q2 hq2 => ?_⟩
    have s4 := s3.trans (Same.upd (o := .lst (([.ref d0.t, .ref d1.t, .ref d2.t] : List V) ++ [.ref t, .ref t2])) (Same.refl _) hq2)
    have hq4 : upd (upd H2 q (.lst [.ref t, .ref t2])) q2 (.lst (([.ref d0.t, .ref d1.t, .ref d2.t] : List V) ++ [.ref t, .ref t2])) q2 = some (.lst (([d0, d1, d2, ⟨t, l, ys, d0.p, e⟩, ⟨t2, l2, zs, 12, G⟩] : List RwD).map fun d => V.ref d.t)) := upd_same
    generalize upd (upd H2 q (.lst [.ref t, .ref t2])) q2 (.lst (([.ref d0.t, .ref d1.t, .ref d2.t] : List V) ++ [.ref t, .ref t2])) = H4 at *
    have W : ∀ d ∈ ([d0, d1, d2, ⟨t, l, ys, d0.p, e⟩, ⟨t2, l2, zs, 12, G⟩] : List RwD), WrR H4 r d := fun d hd => by
      simp only [List.mem_cons, List.not_mem_nil, or_false] at hd
      rcases hd with rfl | rfl | rfl | rfl | rfl
      · exact W0.same s4
      · exact W1.same s4
      · exact W2.same s4
      · exact Wn.same s4
      · exact Ws.same s4
    have e4 := e2.same s4
    obtain ⟨cs, hcs, cl⟩ : ∃ cs : List RwD, cs = [d0, d1, d2, ⟨t, l, ys, d0.p, e⟩, ⟨t2, l2, zs, 12, G⟩] ∧ cs.length = 5 := ⟨_, rfl, rfl⟩
    rw [← hcs] at W hq4
    clear W0 W1 W2 Wn Ws hcs s4 s3 hq hq2 hL2 e2
    refine ⟨_, rfl, q2, rfl, ⟨_, SqL.of hq4⟩, fun D hD => ?_⟩
    refine lc_list (K := K) (a := q2) (xs := cs.map fun d => V.ref d.t) (fun j H' => Same H4 H' ∧ ∃ ds : List RwD, ds.length ≤ j ∧ H' D = some (.lst (ds.map fun d => V.ref d.t)) ∧ ∀ d ∈ ds, RwAt H4 r d)
      ⟨Same.upd (Same.refl _) hD, [], Nat.le_refl _, upd_same, fun d h => (nomatch h)⟩ (fun j H' _ ⟨s, _⟩ => SqL.of (s _ _ hq4)) ?_ ?_
    · rintro j v H5 hv ⟨s5, ds, dl, hD5, dok⟩
      obtain ⟨d, hdm, hdi, rfl⟩ := refs_nth hv
      have jl : j < 5 := by have := (List.getElem?_eq_some_iff.mp hdi).1; omega
      have Wd := W d hdm
      refine ⟨rfl, _, rfl, d.t, d.l, d.xs, d.p, d.g, rfl, Wd.row.same s5, Wd.len, fun H6 b s6 hb => ⟨_, rfl, ite2 (fun c => ?_) (fun c => ?_)⟩⟩
      · obtain ⟨w1, w2, w3⟩ := hb.mp c
        refine ⟨_, rfl, _, s6 _ _ hD5, small (by rw [List.length_map]; omega), Same.upd (s5.trans s6) hD, ds ++ [d], by rw [List.length_append]; show ds.length + 1 ≤ j + 1; omega, by rw [upd_same, List.map_append]; rfl, fun d' hd' => ?_⟩
        rcases List.mem_append.mp hd' with h | h
        · exact dok d' h
        · rw [List.mem_singleton.mp h]
          exact ⟨Wd.row, Wd.nt, Wd.nl, Wd.ok w1 w2 w3⟩
      · exact ⟨s5.trans s6, ds, by omega, s6 _ _ hD5, dok⟩
    rintro H5 ⟨s5, ds, dl, hD5, dok⟩
    rw [List.length_map, cl] at dl
    have e5 := e4.same s5
    have dok5 : ∀ d ∈ ds, RwAt H5 r d := fun d hd => (dok d hd).same s5
    clear dok W hq4 e4 s5 hD cl
    have rn : ∀ {H' : Hp}, Rng H' r → H' r ≠ none := fun {H'} h => by
      obtain ⟨_, _, z, _⟩ := h
      rw [z]
      exact fun w => nomatch w
    refine ⟨_, rfl, D, rfl, ⟨_, SqL.of hD5⟩, fun S hS => ?_⟩
    have nS := e5.rng.ne hS
    have SH : H S = none := e5.free hS
    refine lc_list (K := K) (a := D) (xs := ds.map fun d => V.ref d.t) (fun j H' => Same H5 H' ∧ ∃ es : List V, es.length = j ∧ H' S = some (.lst es) ∧ ∀ v ∈ es, En A H' r S v)
      ⟨Same.upd (Same.refl _) hS, [], rfl, upd_same, fun d h => (nomatch h)⟩ (fun j H' _ ⟨s, _⟩ => SqL.of (s _ _ hD5)) ?_ ?_
    · rintro j v H6 hv ⟨s6, es, el, hS6, en⟩
      obtain ⟨d, hdm, hdi, rfl⟩ := refs_nth hv
      have jl : j < ds.length := (List.getElem?_eq_some_iff.mp hdi).1
      have Dd := dok5 d hdm
      have DS : RwAt H5 S d := ⟨Dd.row, ne_of_none Dd.row.1 hS, ne_of_none Dd.row.2 hS, Dd.ok⟩
      refine ⟨rfl, _, rfl, _, rfl, ?_⟩
      try delta tNil
      refine rw_curve2 (Dd.same s6) fun H7 x s7 hx C => ?_
      have C1 := (C r (rn (e5.same s6).rng)).fn (later0 (F := d.F) cvAt_zero)
      have C2 := (C S (by rw [hS6]; exact fun z => nomatch z)).fn (later0 (F := d.F) cvAt_zero)
      have s67 := s6.trans s7
      refine ⟨(by show 3 ≤ sizeLine; decide), fun a ha => ?_⟩
      have s8 := Same.upd (o := .tup [.ref d.t, .int 0, .ref x]) (Same.refl H7) ha
      have hS8 := s8 _ _ (s7 _ _ hS6)
      have na : a ≠ r := (e5.same s67).rng.ne ha
      have naS : a ≠ S := fun z => by rw [z, s7 _ _ hS6] at ha; cases ha
      have E8 : En A (upd H7 a (.tup [.ref d.t, .int 0, .ref x])) r S (.ref a) := ⟨a, d, 0, x, rfl, na, naS, upd_same, by decide, (Dd.same s67).same s8, (DS.same s67).same s8, (C1.same s8).weak (by decide), (C2.same s8).weak (by decide)⟩
      have s678 := s67.trans s8
      generalize upd H7 a (.tup [.ref d.t, .int 0, .ref x]) = H8 at *
      refine ⟨_, hS8, small (by omega), Same.upd s678 hS, es ++ [.ref a], by rw [List.length_append, el]; rfl, upd_same, fun v hv => ?_⟩
      rcases List.mem_append.mp hv with h | h
      · exact (en v h).mv ((Mv.same (s7.trans s8)).trans Mv.put)
      · rw [List.mem_singleton.mp h]
        exact E8.mv Mv.put
    rintro H6 ⟨s6, es, el, hS6, en⟩
    rw [List.length_map] at el
    have e6 := e5.same s6
    have hD6 := s6 _ _ hD5
    have dok6 : ∀ d ∈ ds, RwAt H6 r d ∧ RwAt H6 S d := fun d hd => by
      have Dd := dok5 d hd
      have DS : RwAt H5 S d := ⟨Dd.row, ne_of_none Dd.row.1 hS, ne_of_none Dd.row.2 hS, Dd.ok⟩
      exact ⟨Dd.same s6, DS.same s6⟩
    have nDS : D ≠ S := ne_of_none hD5 hS
    clear dok5 s6 hD5 e5
    refine ⟨_, rfl, _, rfl, D, _, rfl, SqL.of hD6, fun p hp => ?_⟩
    have np : p ≠ r := e6.rng.ne hp
    have npS : p ≠ S := fun z => by rw [z, hS6] at hp; cases hp
    have s7 := Same.upd (o := .lst (cutV (ds.map fun d => V.ref d.t) none (some 2))) (Same.refl H6) hp
    have hp7 : upd H6 p (.lst (cutV (ds.map fun d => V.ref d.t) none (some 2))) p = some (.lst (cutV (ds.map fun d => V.ref d.t) none (some 2))) := upd_same
    have e7 := e6.same s7
    have hS7 := s7 _ _ hS6
    have en7 : ∀ v ∈ es, En A (upd H6 p (.lst (cutV (ds.map fun d => V.ref d.t) none (some 2)))) r S v := fun v hv => (en v hv).mv (.same s7)
    have dok7 : ∀ d ∈ ds, RwAt (upd H6 p (.lst (cutV (ds.map fun d => V.ref d.t) none (some 2)))) r d ∧ RwAt (upd H6 p (.lst (cutV (ds.map fun d => V.ref d.t) none (some 2)))) S d := fun d hd => ⟨(dok6 d hd).1.same s7, (dok6 d hd).2.same s7⟩
    have pm : ∀ v ∈ cutV (ds.map fun d => V.ref d.t) none (some 2), ∃ d, d ∈ ds ∧ v = .ref d.t := fun v hv => by
      obtain ⟨d, h, e⟩ := List.mem_map.mp (cut_mem hv)
      exact ⟨d, h, e.symm⟩
    have pl : (cutV (ds.map fun d => V.ref d.t) none (some 2)).length ≤ 5 := Nat.le_trans (cutV_length _ _ _) (by rw [List.length_map]; exact dl)
    generalize upd H6 p (.lst (cutV (ds.map fun d => V.ref d.t) none (some 2))) = H7 at *
    generalize cutV (ds.map fun d => V.ref d.t) none (some 2) = pv at *
    clear dok6 en hS6 hD6 e6 s7 hp
    refine ⟨p, rfl, ⟨_, SqL.of hp7⟩, ?_⟩
    refine for_list (K := K) (a := p) (xs := pv) (fun i σ H' => ∃ (v3 v4 : Option V) (es : List V), σ = [some (.ref r), some (.ref D), some (.ref S), v3, v4, none, none, none, none] ∧ Mv r S H7 H' ∧ Rng H' r ∧ H' S = some (.lst es) ∧ es.length ≤ 5 + i ∧ ∀ v ∈ es, En A H' r S v)
      ⟨_, _, es, rfl, fun b o _ _ h => h, e7.rng, hS7, by omega, en7⟩ (fun i σ H' _ ⟨_, _, _, _, m, _⟩ => SqL.of (m _ _ np npS hp7)) ?_ ?_
    · rintro i v σ H8 hv ⟨v3, v4, es, rfl, m8, hr8, hS8, el, en⟩
      obtain ⟨d, hdm, rfl⟩ := pm v (List.mem_of_getElem? hv)
      have il : i < 5 := by have := (List.getElem?_eq_some_iff.mp hv).1; omega
      obtain ⟨Dd, DS⟩ := (dok7 d hdm).1.two (dok7 d hdm).2 m8
      refine ⟨_, rfl, _, rfl, r, _, rfl, hr8, by decide, by decide, fun H9 a e9 a0 a1 => ?_⟩
      refine ⟨_, rfl, r, _, rfl, e9.rng, by decide, by decide, fun H10 b e10 b0 b1 => ?_⟩
      refine ⟨(by show 4 ≤ sizeLine; decide), fun ly hly => ?_⟩
      have s11 := Same.upd (o := .lst [.int 1, .int 2, .int a, .int b]) (Same.refl H10) hly
      have hly1 : upd H10 ly (.lst [.int 1, .int 2, .int a, .int b]) ly = some (.lst [.int 1, .int 2, .int a, .int b]) := upd_same
      have e11 := ((e9.trans e10).same s11)
      generalize upd H10 ly (.lst [.int 1, .int 2, .int a, .int b]) = H11 at *
      refine ⟨r, ly, _, rfl, e11.rng, SqL.of hly1, e10.rng.ne hly, (by show 0 < 4; decide), (by show 4 < 1000000; decide), fun H12 w e12 hw => ?_⟩
      have e812 := e11.trans e12
      obtain ⟨n, rfl, hn⟩ : ∃ n : Nat, w = .int n ∧ n ≤ 100 := by
        simp only [List.mem_cons, List.not_mem_nil, or_false] at hw
        rcases hw with rfl | rfl | rfl | rfl
        · exact ⟨1, rfl, by decide⟩
        · exact ⟨2, rfl, by decide⟩
        · exact ⟨a.toNat, by rw [Int.toNat_of_nonneg a0], by omega⟩
        · exact ⟨b.toNat, by rw [Int.toNat_of_nonneg b0], by omega⟩
      have hS12 := e812.keep _ _ nS hS8
      obtain ⟨Dd12, DS12⟩ := Dd.two DS (Mv.ext e812)
      clear hw e11 e10 e9 hly hly1 s11 e12
      refine ⟨_, rfl, .inl ⟨rfl, _, SqL.of hS12⟩, _, rfl, _, rfl, _, rfl, ?_⟩
      try delta tNil
      refine rw_curve2 Dd12 fun H13 x s13 hx C => ?_
      have C1 := C r (rn e812.rng)
      have C2 := C S (by rw [hS12]; exact fun z => nomatch z)
      obtain ⟨dx, lx, px, gx, wx, bx, hxx⟩ := C1.ins
      refine ⟨x, dx, _, rfl, hxx, cfs_no _ _ _ (by decide +kernel) (by decide +kernel) (by decide +kernel), _, rfl, ?_⟩
      try delta tNil
      refine cv_later2 C1 hn (by decide) fun H14 z s14 hz Z => ?_
      have s124 := s13.trans s14
      have hS14 := s124 _ _ hS12
      refine ⟨(by show 3 ≤ sizeLine; decide), fun c hc => ?_⟩
      have s15 := Same.upd (o := .tup [.ref d.t, .int n, .ref z]) (Same.refl H14) hc
      have s125 := s124.trans s15
      have nc : c ≠ r := (e812.same s124).rng.ne hc
      have ncS : c ≠ S := fun z => by rw [z, hS14] at hc; cases hc
      have Z1 := Z r (rn (e812.same s13).rng)
      have Z2 := Z S (by rw [s13 _ _ hS12]; exact fun z => nomatch z)
      have E15 : En A (upd H14 c (.tup [.ref d.t, .int n, .ref z])) r S (.ref c) := ⟨c, d, n, z, rfl, nc, ncS, upd_same, hn, Dd12.same s125, DS12.same s125, Z1.same s15, Z2.same s15⟩
      have hS15 := s15 _ _ hS14
      generalize upd H14 c (.tup [.ref d.t, .int n, .ref z]) = H15 at *
      have e815 := e812.same s125
      refine ⟨S, es, _, rfl, rfl, hS15, small (by omega), ?_⟩
      have m : Mv r S H8 (upd H15 S (.lst (es ++ [.ref c]))) := (Mv.ext e815).trans Mv.put
      refine ⟨_, _, es ++ [.ref c], rfl, m8.trans m, ?_, upd_same, by rw [List.length_append, List.length_singleton]; omega, fun v hv => ?_⟩
      · obtain ⟨y1, y2, y3, y4⟩ := e815.rng
        exact ⟨y1, y2, by rw [upd_ne (Ne.symm nS)]; exact y3, y4⟩
      · rcases List.mem_append.mp hv with h | h
        · exact (en v h).mv m
        · rw [List.mem_singleton.mp h]
          exact E15.mv Mv.put
    rintro σ H8 ⟨v3, v4, es, rfl, m8, hr8, hS8, el, en⟩
    have e8 : Ext r H H8 := ⟨fun b o n h => m8 b o n (ne_of_none h SH) (e7.keep b o n h), hr8⟩
    clear m8 pl pm dok7 en7 hS7 e7 hp7 np npS
    refine ⟨_, rfl, S, rfl, ⟨_, SqL.of hS8⟩, ?_⟩
    refine for_list (K := K) (a := S) (xs := es) (fun i σ H' => ∃ (v3 v4 v5 v6 v7 v8 : Option V), σ = [some (.ref r), some (.ref D), some (.ref S), v3, v4, v5, v6, v7, v8] ∧ Same H8 H')
      ⟨_, _, _, _, _, _, rfl, Same.refl _⟩ (fun i σ H' _ ⟨_, _, _, _, _, _, _, s⟩ => SqL.of (s _ _ hS8)) ?_ ?_
    · rintro i v σ H9 hv ⟨v3, v4, v5, v6, v7, v8, rfl, s9⟩
      obtain ⟨a1, d1', n1, x1, rfl, _, _, t1, b1, R1, _, C1, _⟩ := (en v (List.mem_of_getElem? hv))
      refine ⟨a1, _, rfl, SqT.of (s9 _ _ t1), rfl, _, _, rfl, _, _, rfl, _, _, rfl, rfl, ?_⟩
      refine ⟨_, rfl, S, rfl, ⟨_, SqL.of (s9 _ _ hS8)⟩, ?_⟩
      refine for_list (K := K) (a := S) (xs := es) (fun i σ H' => ∃ (v6 v7 v8 : Option V), σ = [some (.ref r), some (.ref D), some (.ref S), some (.ref d1'.t), some (.int n1), some (.ref x1), v6, v7, v8] ∧ Same H8 H')
        ⟨_, _, _, rfl, s9⟩ (fun i σ H' _ ⟨_, _, _, _, s⟩ => SqL.of (s _ _ hS8)) ?_ ?_
      · rintro i v σ H10 hv ⟨v6, v7, v8, rfl, s10⟩
        obtain ⟨a2, d2', n2, x2, rfl, _, _, t2, b2, R2, _, C2, _⟩ := (en v (List.mem_of_getElem? hv))
        refine ⟨a2, _, rfl, SqT.of (s10 _ _ t2), rfl, _, _, rfl, _, _, rfl, _, _, rfl, rfl, ?_⟩
        obtain ⟨dx, lx, px, gx, wx, bx, hxx⟩ := (C1.same s10).ins
        refine ⟨_, rfl, x1, dx, _, rfl, hxx, cfs_no _ _ _ (by decide +kernel) (by decide +kernel) (by decide +kernel), _, rfl, ?_⟩
        try delta tNil
        refine cv_most (C1.same s10) (C2.same s10) (by decide) (by decide) fun H11 b s11 hb => ?_
        have sb := VR.Sz.bool b
        refine ⟨.bl b, .bool b, rfl, .bl _, sb.sh, Nat.le_trans sb.dp (by decide), Nat.le_trans sb.ln (by rw [sizeLine_eq]; decide), ?_⟩
        have s811 := s10.trans s11
        obtain ⟨p1, pd1, pn1, xl1⟩ := R1.b
        obtain ⟨p2, pd2, pn2, xl2⟩ := R2.b
        refine ⟨_, rfl, _, rfl, _, rfl, _, rfl, ?_⟩
        refine ⟨d1'.t, d1'.l, d2'.t, d2'.l, d1'.xs, d2'.xs, d1'.p, d1'.g, d2'.p, d2'.g, n1, n2, rfl, (R1.same s811).row, (R2.same s811).row, p1, pd1, pn1, by omega, p2, pd2, pn2, by omega, b1, b2, fun c hc => ?_⟩
        obtain rfl : b = c := by
          rw [Bool.eq_iff_iff]
          exact hb.trans hc.symm
        refine ⟨.bl b, .bool b, rfl, .bl _, sb.sh, Nat.le_trans sb.dp (by decide), Nat.le_trans sb.ln (by rw [sizeLine_eq]; decide), rfl, _, rfl, iteNeV ?_⟩
        exact ⟨_, _, _, rfl, s811⟩
      · rintro σ H10 ⟨v6, v7, v8, rfl, s10⟩
        exact ⟨_, _, _, _, _, _, rfl, s10⟩
    rintro σ H9 ⟨v3, v4, v5, v6, v7, v8, rfl, s9⟩
    exact k _ (e8.same s9)
end
end VK


namespace VK
open PySem PySem.Spec PyProof.Rows L2 VM
theorem refs3 {a b c : Addr} {ws : List Value} (r : Vals [.ref a, .ref b, .ref c] ws) : ws = [.ref a, .ref b, .ref c] := by
  cases r with
  | cons r1 r => cases r with
    | cons r2 r => cases r with
      | cons r3 r => cases r; cases r1; cases r2; cases r3; rfl
/-- what is no count, and how it is shown -/
structure Odd (K : PySem.W.Frag) (H : Hp) (v : V) (d : PyData) (n : String) : Prop where
  kd : ∀ H', Same H H' → Kd K H' v n
  no : cntTo 100 v = false
  dz : ∀ H', Same H H' → VZ.Dz K H' v d
  sh : d.showable = true
  dp : d.depth ≤ 60
  ln : d.shown.length ≤ 1000
  so : PyData.strOk d.shown = true
theorem Odd.same {K : PySem.W.Frag} {H H' : Hp} {v : V} {d : PyData} {n : String} (h : Odd K H v d n) (s : Same H H') : Odd K H' v d n := ⟨fun G t => h.kd G (s.trans t), h.no, fun G t => h.dz G (s.trans t), h.sh, h.dp, h.ln, h.so⟩
def foundD (s : Str) : PyData := .list [.bool true, .bool false, .str s]
theorem foundD_sh (s : Str) (hs : PyData.strOk s = true) : SeqAt.shaped (foundD s) = true := by
  refine Bool.and_eq_true_iff.mpr ⟨?_, decide_eq_true ?_⟩
  · simp [foundD, PyData.canLay0, PyData.canLayAll0, hs]
  · simp [foundD, PyData.depth, PyData.depthAll]
theorem foundD_eq (s : Str) : PyData.eqv (foundD s) (foundD s) = true := by
  simp [foundD, PyData.eqv, PyData.eqvAll]
theorem odd_base {K : PySem.W.Frag} {H : Hp} {v : V} {d : PyData} {n : String} (ty : ∀ G, Same H G → TyOf K G v (.type n)) (hn : n ∈ kinds) (no : cntTo 100 v = false) (dz : ∀ G, Same H G → VZ.Dz K G v d) (sh : d.showable = true) (dp : d.depth ≤ 60) (ln : d.shown.length ≤ 1000) (so : PyData.strOk d.shown = true) : Odd K H v d n :=
  ⟨fun G s => ⟨.base (ty G s), hn⟩, no, dz, sh, dp, ln, so⟩
theorem odd_m1 {K : PySem.W.Frag} {H : Hp} : Odd K H (.int (-1)) (.int (-1)) "int" := odd_base (fun _ _ => .int _) (by decide) (by decide) (fun _ _ => .inl (.int _)) (by decide +kernel) (by decide) (by decide +kernel) (by decide +kernel)
theorem odd_big0 {K : PySem.W.Frag} {H : Hp} : Odd K H (.int (-(10 ^ 17))) (.int (-(10 ^ 17))) "int" := odd_base (fun _ _ => .int _) (by decide) (by decide) (fun _ _ => .inl (.int _)) (by decide +kernel) (by decide) (by decide +kernel) (by decide +kernel)
theorem odd_bl {K : PySem.W.Frag} {H : Hp} (b : Bool) : Odd K H (.bl b) (.bool b) "bool" := odd_base (fun _ _ => .bl _) (by decide) rfl (fun _ _ => .inl (.bl _)) rfl (by cases b <;> decide) (by cases b <;> decide +kernel) (by cases b <;> decide +kernel)
theorem odd_non {K : PySem.W.Frag} {H : Hp} : Odd K H .non .none "NoneType" := odd_base (fun _ _ => .non) (by decide) rfl (fun _ _ => .inl .non) rfl (by decide) (by decide +kernel) (by decide +kernel)
theorem odd_str {K : PySem.W.Frag} {H : Hp} : Odd K H (.str "1") (.str "1") "str" := odd_base (fun _ _ => .str _) (by decide) rfl (fun _ _ => .inl (.str _)) (by decide +kernel) (by decide) (by decide +kernel) (by decide +kernel)
theorem odd_nil {K : PySem.W.Frag} {H : Hp} {a : Addr} (h : H a = some (.lst [])) : Odd K H (.ref a) (.list []) "list" := odd_base (fun _ s => .lst (s _ _ h)) (by decide) rfl (fun _ s => .inl (.lst (SqL.of (s _ _ h)) .nil)) rfl (by decide) (by decide +kernel) (by decide +kernel)
theorem odd_two {K : PySem.W.Frag} {H : Hp} {a : Addr} (h : H a = some (.lst [.int 2])) : Odd K H (.ref a) (.list [.int 2]) "list" := odd_base (fun _ s => .lst (s _ _ h)) (by decide) rfl (fun _ s => .inl (.lst (SqL.of (s _ _ h)) (.cons (.int 2) .nil))) (by decide +kernel) (by decide) (by decide +kernel) (by decide +kernel)
theorem odd_tup {K : PySem.W.Frag} {H : Hp} {a : Addr} (h : H a = some (.tup [.int 1])) : Odd K H (.ref a) (.tuple [.int 1]) "tuple" := odd_base (fun _ s => .tup (s _ _ h)) (by decide) rfl (fun _ s => .inl (.tup (SqT.of (s _ _ h)) (.cons (.int 1) .nil))) (by decide +kernel) (by decide) (by decide +kernel) (by decide +kernel)
theorem odd_dict {K : PySem.W.Frag} {H : Hp} {a : Addr} (h : H a = some (.dK [])) : Odd K H (.ref a) (.dict []) "dict" := odd_base (fun _ s => .dK (s _ _ h)) (by decide) rfl (fun _ s => .inr ⟨a, rfl, s _ _ h, rfl⟩) (by decide +kernel) (by decide) (by decide +kernel) (by decide +kernel)
theorem odd_101 {K : PySem.W.Frag} {H : Hp} : Odd K H (.int 101) (.int 101) "int" := odd_base (fun _ _ => .int _) (by decide) (by decide) (fun _ _ => .inl (.int _)) (by decide +kernel) (by decide) (by decide +kernel) (by decide +kernel)
theorem odd_big {K : PySem.W.Frag} {H : Hp} : Odd K H (.int (10 ^ 17)) (.int (10 ^ 17)) "int" := odd_base (fun _ _ => .int _) (by decide) (by decide) (fun _ _ => .inl (.int _)) (by decide +kernel) (by decide) (by decide +kernel) (by decide +kernel)
def spR_C_later (K : PySem.W.Frag) (A : Ad) : Sp := fun vs H _ E => ∃ (x : Addr) (v : V) (n : String), vs = [.ref x, v] ∧ Kd K H v n ∧ cntTo 100 v = false ∧ ∀ H' d, Same H H' → H' d = some (.xd [("value", v)]) → E (.ref A.InvalidCount) (some d) H'
def sp_l_later_refused (_ : PySem.W.Frag) (_ : Ad) : Sp := fun vs H Q _ => ∃ (r : Addr) (d : RwD), vs = [.ref r, .ref d.t] ∧ Rng H r ∧ RwAt H r d ∧ ∀ H', Ext r H H' → Q (.bl true) H'
section
variable {P : Program} {w : World} {K : PySem.W.Frag} {mg : Str → Option Value} {base : Heap} {A : Ad}
theorem okR_C_later (T : Txt K mg A) : FnOk P w K mg base (L2.CX P w) 5 A.f_C_later A.d_C_later ["self", "ticks"] (spR_C_later K A) := by
  have G_require_count_to := okR_require_count_to (P := P) (w := w) (base := base) T
  refine T.F_C_later.okX sc_C_later (fun vs H Q E h => ?_) (fun cdv A0 outer s H vs Q E hr h => ?_)
  · obtain ⟨x, v, n, rfl, hk, hc, k⟩ := h
    rfl
  · obtain ⟨x, v, n, rfl, hk, hc, k⟩ := h
    refine ⟨_, (VX.pss_stop (ps_expr (pe_call G_require_count_to (hr.mono (by decide)) rfl T.m_require_count_to T.k_require_count_to T.b_require_count_to .nil (passes_call (takes_of rfl rfl rfl rfl) (fun _ _ _ _ h => h)) (pa_cons (pv 1) (pa_cons (pe_glob (v := .int 100) rfl T.v_MAX_LATER ⟨_, rfl⟩) pa_nil))))), ?_⟩
    exact ⟨_, rfl, v, n, 100, rfl, hk, hc, k⟩
theorem ok_l_later_refused (T : Txt K mg A) : VG.FnG P w K mg base CX0 9 A.f_l_later_refused A.d_l_later_refused ["_law_rng_here", "_law_row"] (sp_l_later_refused K A) := by
  have G_C_later := okR_C_later (P := P) (w := w) (base := base) T
  have G_l_choice := ok_l_choice (P := P) (w := w) (base := base) T
  have G_l_curve := ok_l_curve (P := P) (w := w) (base := base) T
  refine VG.okG0 T.F_l_later_refused sc_l_later_refused (fun vs H Q E h => ?_) (fun cdv A0 outer s H vs Q E hA hr h => ?_)
  · obtain ⟨r, d, rfl, hr0, D, k⟩ := h
    rfl
  · obtain ⟨r, d, rfl, hr0, D, k⟩ := h
    refine ⟨_, (pss_cons (ps_set (i := 2) sc_l_later_refused.nd rfl (by first | exact Or.inl rfl | exact Or.inr rfl) (pe_call G_l_choice (hr.mono (by decide)) rfl T.m_l_choice T.k_l_choice T.b_l_choice .nil pass0 (pa_cons (pv 0) (pa_cons (pe_lst (pa_cons (pe_un un_neg pe_int) (pa_cons pe_int (pa_cons (pe_op op_pow pe_int pe_int) (pa_cons pe_bl (pa_cons pe_bl (pa_cons pe_non (pa_cons pe_str (pa_cons (pe_lst pa_nil) (pa_cons (pe_tup (pa_cons pe_int pa_nil)) (pa_cons pe_dnewK (pa_cons (pe_lst (pa_cons pe_int pa_nil)) pa_nil)))))))))))) pa_nil))))
    (pss_cons (ps_set (i := 3) sc_l_later_refused.nd rfl (by first | exact Or.inl rfl | exact Or.inr rfl) (pe_lst pa_nil))
    (pss_cons (ps_try_as (i := 4) rfl rfl sc_l_later_refused.nd rfl rfl ⟨rfl, by decide, .inl T.m_DueError⟩ takes0 (fun W pn xe tk _ => (pss_one (ps_expr (VX.pe_methS (pe_call G_l_curve (hr.mono (by decide)) rfl T.m_l_curve T.k_l_curve T.b_l_curve .nil pass0 (pa_cons (pv 1) pa_nil)) T.cl T.me_later G_C_later (hr.mono (by decide)) T.b_C_later (fun σ => passAt tk σ) (pa_cons (pv 2) pa_nil))))) (fun a oe cls d pn hz hf => (pss_cons (ps_set (i := 5) sc_l_later_refused.nd rfl (by first | exact Or.inl rfl | exact Or.inr rfl) (pe_callB (r := VX.rAsk K _ _ _ _) (VX.call_ask T.as_InvalidCount hz hf) (by rfl) T.isinstance (by decide +kernel) (pa_cons (pv 4) (pa_cons (pe_tup (pa_cons (pe_glob (v := .ref A.InvalidCurve) rfl T.m_InvalidCurve rfl) (pa_cons (pe_glob (v := .ref A.InvalidLength) rfl T.m_InvalidLength rfl) (pa_cons (pe_glob (v := .ref A.InvalidPiece) rfl T.m_InvalidPiece rfl) pa_nil)))) pa_nil))))
    (pss_one (ps_set (i := 3) sc_l_later_refused.nd rfl (by first | exact Or.inl rfl | exact Or.inr rfl) (pe_lst (pa_cons (pe_callB (r := VX.rAsk K _ _ _ _) (VX.call_ask T.as_InvalidCount hz hf) (by rfl) T.isinstance (by decide +kernel) (pa_cons (pv 4) (pa_cons (pe_glob (v := .ref A.InvalidCount) rfl T.m_InvalidCount rfl) pa_nil))) (pa_cons (pv 5) (pa_cons (pe_callB (r := VZ.rReprZ K) (VZ.call_reprZ hA hr.units) (by rfl) T.repr (by decide +kernel) (pa_cons (pe_xf T.xf_InvalidCount T.n_InvalidCount_value hz hf (pv 4)) pa_nil)) pa_nil)))))))))
    (pss_one (ps_ret (pe_cmpR (op_eqD hr.units) (pv 3) (pe_lst (pa_cons pe_bl (pa_cons pe_bl (pa_cons (pe_callB (r := VZ.rReprZ K) (VZ.call_reprZ hA hr.units) (by rfl) T.repr (by decide +kernel) (pa_cons (pv 2) pa_nil)) pa_nil)))) (nomark _))))))), ?_⟩
    refine ⟨_, rfl, _, rfl, _, _, rfl, rfl, ⟨by decide, by decide, by decide⟩, ?_⟩
    refine ⟨(by show 0 ≤ sizeLine; decide), fun a1 h1 => ?_⟩
    have w1 : upd H a1 (.lst []) a1 = some (.lst []) := upd_same
    have s1 := Same.upd (o := .lst []) (Same.refl H) h1
    generalize upd H a1 (.lst []) = H1 at *
    refine ⟨(by show 1 ≤ sizeLine; decide), fun a2 h2 => ?_⟩
    have s2 := Same.upd (o := .tup [.int 1]) (Same.refl H1) h2
    have w2 : upd H1 a2 (.tup [.int 1]) a2 = some (.tup [.int 1]) := upd_same
    replace w1 := s2 _ _ w1
    generalize upd H1 a2 (.tup [.int 1]) = H2 at *
    refine fun a3 h3 => ?_
    have s3 := Same.upd (o := .dK []) (Same.refl H2) h3
    have w3 : upd H2 a3 (.dK []) a3 = some (.dK []) := upd_same
    replace w1 := s3 _ _ w1
    replace w2 := s3 _ _ w2
    generalize upd H2 a3 (.dK []) = H3 at *
    refine ⟨(by show 1 ≤ sizeLine; decide), fun a4 h4 => ?_⟩
    have s4 := Same.upd (o := .lst [.int 2]) (Same.refl H3) h4
    have w4 : upd H3 a4 (.lst [.int 2]) a4 = some (.lst [.int 2]) := upd_same
    replace w1 := s4 _ _ w1
    replace w2 := s4 _ _ w2
    replace w3 := s4 _ _ w3
    generalize upd H3 a4 (.lst [.int 2]) = H4 at *
    refine ⟨(by show 11 ≤ sizeLine; decide), fun q hq => ?_⟩
    have s5 := Same.upd (o := .lst [.int (-1), .int 101, .int (10 ^ Int.toNat 17), .bl true, .bl false, .non, .str ("1" : Str), .ref a1, .ref a2, .ref a3, .ref a4]) (Same.refl H4) hq
    have w5 : upd H4 q (.lst [.int (-1), .int 101, .int (10 ^ Int.toNat 17), .bl true, .bl false, .non, .str ("1" : Str), .ref a1, .ref a2, .ref a3, .ref a4]) q = some (.lst [.int (-1), .int 101, .int (10 ^ Int.toNat 17), .bl true, .bl false, .non, .str ("1" : Str), .ref a1, .ref a2, .ref a3, .ref a4]) := upd_same
    replace w1 := s5 _ _ w1
    replace w2 := s5 _ _ w2
    replace w3 := s5 _ _ w3
    replace w4 := s5 _ _ w4
    generalize upd H4 q (.lst [.int (-1), .int 101, .int (10 ^ Int.toNat 17), .bl true, .bl false, .non, .str ("1" : Str), .ref a1, .ref a2, .ref a3, .ref a4]) = H5 at *
    have s05 := (((s1.trans s2).trans s3).trans s4).trans s5
    have f4 := ((s1.trans s2).trans s3).free h4
    have f3 := (s1.trans s2).free h3
    have f2 := s1.free h2
    have fq := (((s1.trans s2).trans s3).trans s4).free hq
    refine ⟨r, q, _, rfl, hr0.same s05, SqL.of w5, hr0.ne fq, (by show 0 < 11; decide), (by show 11 < 1000000; decide), fun H6 v e6 hv => ?_⟩
    have e06 := (Ext.of hr0 s05).trans e6
    replace w1 := e6.keep _ _ (hr0.ne h1) w1
    replace w2 := e6.keep _ _ (hr0.ne f2) w2
    replace w3 := e6.keep _ _ (hr0.ne f3) w3
    replace w4 := e6.keep _ _ (hr0.ne f4) w4
    obtain ⟨dd, n, O⟩ : ∃ dd n, Odd K H6 v dd n := by
      simp only [List.mem_cons, List.not_mem_nil, or_false] at hv
      rcases hv with rfl | rfl | rfl | rfl | rfl | rfl | rfl | rfl | rfl | rfl | rfl
      · exact ⟨_, _, odd_m1⟩
      · exact ⟨_, _, odd_101⟩
      · exact ⟨_, _, odd_big⟩
      · exact ⟨_, _, odd_bl true⟩
      · exact ⟨_, _, odd_bl false⟩
      · exact ⟨_, _, odd_non⟩
      · exact ⟨_, _, odd_str⟩
      · exact ⟨_, _, odd_nil w1⟩
      · exact ⟨_, _, odd_tup w2⟩
      · exact ⟨_, _, odd_dict w3⟩
      · exact ⟨_, _, odd_two w4⟩
    have D6 := D.ext e06
    clear hv w1 w2 w3 w4 w5 s5 s4 s3 s2 s1 s05 e6 D
    have ln : dd.shown.length ≤ sizeLine := Nat.le_trans O.ln (by rw [sizeLine_eq]; decide)
    refine ⟨(by show 0 ≤ sizeLine; decide), fun q0 hq0 => ?_⟩
    have s7 := Same.upd (o := .lst []) (Same.refl H6) hq0
    generalize upd H6 q0 (.lst []) = H7 at *
    refine ⟨_, rfl, ?_⟩
    try delta tNil
    refine rw_curve (D6.same s7) (e06.same s7).rng fun H8 x s8 hx X => ?_
    have s78 := s7.trans s8
    obtain ⟨dx, lx, px, gx, wx, bx, hxx⟩ := X.ins
    refine ⟨x, dx, _, rfl, hxx, cfs_no _ _ _ (by decide +kernel) (by decide +kernel) (by decide +kernel), _, rfl, x, v, n, rfl, O.kd _ s78, O.no, fun H9 e s9 he => ?_⟩
    have s69 := s78.trans s9
    refine ⟨true, T.ex_InvalidCount_DueError, fun _ ea hea => ?_, fun z => nomatch z⟩
    refine ⟨_, rfl, (by show 3 ≤ sizeLine; decide), fun t ht => ?_⟩
    have he3 : upd H9 t (.tup [.ref A.InvalidCurve, .ref A.InvalidLength, .ref A.InvalidPiece]) e = some (.xd [("value", v)]) := by rw [upd_ne (ne_of_none he ht)]; exact he
    have s10 := s69.trans (Same.upd (o := .tup [.ref A.InvalidCurve, .ref A.InvalidLength, .ref A.InvalidPiece]) (Same.refl H9) ht)
    refine ⟨rfl, e, _, .ref t, false, rfl, he3, rfl, .inr ⟨t, _, _, rfl, upd_same, fun ws r => refs3 r, T.kt_InvalidCount_InvalidCurve_InvalidLength_InvalidPiece⟩, ?_⟩
    generalize upd H9 t (.tup [.ref A.InvalidCurve, .ref A.InvalidLength, .ref A.InvalidPiece]) = H10 at *
    refine ⟨_, rfl, rfl, e, _, .ref A.InvalidCount, true, rfl, he3, rfl, .inl ⟨.ref A.InvalidCount, fun u r => r, T.kt_InvalidCount_InvalidCount⟩, ?_⟩
    refine ⟨_, rfl, _, rfl, rfl, rfl, e, _, _, rfl, he3, rfl, v, dd, rfl, O.dz _ s10, O.sh, O.dp, ln, (by show 3 ≤ sizeLine; decide), fun q1 hq1 => ?_⟩
    have s11 := Same.upd (o := .lst [.bl true, .bl false, .str dd.shown]) s10 (s10.free hq1)
    refine ⟨_, rfl, _, rfl, v, dd, rfl, O.dz _ s11, O.sh, O.dp, ln, (by show 3 ≤ sizeLine; decide), fun q2 hq2 => ?_⟩
    have hq3 : upd H10 q1 (.lst [.bl true, .bl false, .str dd.shown]) q1 = some (.lst [.bl true, .bl false, .str dd.shown]) := upd_same
    have s12 := Same.upd (o := .lst [.bl true, .bl false, .str dd.shown]) s11 (s11.free hq2)
    refine ⟨foundD dd.shown, foundD dd.shown, .lst (SqL.of (show upd _ q2 _ q1 = some (.lst [.bl true, .bl false, .str dd.shown]) by rw [upd_ne (ne_of_none hq3 hq2)]; exact hq3)) (.cons (.bl true) (.cons (.bl false) (.cons (.str _) .nil))), .lst (SqL.of upd_same) (.cons (.bl true) (.cons (.bl false) (.cons (.str _) .nil))), foundD_sh _ O.so, foundD_sh _ O.so, ?_⟩
    rw [foundD_eq]
    exact k _ (e06.same s12)
end
end VK


namespace VK
open PySem PySem.Spec PyProof.Rows L2 VM
/-- a curve's own repr, under the guard of a list S -/
def spL_C_repr (A : Ad) (S : Addr) : Sp := fun vs H Q _ => ∃ (x : Addr) (u : Int) (us : List Int) (p g : Int) (dx l : Addr) (w : Bool) (b : V), vs = [.ref x] ∧ H x = some (.ins A.Curve dx (cfs l p g w b)) ∧ l ≠ S ∧ H l = some (.lst ((u :: us).map V.int)) ∧
  VR.Sz 1 1000000 (.list ((u :: us).map PyData.int)) ∧ p.natAbs < 10 ^ 100 ∧ g.natAbs < 10 ^ 100 ∧ Q (.str (crvS (u :: us) p g)) H
section
variable {P : Program} {w : World} {K : PySem.W.Frag} {mg : Str → Option Value} {base : Heap} {A : Ad}
theorem okL_C_repr (T : Txt K mg A) : VL.FnC P w K mg base CX0 1 A.f_C_repr A.d_C_repr ["self"] (spL_C_repr A) := by
  refine VL.okC0 T.F_C_repr sc_C_repr (fun S vs H Q E h => ?_) (fun S cdv A0 outer s H vs Q E hA hr h => ?_)
  · obtain ⟨x, u, us, p, g, dx, l, w, b, rfl, hx, nl, hl, sz, lp, lg, q⟩ := h
    rfl
  · obtain ⟨x, u, us, p, g, dx, l, w, b, rfl, hx, nl, hl, sz, lp, lg, q⟩ := h
    refine ⟨_, (pss_one (ps_ret (pe_joined (.cons pe_str (.cons (VL.pe_fmtC hA hr.units (pe_fld (pv 0) rfl)) (.cons pe_str (.cons (VN.pe_fmtN (pe_fld (pv 0) rfl)) (.cons pe_str (.cons (VN.pe_fmtN (pe_fld (pv 0) rfl)) (.cons pe_str .nil)))))))))), ?_⟩
    have e1 := int_len lp
    have e2 := int_len lg
    have e3 := sz.ln
    have k1 := lit_len "Curve(" (n := 6)
    have k2 := lit_len ", period=" (n := 9)
    have k3 := lit_len ", gain=" (n := 7)
    have k5 := lit_len ")" (n := 1)
    have k0 : Str.empty.length = 0 := rfl
    refine ⟨_, rfl, (by rw [sizeLine_eq]; simp only [Str.length_append]; omega), ?_⟩
    refine ⟨_, rfl, x, _, dx, _, _, rfl, hx, T.cl, T.n_values, cfs_v _ _ _ _ _, l, u, us, rfl, nl, hl, sz.sh, Nat.le_trans e3 (by rw [sizeLine_eq]; decide), _, rfl, (by rw [sizeLine_eq]; simp only [Str.length_append]; omega), ?_⟩
    refine ⟨_, rfl, (by rw [sizeLine_eq]; simp only [Str.length_append]; omega), ?_⟩
    refine ⟨_, rfl, x, _, dx, _, _, rfl, hx, T.cl, T.n_period, cfs_p _ _ _ _ _, .inr (.inl ⟨_, rfl, VR.log_small lp, _, rfl, (by rw [sizeLine_eq]; simp only [Str.length_append]; omega), ?_⟩)⟩
    refine ⟨_, rfl, (by rw [sizeLine_eq]; simp only [Str.length_append]; omega), ?_⟩
    refine ⟨_, rfl, x, _, dx, _, _, rfl, hx, T.cl, T.n_gain, cfs_g _ _ _ _ _, .inr (.inl ⟨_, rfl, VR.log_small lg, _, rfl, (by rw [sizeLine_eq]; simp only [Str.length_append]; omega), ?_⟩)⟩
    exact ⟨_, rfl, (by rw [sizeLine_eq]; simp only [Str.length_append]; omega), q⟩
end
end VK


namespace VK
open PySem PySem.Spec PyProof.Rows L2 VM
theorem list2_len (a b : Str) : (PySem.listText [a, b]).length ≤ a.length + b.length + 10 := by
  have k1 := lit_len "[" (n := 1)
  have k2 := lit_len "]" (n := 1)
  have k3 := lit_len ", " (n := 2)
  show (((("[" : Str) ++ ((if (0 : Nat) > 0 then ", " else "" : String) : Str) ++ a) ++ ((if (1 : Nat) > 0 then ", " else "" : String) : Str) ++ b) ++ ("]" : Str)).length ≤ _
  have k4 : (((if (0 : Nat) > 0 then ", " else "" : String) : Str)).length = 0 := rfl
  have k5 : (((if (1 : Nat) > 0 then ", " else "" : String) : Str)).length = 2 := rfl
  simp only [Str.length_append]
  omega
/-- what is shown of a curve in a list -/
theorem CvR.shows {A : Ad} {H : Hp} {r x : Addr} {F : Int → Int} {N : Nat} (h : CvR A H r x F N) (hN : N ≤ 400) (bd : ∀ t : Int, 0 ≤ t → t ≤ 500 → 0 ≤ F t ∧ F t ≤ 10 ^ 9) :
    ∃ cs p g, CFo cs p g F N ∧ (crvS cs p g).length ≤ 2000000 ∧ ∀ (L : Addr) (H0 : Hp) (E : XK), (∀ b o, H b = some o → H0 b = some o) → H L = none → VL.Shows A.Curve (spL_C_repr A) E L H0 x (crvS cs p g) := by
  obtain ⟨cs, p, g, dx, l, w, bb, h1, h2, h3, h4, h5⟩ := h
  obtain ⟨s1, s2, s3⟩ := h3.small fun t t0 t1 => bd t t0 (by omega)
  have sz : VR.Sz 1 1000000 (.list (cs.map PyData.int)) := (VR.Sz.ints (n := 1000) s1 (by have := h3.n; omega)).mono (by decide) (by decide)
  refine ⟨cs, p, g, h3, ?_, fun L H0 E k hL => ⟨dx, _, k _ _ h1, fun H' k' => ?_⟩⟩
  · have l1 := int_len s2
    have l2 := int_len s3
    have l3 := sz.ln
    have k1 := lit_len "Curve(" (n := 6)
    have k2 := lit_len ", period=" (n := 9)
    have k3 := lit_len ", gain=" (n := 7)
    have k5 := lit_len ")" (n := 1)
    have k0 : Str.empty.length = 0 := rfl
    unfold crvS
    simp only [Str.length_append]
    omega
  · have p0 := h3.p0
    have pn := h3.pn
    cases cs with
    | nil => simp at pn; omega
    | cons u us => exact ⟨x, u, us, p, g, dx, l, w, bb, rfl, k' _ _ (k _ _ h1), (fun z => by rw [z, hL] at h2; cases h2), k' _ _ (k _ _ h2), sz, s2, s3, _, rfl, rfl, rfl⟩
theorem later_later {F : Int → Int} {n m : Nat} (t : Int) : laterF (laterF F n) m t = laterF F ((n + m : Nat) : Int) t := by
  unfold laterF
  by_cases c : t ≤ m
  · rw [if_pos c, if_pos (by omega)]
  · rw [if_neg c]
    by_cases c2 : t - m ≤ n
    · rw [if_pos c2, if_pos (by omega)]
    · rw [if_neg c2, if_neg (by omega)]
      congr 1
      omega
theorem later_bd {F : Int → Int} {n : Nat} (bd : ∀ t : Int, 0 ≤ t → t ≤ 500 → 0 ≤ F t ∧ F t ≤ 10 ^ 9) : ∀ t : Int, 0 ≤ t → t ≤ 500 → 0 ≤ laterF F n t ∧ laterF F n t ≤ 10 ^ 9 := fun t t0 t1 => by
  unfold laterF
  by_cases c : t ≤ n
  · rw [if_pos c]; decide
  · rw [if_neg c]; exact bd _ (by omega) (by omega)
def sp_l_later_right (_ : PySem.W.Frag) (_ : Ad) : Sp := fun vs H Q _ => ∃ (r : Addr) (d : RwD), vs = [.ref r, .ref d.t] ∧ Rng H r ∧ RwAt H r d ∧ ∀ H', Ext r H H' → Q (.bl true) H'
section
variable {P : Program} {w : World} {K : PySem.W.Frag} {mg : Str → Option Value} {base : Heap} {A : Ad}
theorem ok_l_later_right (T : Txt K mg A) : VG.FnG P w K mg base CX0 9 A.f_l_later_right A.d_l_later_right ["_law_rng_here", "_law_row"] (sp_l_later_right K A) := by
  have G_C_at := ok_C_at (P := P) (w := w) (base := base) T
  have G_C_eq := ok_C_eq (P := P) (w := w) (base := base) T
  have G_C_first_values := ok_C_first_values (P := P) (w := w) (base := base) T
  have G_C_later := ok_C_later (P := P) (w := w) (base := base) T
  have G_l_at := ok_l_at (P := P) (w := w) (base := base) T
  have G_l_choice := ok_l_choice (P := P) (w := w) (base := base) T
  have G_l_curve := ok_l_curve (P := P) (w := w) (base := base) T
  have G_l_draw := ok_l_draw (P := P) (w := w) (base := base) T
  have G_C_eq := ok_C_eq (P := P) (w := w) (base := base) T
  have GLrepr := okL_C_repr (P := P) (w := w) (base := base) T
  refine VG.okG0 T.F_l_later_right sc_l_later_right (fun vs H Q E h => ?_) (fun cdv A0 outer s H vs Q E hA hr h => ?_)
  · obtain ⟨r, d, rfl, hr0, D, k⟩ := h
    rfl
  · obtain ⟨r, d, rfl, hr0, D, k⟩ := h
    refine ⟨_, (pss_cons (ps_par (i := 2) (j := 3) (by rfl) sc_l_later_right.nd rfl rfl (by decide) rfl rfl (pa_cons (pe_call G_l_curve (hr.mono (by decide)) rfl T.m_l_curve T.k_l_curve T.b_l_curve .nil pass0 (pa_cons (pv 1) pa_nil)) (pa_cons (pe_call G_l_choice (hr.mono (by decide)) rfl T.m_l_choice T.k_l_choice T.b_l_choice .nil pass0 (pa_cons (pv 0) (pa_cons (pe_lst (pa_cons pe_int (pa_cons pe_int (pa_cons (pe_call G_l_draw (hr.mono (by decide)) rfl T.m_l_draw T.k_l_draw T.b_l_draw .nil pass0 (pa_cons (pv 0) (pa_cons pe_int pa_nil))) (pa_cons (pe_call G_l_draw (hr.mono (by decide)) rfl T.m_l_draw T.k_l_draw T.b_l_draw .nil pass0 (pa_cons (pv 0) (pa_cons pe_int pa_nil))) pa_nil))))) pa_nil))) pa_nil)) (by rfl))
    (pss_cons (ps_set (i := 4) sc_l_later_right.nd rfl (by first | exact Or.inl rfl | exact Or.inr rfl) (pe_meth (pv 2) T.cl T.me_later G_C_later (hr.mono (by decide)) T.b_C_later .nil pass0 (pa_cons (pv 3) pa_nil)))
    (pss_cons (ps_for PassesOwn.never rfl (pi_list (pe_op op_cat (pe_listRg rfl (by rfl) T.list (prg_1 (by rfl) T.range (pe_op op_add (pv 3) pe_int))) (pe_lst (pa_cons (pe_op op_add (pe_op op_pow pe_int pe_int) (pv 3)) pa_nil)))) (pg_name (i := 5) sc_l_later_right.nd rfl (by first | exact Or.inl rfl | exact Or.inr rfl))
      (pss_one (ps_if (pt_cmpR op_ne (pe_meth (pv 4) T.cl T.me_at G_C_at (hr.mono (by decide)) T.b_C_at .nil pass0 (pa_cons (pv 5) pa_nil)) (pe_ifExp (pt_cmpR op_le (pv 5) (pv 3) (nomark _)) pe_int (pe_call G_l_at (hr.mono (by decide)) rfl T.m_l_at T.k_l_at T.b_l_at .nil pass0 (pa_cons (pv 1) (pa_cons (pe_op op_sub (pv 5) (pv 3)) pa_nil)))) (nomark _)) (pss_one (ps_ret pe_bl)) pss_nil)))
    (pss_cons (ps_par (i := 6) (j := 7) (by rfl) sc_l_later_right.nd rfl rfl (by decide) rfl rfl (pa_cons (pe_call G_l_draw (hr.mono (by decide)) rfl T.m_l_draw T.k_l_draw T.b_l_draw .nil pass0 (pa_cons (pv 0) (pa_cons (pe_op op_sub pe_int (pv 3)) pa_nil))) (pa_cons (pe_callB (VL.call_reprLO (C := A.Curve) GLrepr hA (hr.mono (by decide)) T.me___repr__ T.b_C_repr pass0) (by rfl) T.repr (by decide +kernel) (pa_cons (pe_lst (pa_cons (pv 4) (pa_cons (pv 2) pa_nil))) pa_nil)) pa_nil)) (by rfl))
    (pss_cons (ps_for PassesOwn.never rfl (pi_tup (pe_tup (pa_cons (pv 4) (pa_cons (pv 2) pa_nil)))) (pg_name (i := 8) sc_l_later_right.nd rfl (by first | exact Or.inl rfl | exact Or.inr rfl))
      (pss_one (ps_expr (pe_bm PySem.F.plainAttrs_list PySem.F.slot_list_append PySem.F.type_list_append mt_append (pe_meth0 (pv 8) T.cl T.me_first_values G_C_first_values (hr.mono (by decide)) T.b_C_first_values .nil pass0) (pa_cons pe_int pa_nil)))))
    (pss_cons (ps_if (pt_cmpR op_ne (pe_callB (VL.call_reprLO (C := A.Curve) GLrepr hA (hr.mono (by decide)) T.me___repr__ T.b_C_repr pass0) (by rfl) T.repr (by decide +kernel) (pa_cons (pe_lst (pa_cons (pv 4) (pa_cons (pv 2) pa_nil))) pa_nil)) (pv 7) (nomark _)) (pss_one (ps_ret pe_bl)) pss_nil)
    (pss_one (ps_ret (pe_and (pe_cmpR (VN.op_eqOwn (C := A.Curve) G_C_eq (hr.mono (by decide)) T.me___eq__ T.ic_Curve T.b_C_eq pass0) (pe_meth (pv 4) T.cl T.me_later G_C_later (hr.mono (by decide)) T.b_C_later .nil pass0 (pa_cons (pv 6) pa_nil)) (pe_meth (pv 2) T.cl T.me_later G_C_later (hr.mono (by decide)) T.b_C_later .nil pass0 (pa_cons (pe_op op_add (pv 3) (pv 6)) pa_nil)) (nomark _)) (pe_one (pe_cmpR (VN.op_eqOwn (C := A.Curve) G_C_eq (hr.mono (by decide)) T.me___eq__ T.ic_Curve T.b_C_eq pass0) (pv 2) (pe_call G_l_curve (hr.mono (by decide)) rfl T.m_l_curve T.k_l_curve T.b_l_curve .nil pass0 (pa_cons (pv 1) pa_nil)) (nomark _)))))))))))), ?_⟩
    refine ⟨_, rfl, ?_⟩
    try delta tNil
    refine rw_curve D hr0 fun H1 x s1 hx X => ?_
    have e1 := Ext.of hr0 s1
    refine ⟨_, rfl, _, rfl, r, _, rfl, e1.rng, by decide, by decide, fun H2 a e2 a0 a1 => ?_⟩
    refine ⟨_, rfl, r, _, rfl, e2.rng, by decide, by decide, fun H3 b e3 b0 b1 => ?_⟩
    refine ⟨(by show 4 ≤ sizeLine; decide), fun ly hly => ?_⟩
    have s4 := Same.upd (o := .lst [.int 0, .int 1, .int a, .int b]) (Same.refl H3) hly
    have hly1 : upd H3 ly (.lst [.int 0, .int 1, .int a, .int b]) ly = some (.lst [.int 0, .int 1, .int a, .int b]) := upd_same
    have e14 := (e2.trans e3).same s4
    generalize upd H3 ly (.lst [.int 0, .int 1, .int a, .int b]) = H4 at *
    refine ⟨r, ly, _, rfl, e14.rng, SqL.of hly1, e3.rng.ne hly, (by show 0 < 4; decide), (by show 4 < 1000000; decide), fun H5 w e5 hw => ?_⟩
    obtain ⟨n, rfl, hn⟩ : ∃ n : Nat, w = .int n ∧ n ≤ 100 := by
      simp only [List.mem_cons, List.not_mem_nil, or_false] at hw
      rcases hw with rfl | rfl | rfl | rfl
      · exact ⟨0, rfl, by decide⟩
      · exact ⟨1, rfl, by decide⟩
      · exact ⟨a.toNat, by rw [Int.toNat_of_nonneg a0], by omega⟩
      · exact ⟨b.toNat, by rw [Int.toNat_of_nonneg b0], by omega⟩
    have e15 := e14.trans e5
    have e05 := e1.trans e15
    have X5 := X.ext e15
    have D5 := D.ext e05
    clear hw hly1 s4 e14 e5 e3 e2 X D hx s1 e1 a0 a1 b0 b1 e15
    refine ⟨_, _, rfl, ?_⟩
    obtain ⟨dx, lx, px, gx, wx, bx, hxx⟩ := X5.ins
    refine ⟨_, rfl, x, dx, _, rfl, hxx, cfs_no _ _ _ (by decide +kernel) (by decide +kernel) (by decide +kernel), _, rfl, ?_⟩
    try delta tNil
    refine cv_later X5 e05.rng hn (by decide) fun H6 y s6 hy Y => ?_
    have e06 := e05.same s6
    have X6 := X5.same s6
    have D6 := D5.same s6
    clear hxx X5 D5 e05 s6 hy
    refine ⟨_, rfl, _, _, rfl, rfl, _, rfl, RgOk.of_le (by decide) (by omega) (by decide) (by omega), fun q0 hq0 => ?_⟩
    have s7 := Same.upd (o := .lst (rgV 0 ((n : Int) + 30))) (Same.refl H6) hq0
    have hq7 : upd H6 q0 (.lst (rgV 0 ((n : Int) + 30))) q0 = some (.lst (rgV 0 ((n : Int) + 30))) := upd_same
    generalize upd H6 q0 (.lst (rgV 0 ((n : Int) + 30))) = H7 at *
    refine ⟨_, _, rfl, rfl, ⟨by decide, by decide, by decide⟩, _, rfl, _, _, rfl, rfl, (by show 1 ≤ sizeLine; decide), fun q1 hq1 => ?_⟩
    have s8 := s7.trans (Same.upd (o := .lst (([10 ^ 6 + (n : Int)] : List Int).map V.int)) (Same.refl H7) hq1)
    have hq8 : upd H7 q1 (.lst (([10 ^ 6 + (n : Int)] : List Int).map V.int)) q0 = some (.lst (rgV 0 ((n : Int) + 30))) := by rw [upd_ne (ne_of_none hq7 hq1)]; exact hq7
    have hq9 : upd H7 q1 (.lst (([10 ^ 6 + (n : Int)] : List Int).map V.int)) q1 = some (.lst (([10 ^ 6 + (n : Int)] : List Int).map V.int)) := upd_same
    show rCat (.ref q0) (.ref q1) (upd H7 q1 (.lst (([10 ^ 6 + (n : Int)] : List Int).map V.int))) _
    generalize upd H7 q1 (.lst (([10 ^ 6 + (n : Int)] : List Int).map V.int)) = H8 at *
    refine ⟨q0, q1, _, _, rfl, rfl, hq8, hq9, ?_, fun q2 hq2 => ?_⟩
    · unfold rgV
      rw [List.length_map, List.length_map, List.length_range]
      exact Nat.le_trans (show _ ≤ 1000 by simp; omega) (by rw [sizeLine_eq]; decide)
    obtain ⟨ss, hss, sl⟩ : ∃ ss : List Int, rgV 0 ((n : Int) + 30) ++ ([10 ^ 6 + (n : Int)] : List Int).map V.int = ss.map V.int ∧ ∀ z ∈ ss, 0 ≤ z ∧ z < 2 ^ 62 := by
      refine ⟨((List.range ((n : Int) + 30 - 0).toNat).map fun i : Nat => (0 : Int) + i) ++ [10 ^ 6 + (n : Int)], ?_, fun z h => ?_⟩
      · unfold rgV; rw [List.map_append, List.map_map]; rfl
      · rcases List.mem_append.mp h with h | h
        · obtain ⟨i, hi, rfl⟩ := List.mem_map.mp h
          have hi := List.mem_range.mp hi
          omega
        · rw [List.mem_singleton.mp h]; omega
    rw [hss]
    have s9 := s8.trans (Same.upd (o := .lst (ss.map V.int)) (Same.refl H8) hq2)
    have hq3 : upd H8 q2 (.lst (ss.map V.int)) q2 = some (.lst (ss.map V.int)) := upd_same
    generalize upd H8 q2 (.lst (ss.map V.int)) = H9 at *
    have e09 := e06.same s9
    have X9 := X6.same s9
    have Y9 := Y.same s9
    have D9 := D6.same s9
    clear hss hq8 hq9 s8 s7 hq7 X6 Y D6 e06 s9 hq0 hq1 hq2
    refine ⟨q2, rfl, ⟨_, SqL.of hq3⟩, ?_⟩
    refine for_list (K := K) (a := q2) (xs := ss.map V.int) (fun i σ H' => ∃ v5 : Option V, σ = [some (.ref r), some (.ref d.t), some (.ref x), some (.int n), some (.ref y), v5, none, none, none] ∧ Same H9 H')
      ⟨_, rfl, Same.refl _⟩ (fun i σ H' _ ⟨_, _, h⟩ => SqL.of (h _ _ hq3)) ?_ ?_
    · rintro i v σ H10 hv ⟨v5, rfl, s10⟩
      obtain ⟨il, rfl⟩ := nth_map hv
      have tb := sl (ss.getD i 0) (by rw [List.getD_eq_getElem?_getD, List.getElem?_eq_getElem il]; exact List.getElem_mem il)
      generalize ss.getD i 0 = t at *
      obtain ⟨dy, ly, py, gy, wy, by1, hyy⟩ := (Y9.same s10).ins
      refine ⟨_, rfl, y, dy, _, rfl, hyy, cfs_no _ _ _ (by decide +kernel) (by decide +kernel) (by decide +kernel), _, rfl, ?_⟩
      try delta tNil
      refine cv_at (Y9.same s10) (by decide) tb.1 tb.2 ?_
      refine ⟨_, rfl, _, rfl, _, _, rfl, rfl, _, rfl, ifD (fun c => ?_) (fun c => ?_)⟩
      · have e : laterF d.F n t = 0 := by unfold laterF; rw [if_pos (by omega)]
        rw [e]
        exact ⟨rfl, _, rfl, iteNeV ⟨_, rfl, s10⟩⟩
      · refine ⟨_, rfl, _, rfl, _, rfl, _, _, rfl, rfl, ?_⟩
        try delta tNil
        refine rw_at (D9.same s10) (by omega) (by omega) ?_
        have e : laterF d.F n t = d.F (t - n) := by unfold laterF; rw [if_neg (by omega)]
        rw [e]
        exact ⟨rfl, _, rfl, iteNeV ⟨_, rfl, s10⟩⟩
    rintro σ H10 ⟨v5, rfl, s10⟩
    have e010 := e09.same s10
    have X10 := X9.same s10
    have Y10 := Y9.same s10
    have D10 := D9.same s10
    clear s10 X9 Y9 D9 e09 hq3 sl
    refine ⟨_, rfl, _, rfl, _, _, rfl, rfl, r, _, rfl, e010.rng, by omega, by omega, fun H11 mi e11 m0 m1 => ?_⟩
    obtain ⟨m, rfl⟩ : ∃ m : Nat, mi = (m : Int) := ⟨mi.toNat, by omega⟩
    have e011 := e010.trans e11
    have X11 := X10.ext e11
    have Y11 := Y10.ext e11
    have D11 := D10.ext e11
    clear e010 e11 X10 Y10 D10
    refine ⟨_, rfl, _, rfl, (by show 2 ≤ sizeLine; decide), fun L hL => ?_⟩
    obtain ⟨cy, py, gy, Oy, ly, Sy⟩ := Y11.shows (by decide) (later_bd (rw_small D11.ok))
    obtain ⟨cx, px, gx, Ox, lx, Sx⟩ := X11.shows (by decide) (rw_small D11.ok)
    obtain ⟨ty, hty⟩ : ∃ ty, ty = crvS cy py gy := ⟨_, rfl⟩
    obtain ⟨tx, htx⟩ : ∃ tx, tx = crvS cx px gx := ⟨_, rfl⟩
    rw [← hty] at ly Sy
    rw [← htx] at lx Sx
    have k12 : ∀ b o, H11 b = some o → upd H11 L (.lst [.ref y, .ref x]) b = some o := fun b o e => by rw [upd_ne (ne_of_none e hL)]; exact e
    have l2 := list2_len ty tx
    have l3 : (PySem.listText [ty, tx]).length ≤ sizeLine := by rw [sizeLine_eq]; omega
    have al : ∀ (E : XK) (i : Nat) (z : Addr) (t : Str), [y, x][i]? = some z → [ty, tx][i]? = some t → VL.Shows A.Curve (spL_C_repr A) E L (upd H11 L (.lst [.ref y, .ref x])) z t := fun E i z t hz ht => by
      rcases i with _ | _ | i
      · cases hz; cases ht; exact Sy L _ E k12 hL
      · cases hz; cases ht; exact Sx L _ E k12 hL
      · cases hz
    have hLL : upd H11 L (.lst [.ref y, .ref x]) L = some (.lst ([y, x].map V.ref)) := upd_same
    refine ⟨L, [y, x], [ty, tx], rfl, hLL, (by simp), rfl, al _, l3, fun H12 s12 => ?_⟩
    have s112 : Same H11 H12 := fun b o e => s12 b o (k12 b o e)
    refine ⟨_, _, rfl, ?_⟩
    have e012 := e011.same s112
    have X12 := X11.same s112
    have Y12 := Y11.same s112
    have D12 := D11.same s112
    clear X11 Y11 D11 e011 s112 s12 hLL al l2 k12 hL Sx Sy
    refine ⟨_, rfl, _, rfl, (by show 2 ≤ sizeLine; decide), fun tt htt => ?_⟩
    have s13 := Same.upd (o := .tup [.ref y, .ref x]) (Same.refl H12) htt
    have ht13 : upd H12 tt (.tup [.ref y, .ref x]) tt = some (.tup [.ref y, .ref x]) := upd_same
    generalize upd H12 tt (.tup [.ref y, .ref x]) = H13 at *
    have e013 := e012.same s13
    have X13 := X12.same s13
    have Y13 := Y12.same s13
    have D13 := D12.same s13
    clear s13 X12 Y12 D12 e012 htt
    refine ⟨tt, rfl, ⟨_, SqT.of ht13⟩, ?_⟩
    refine for_tup (K := K) (a := tt) (xs := [.ref y, .ref x]) (fun i σ H' => ∃ v8 : Option V, σ = [some (.ref r), some (.ref d.t), some (.ref x), some (.int n), some (.ref y), v5, some (.int m), some (.str (PySem.listText [ty, tx])), v8] ∧ Same H13 H')
      ⟨_, rfl, Same.refl _⟩ (fun i σ H' _ ⟨_, _, h⟩ => SqT.of (h _ _ ht13)) ?_ ?_
    · rintro i v σ H14 hv ⟨v8, rfl, s14⟩
      obtain ⟨z, F, N, rfl, C, hN⟩ : ∃ (z : Addr) (F : Int → Int) (N : Nat), v = .ref z ∧ CvR A H14 r z F N ∧ N ≤ 400 := by
        rcases i with _ | _ | i
        · cases hv; exact ⟨y, _, _, rfl, Y13.same s14, by decide⟩
        · cases hv; exact ⟨x, _, _, rfl, X13.same s14, by decide⟩
        · cases hv
      obtain ⟨cs, p, g, Cc, Oc⟩ := C.crv
      have Ocn := Oc.n
      obtain ⟨dz, lz, pz, gz, wz, bz, hzz⟩ := C.ins
      refine ⟨_, rfl, z, dz, _, rfl, hzz, cfs_no _ _ _ (by decide +kernel) (by decide +kernel) (by decide +kernel), z, cs, p, g, rfl, Cc, fun H15 q s15 hq hqq => ?_⟩
      refine ⟨.inl ⟨rfl, _, SqL.of hqq⟩, q, _, _, rfl, rfl, hqq, small (by rw [List.length_map]; omega), ?_⟩
      exact ⟨_, rfl, Same.upd (s14.trans s15) (s14.free hq)⟩
    rintro σ H14 ⟨v8, rfl, s14⟩
    have e014 := e013.same s14
    have X14 := X13.same s14
    have Y14 := Y13.same s14
    have D14 := D13.same s14
    clear s14 X13 Y13 D13 e013 ht13
    refine ⟨_, rfl, _, rfl, (by show 2 ≤ sizeLine; decide), fun L2 hL2 => ?_⟩
    obtain ⟨cy2, py2, gy2, Oy2, ly2, Sy2⟩ := Y14.shows (by decide) (later_bd (rw_small D14.ok))
    obtain ⟨cx2, px2, gx2, Ox2, lx2, Sx2⟩ := X14.shows (by decide) (rw_small D14.ok)
    obtain ⟨rfl, rfl, rfl⟩ := Oy.uniq Oy2 fun _ _ => rfl
    obtain ⟨rfl, rfl, rfl⟩ := Ox.uniq Ox2 fun _ _ => rfl
    rw [← hty] at Sy2
    rw [← htx] at Sx2
    have k15 : ∀ b o, H14 b = some o → upd H14 L2 (.lst [.ref y, .ref x]) b = some o := fun b o e => by rw [upd_ne (ne_of_none e hL2)]; exact e
    have al2 : ∀ (E : XK) (i : Nat) (z : Addr) (t : Str), [y, x][i]? = some z → [ty, tx][i]? = some t → VL.Shows A.Curve (spL_C_repr A) E L2 (upd H14 L2 (.lst [.ref y, .ref x])) z t := fun E i z t hz ht => by
      rcases i with _ | _ | i
      · cases hz; cases ht; exact Sy2 L2 _ E k15 hL2
      · cases hz; cases ht; exact Sx2 L2 _ E k15 hL2
      · cases hz
    have hLL2 : upd H14 L2 (.lst [.ref y, .ref x]) L2 = some (.lst ([y, x].map V.ref)) := upd_same
    refine ⟨L2, [y, x], [ty, tx], rfl, hLL2, (by simp), rfl, al2 _, l3, fun H15 s15 => ?_⟩
    have s145 : Same H14 H15 := fun b o e => s15 b o (k15 b o e)
    generalize PySem.listText [ty, tx] = TT at *
    refine ⟨_, rfl, rfl, _, rfl, iteNeV ?_⟩
    have e015 := e014.same s145
    have X15 := X14.same s145
    have Y15 := Y14.same s145
    have D15 := D14.same s145
    clear s145 s15 hLL2 al2 k15 hL2 X14 Y14 D14 e014 Sy2 Sx2
    obtain ⟨dy, ly', py', gy', wy, by1, hyy⟩ := Y15.ins
    refine ⟨_, rfl, y, dy, _, rfl, hyy, cfs_no _ _ _ (by decide +kernel) (by decide +kernel) (by decide +kernel), _, rfl, ?_⟩
    try delta tNil
    refine cv_later Y15 e015.rng (n := m) (by omega) (by decide) fun H16 z s16 hz Z => ?_
    have X16 := X15.same s16
    have e016 := e015.same s16
    obtain ⟨dx2, lx2', px2', gx2', wx2, bx2, hxx2⟩ := X16.ins
    refine ⟨_, rfl, x, dx2, _, rfl, hxx2, cfs_no _ _ _ (by decide +kernel) (by decide +kernel) (by decide +kernel), _, rfl, _, rfl, _, _, rfl, rfl, ?_⟩
    try delta tNil
    refine cv_later X16 e016.rng (n := n + m) (by omega) (by decide) fun H17 z2 s17 hz2 Z2 => ?_
    refine cv_eq T (Z.same s17) Z2 (fun t _ => later_later t) ?_
    refine ⟨_, rfl, iteT ?_⟩
    refine ⟨_, rfl, _, rfl, ?_⟩
    try delta tNil
    have e017 := e016.same s17
    refine rw_curve ((D15.same s16).same s17) e017.rng fun H18 x3 s18 hx3 X3 => ?_
    refine cv_eq T ((X16.same s17).same s18) X3 (fun _ _ => rfl) ?_
    exact k _ (e017.same s18)
end
end VK


namespace VK
open PySem PySem.Spec PyProof.Rows L2 VM
def sp_l_right (_ : PySem.W.Frag) (_ : Ad) : Sp := fun vs H Q _ => ∃ (r : Addr), vs = [.ref r] ∧ Rng H r ∧ ∀ H', Ext r H H' → Q (.bl true) H'
section
variable {P : Program} {w : World} {K : PySem.W.Frag} {mg : Str → Option Value} {base : Heap} {A : Ad}
theorem ok_l_right (T : Txt K mg A) : VG.FnG P w K mg base CX0 10 A.f_l_right A.d_l_right ["_law_rng_here"] (sp_l_right K A) := by
  have G_l_any_row := ok_l_any_row (P := P) (w := w) (base := base) T
  have G_l_choice := ok_l_choice (P := P) (w := w) (base := base) T
  have G_l_draw := ok_l_draw (P := P) (w := w) (base := base) T
  have G_l_later_refused := ok_l_later_refused (P := P) (w := w) (base := base) T
  have G_l_later_right := ok_l_later_right (P := P) (w := w) (base := base) T
  have G_l_most_right := ok_l_most_right (P := P) (w := w) (base := base) T
  have G_l_near := ok_l_near (P := P) (w := w) (base := base) T
  have G_l_sums_right := ok_l_sums_right (P := P) (w := w) (base := base) T
  refine VG.okG0 T.F_l_right sc_l_right (fun vs H Q E h => ?_) (fun cdv A0 outer s H vs Q E hA hr h => ?_)
  · obtain ⟨r, rfl, hr0, k⟩ := h
    rfl
  · obtain ⟨r, rfl, hr0, k⟩ := h
    refine ⟨_, (pss_cons (ps_set (i := 1) sc_l_right.nd rfl (by first | exact Or.inl rfl | exact Or.inr rfl) (pe_call G_l_choice (hr.mono (by decide)) rfl T.m_l_choice T.k_l_choice T.b_l_choice .nil pass0 (pa_cons (pv 0) (pa_cons (pe_lst (pa_cons pe_int (pa_cons pe_int (pa_cons pe_int (pa_cons pe_int pa_nil))))) pa_nil))))
    (pss_cons (ps_setLc (i := 2) (own := [("_law_k", 3)]) (g := gName 3) (tt := tYes) rfl sc_l_right.nd rfl rfl (sw_true rfl rfl rfl (by decide +kernel)) (pi_range1 rfl T.range (pa_cons pe_int pa_nil)) (blkOk_by (own := [("_law_k", 3)]) (N := ["_law_rng_here", "_law_most", "_law_rows", "_law_k"]) (sc := defScope s_l_right) (by decide +kernel)) (fun _ _ _ _ _ => pg_name (i := 3) sc_l_right.nd rfl (by first | exact Or.inl rfl | exact Or.inr rfl)) (fun _ _ _ _ _ => pts_nil) (fun _ _ _ _ _ => (pe_call G_l_any_row (hr.mono (by decide)) rfl T.m_l_any_row T.k_l_any_row T.b_l_any_row .nil pass0 (pa_cons (pv 0) (pa_cons (pv 1) pa_nil)))))
    (VG.pss_join (ps_if (pt_cmpR op_eq (pe_call G_l_draw (hr.mono (by decide)) rfl T.m_l_draw T.k_l_draw T.b_l_draw .nil pass0 (pa_cons (pv 0) (pa_cons pe_int pa_nil))) pe_int (nomark _)) (pss_one (ps_asg (pe_call G_l_near (hr.mono (by decide)) rfl T.m_l_near T.k_l_near T.b_l_near .nil pass0 (pa_cons (pv 0) (pa_cons (pe_ix (r := rIxL K) ix_list (pv 2) pe_int (fun _ _ => rfl)) pa_nil))) (pg_sub (pv 2) pe_int set_list))) pss_nil)
    (pss_cons (ps_if (PW.pt (pw_or (pt_not (pt_val (VG.pe_callG G_l_sums_right hA (hr.mono (by decide)) rfl T.m_l_sums_right T.k_l_sums_right T.b_l_sums_right pass0 (pa_cons (pv 0) (pa_cons (pv 2) pa_nil))))) (pw_or1 (pt_not (pt_val (VG.pe_callG G_l_most_right hA (hr.mono (by decide)) rfl T.m_l_most_right T.k_l_most_right T.b_l_most_right pass0 (pa_cons (pv 0) (pa_cons (pv 2) pa_nil)))))))) (pss_one (ps_ret pe_bl)) pss_nil)
    (pss_one (ps_ret (pe_and (VG.pe_callG G_l_later_right hA (hr.mono (by decide)) rfl T.m_l_later_right T.k_l_later_right T.b_l_later_right pass0 (pa_cons (pv 0) (pa_cons (pe_ix (r := rIxL K) ix_list (pv 2) pe_int (fun _ _ => rfl)) pa_nil))) (pe_one (VG.pe_callG G_l_later_refused hA (hr.mono (by decide)) rfl T.m_l_later_refused T.k_l_later_refused T.b_l_later_refused pass0 (pa_cons (pv 0) (pa_cons (pe_ix (r := rIxL K) ix_list (pv 2) pe_int (fun _ _ => rfl)) pa_nil))))))))))), ?_⟩
    refine ⟨_, rfl, (by show 4 ≤ sizeLine; decide), fun q hq => ?_⟩
    have s1 := Same.upd (o := .lst [.int 2, .int 3, .int 9, .int 70]) (Same.refl H) hq
    have hq1 : upd H q (.lst [.int 2, .int 3, .int 9, .int 70]) q = some (.lst [.int 2, .int 3, .int 9, .int 70]) := upd_same
    generalize upd H q (.lst [.int 2, .int 3, .int 9, .int 70]) = H1 at *
    refine ⟨r, q, _, rfl, hr0.same s1, SqL.of hq1, hr0.ne hq, (by show 0 < 4; decide), (by show 4 < 1000000; decide), fun H2 v e2 hv => ?_⟩
    have e02 := (Ext.of hr0 s1).trans e2
    obtain ⟨m, rfl, m0, m1⟩ : ∃ m : Int, v = .int m ∧ 0 < m ∧ m ≤ 70 := by
      simp only [List.mem_cons, List.not_mem_nil, or_false] at hv
      rcases hv with rfl | rfl | rfl | rfl
      · exact ⟨2, rfl, by decide, by decide⟩
      · exact ⟨3, rfl, by decide, by decide⟩
      · exact ⟨9, rfl, by decide, by decide⟩
      · exact ⟨70, rfl, by decide, by decide⟩
    clear hv hq1 s1 e2 hq
    refine ⟨_, rfl, by decide, by decide, fun D hD => ?_⟩
    have nD := e02.rng.ne hD
    have DH := e02.free hD
    refine lc_range (lo := 0) (n := 3) (fun j H' => ∃ ds : List RwD, ds.length = j ∧ H' D = some (.lst (ds.map fun d => V.ref d.t)) ∧ (∀ d ∈ ds, RwAt H' r d ∧ RwAt H' D d ∧ Lo d.xs d.p d.g) ∧ Ext r H H')
      ⟨[], rfl, upd_same, fun d h => (nomatch h), e02.put DH nD⟩ ?_ ?_
    · rintro j H3 hj ⟨ds, dl, hD3, dok, e3⟩
      refine ⟨rfl, _, rfl, _, rfl, r, m, rfl, e3.rng, m0, m1, fun H4 t l xs p g e4 ht0 hl0 ht hl lo => ?_⟩
      have hD4 := e4.keep _ _ nD hD3
      have ntD : t ≠ D := fun z => by rw [z, hD3] at ht0; cases ht0
      have nlD : l ≠ D := fun z => by rw [z, hD3] at hl0; cases hl0
      have N1 : RwAt H4 r ⟨t, l, xs, p, g⟩ := ⟨⟨ht, hl⟩, e3.rng.ne ht0, e3.rng.ne hl0, lo.ok⟩
      have N2 : RwAt H4 D ⟨t, l, xs, p, g⟩ := ⟨⟨ht, hl⟩, ntD, nlD, lo.ok⟩
      refine ⟨_, hD4, small (by rw [List.length_map]; omega), ds ++ [⟨t, l, xs, p, g⟩], by rw [List.length_append, dl]; rfl, by rw [upd_same, List.map_append]; rfl, fun d hd => ?_, (e3.trans e4).put DH nD⟩
      rcases List.mem_append.mp hd with h | h
      · obtain ⟨a, b, c⟩ := dok d h
        obtain ⟨a2, b2⟩ := a.two b ((Mv.ext e4).trans (Mv.put (o := .lst ((ds.map fun d => V.ref d.t) ++ [.ref t]))))
        exact ⟨a2, b2, c⟩
      · rw [List.mem_singleton.mp h]
        obtain ⟨a2, b2⟩ := N1.two N2 (Mv.put (o := .lst ((ds.map fun d => V.ref d.t) ++ [.ref t])))
        exact ⟨a2, b2, lo⟩
    rintro H3 ⟨ds, dl, hD3, dok, e3⟩
    obtain ⟨d0, d1, d2, rfl⟩ : ∃ d0 d1 d2, ds = [d0, d1, d2] := match ds, dl with | [a, b, c], _ => ⟨a, b, c, rfl⟩
    obtain ⟨A0, B0, lo⟩ := dok d0 (by simp)
    obtain ⟨A1, B1, _⟩ := dok d1 (by simp)
    obtain ⟨A2, B2, _⟩ := dok d2 (by simp)
    clear dok dl
    refine ⟨fun σ' H' => ∃ e1 : RwD, σ' = [some (.ref r), some (.int m), some (.ref D), none] ∧ Ext r H H' ∧ H' D = some (.lst [.ref d0.t, .ref e1.t, .ref d2.t]) ∧ RwAt H' r d0 ∧ RwAt H' r e1 ∧ RwAt H' r d2, ?_, ?_⟩
    · refine ⟨_, rfl, r, _, rfl, e3.rng, by decide, by decide, fun H4 c e4 _ _ => ⟨rfl, _, rfl, ifEq (fun c => ?_) (fun c => ?_)⟩⟩
      · have hD4 := e4.keep _ _ nD hD3
        obtain ⟨A04, B04⟩ := A0.two B0 (Mv.ext e4)
        obtain ⟨A14, B14⟩ := A1.two B1 (Mv.ext e4)
        obtain ⟨A24, B24⟩ := A2.two B2 (Mv.ext e4)
        refine ⟨_, rfl, _, rfl, D, _, _, _, rfl, rfl, SqL.of hD4, (show atI [V.ref d0.t, V.ref d1.t, V.ref d2.t] ((0 : Nat) : Int) = some (.ref d0.t) from atI_nat rfl), ?_⟩
        refine ⟨r, d0.t, d0.l, d0.xs, d0.p, d0.g, rfl, e4.rng, A04.nt, A04.nl, A04.row, lo, fun H5 t l ys e e5 RH ok nt nl lw => ?_⟩
        have hD5 := e5.keep _ _ nD hD4
        have ntD : t ≠ D := fun z => by have := RH.1; rw [z, hD5] at this; cases this
        have nlD : l ≠ D := by
          rcases lw with rfl | h
          · exact B04.nl
          · exact fun z => by rw [z, hD4] at h; cases h
        obtain ⟨A05, B05⟩ := A04.two B04 (Mv.ext e5)
        obtain ⟨A25, B25⟩ := A24.two B24 (Mv.ext e5)
        have N1 : RwAt H5 r ⟨t, l, ys, d0.p, e⟩ := ⟨RH, nt, nl, ok⟩
        have N2 : RwAt H5 D ⟨t, l, ys, d0.p, e⟩ := ⟨RH, ntD, nlD, ok⟩
        refine ⟨_, rfl, D, _, 1, 1, rfl, rfl, hD5, ixn (n := 3) (i := 1) (by decide), ?_⟩
        have mp : Mv r D H5 (upd H5 D (.lst [.ref d0.t, .ref t, .ref d2.t])) := Mv.put
        exact ⟨⟨t, l, ys, d0.p, e⟩, rfl, ((e3.trans e4).trans e5).put DH nD, upd_same, (A05.two B05 mp).1, (N1.two N2 mp).1, (A25.two B25 mp).1⟩
      · exact ⟨d1, rfl, e3.trans e4, e4.keep _ _ nD hD3, A0.ext e4, A1.ext e4, A2.ext e4⟩
    rintro σ H4 ⟨e1, rfl, e4, hD4, A04, A14, A24⟩
    refine ⟨_, rfl, _, rfl, r, D, d0, e1, d2, rfl, e4.rng, nD, hD4, A04, A14, A24, fun H5 e5 => ⟨_, rfl, iteF ?_⟩⟩
    refine ⟨_, rfl, _, rfl, r, D, d0, e1, d2, rfl, e5.rng, nD, e5.keep _ _ nD hD4, A04.ext e5, A14.ext e5, A24.ext e5, lo, fun H6 e6 => ⟨_, rfl, iteF ?_⟩⟩
    have e56 := e5.trans e6
    refine ⟨_, rfl, _, rfl, D, _, _, _, rfl, rfl, SqL.of (e56.keep _ _ nD hD4), (show atI [V.ref d0.t, V.ref e1.t, V.ref d2.t] ((2 : Nat) : Int) = some (.ref d2.t) from atI_nat rfl), ?_⟩
    refine ⟨r, d2, rfl, e6.rng, A24.ext e56, fun H7 e7 => ⟨_, rfl, iteT ?_⟩⟩
    have e57 := e56.trans e7
    refine ⟨_, rfl, _, rfl, D, _, _, _, rfl, rfl, SqL.of (e57.keep _ _ nD hD4), (show atI [V.ref d0.t, V.ref e1.t, V.ref d2.t] ((0 : Nat) : Int) = some (.ref d0.t) from atI_nat rfl), ?_⟩
    exact ⟨r, d0, rfl, e7.rng, A04.ext e57, fun H8 e8 => k _ ((e4.trans e57).trans e8)⟩
end
end VK


namespace VK
open PySem PySem.Spec PyProof.Rows L2 VM
def spL (K : PySem.W.Frag) : Sp := fun vs H Q _ => ∃ (a : Addr) (ns : List Int), vs = [.ref a] ∧ SqL K H a (ns.map V.int) ∧ ns.length ≤ 63 ∧ ∀ H', Q (.bl true) H'
def sp_law (K : PySem.W.Frag) (_ : Ad) : Sp := spL K
section
variable {P : Program} {w : World} {K : PySem.W.Frag} {mg : Str → Option Value} {base : Heap} {A : Ad}
theorem ok_law (T : Txt K mg A) : VG.FnG P w K mg base CX0 13 A.f_law A.d_law ["_law_script"] (sp_law K A) := by
  have G_l_right := ok_l_right (P := P) (w := w) (base := base) T
  have G_l_rng := ok_l_rng (P := P) (w := w) (base := base) T
  refine VG.okG0 T.F_law sc_law (fun vs H Q E h => ?_) (fun cdv A0 outer s H vs Q E hA hr h => ?_)
  · obtain ⟨a, ns, rfl, hS, hn, k⟩ := h
    rfl
  · obtain ⟨a, ns, rfl, hS, hn, k⟩ := h
    refine ⟨_, (pss_one (ps_ret (pe_callB (r := rAll K) (cr_all rfl) (by rfl) T.all (by decide +kernel) (pa_cons (pe_lc (own := [("_law_k", 1)]) (g := gName 1) (tt := tYes) rfl sc_law.nd (pi_range1 rfl T.range (pa_cons (pe_callB (call_max2 rfl) (by rfl) T.max (by decide +kernel) (pa_cons pe_int (pa_cons (pe_callB (call_min2 rfl) (by rfl) T.min (by decide +kernel) (pa_cons pe_int (pa_cons (pe_callB (r := VG.rLen K) VG.call_len (by rfl) T.len (by decide +kernel) (pa_cons (pv 0) pa_nil)) pa_nil))) pa_nil))) pa_nil)) (blkOk_by (own := [("_law_k", 1)]) (N := ["_law_script", "_law_k"]) (sc := defScope s_law) (by decide +kernel)) (fun _ _ _ _ _ => pg_name (i := 1) sc_law.nd rfl (by first | exact Or.inl rfl | exact Or.inr rfl)) (fun _ _ _ _ _ => pts_nil) (fun _ _ _ _ _ => (VG.pe_callG G_l_right hA (hr.mono (by decide)) rfl T.m_l_right T.k_l_right T.b_l_right pass0 (pa_cons (pe_call G_l_rng (hr.mono (by decide)) rfl T.m_l_rng T.k_l_rng T.b_l_rng .nil pass0 (pa_cons (pv 0) (pa_cons (pv 1) pa_nil))) pa_nil)))) pa_nil)))), ?_⟩
    refine ⟨_, rfl, a, _, rfl, .inl hS, _, _, rfl, _, _, rfl, _, rfl, ?_⟩
    have b6 : (if (if ((ns.map V.int).length : Int) < (4 : Int) then ((ns.map V.int).length : Int) else (4 : Int)) > 1 then (if ((ns.map V.int).length : Int) < (4 : Int) then ((ns.map V.int).length : Int) else (4 : Int)) else 1) ≤ 4 := by
      split <;> split <;> omega
    have b0 : 0 ≤ (if (if ((ns.map V.int).length : Int) < (4 : Int) then ((ns.map V.int).length : Int) else (4 : Int)) > 1 then (if ((ns.map V.int).length : Int) < (4 : Int) then ((ns.map V.int).length : Int) else (4 : Int)) else 1) := by
      split <;> split <;> omega
    generalize (if (if ((ns.map V.int).length : Int) < (4 : Int) then ((ns.map V.int).length : Int) else (4 : Int)) > 1 then (if ((ns.map V.int).length : Int) < (4 : Int) then ((ns.map V.int).length : Int) else (4 : Int)) else 1) = N at *
    refine ⟨by omega, by omega, fun D hD => lc_range (lo := 0) (n := N.toNat) (fun j H' => H' D = some (.lst ((List.replicate j true).map V.bl)) ∧ Same H H') ⟨upd_same, Same.upd (Same.refl _) hD⟩ ?_ ?_⟩
    · rintro j H' hj ⟨hD2, s2⟩
      refine ⟨rfl, _, rfl, _, rfl, a, ns, _, rfl, s2.seq hS, by omega, by omega, fun H1 p s3 hp0 hp => ⟨p, rfl, hp, fun H2 e2 => ?_⟩⟩
      have nDp : D ≠ p := ne_of_none hD2 hp0
      refine ⟨_, e2.keep _ _ nDp (s3 _ _ hD2), small (by rw [List.length_map, List.length_replicate]; omega), ?_, ?_⟩
      · rw [upd_same, List.replicate_succ', List.map_append]; rfl
      · intro b o e
        rw [upd_ne (ne_of_none e hD)]
        exact e2.keep b o (ne_of_none (s2 _ _ e) hp0) (s3 _ _ (s2 _ _ e))
    · rintro H' ⟨hD2, s2⟩
      refine ⟨D, _, rfl, SqL.of hD2, ?_⟩
      have e : (List.replicate N.toNat true).all id = true := by
        rw [List.all_eq_true]
        intro x hx
        exact (List.eq_of_mem_replicate hx)
      rw [e]
      exact k H'
end
end VK


namespace VK
open PySem PySem.Spec PyProof.Rows L2 VM
theorem all_mk {l : PySem.W.OpenLaw} {w : World} {K : PySem.W.Frag} {h : Heap} {mg : Str → Option Value} {fa : Addr} (X : K.In h) (G : h.Ns mainGlobals mg) (hfa : mg "law" = some (.ref fa))
    {C_DueError : Addr}
    {C_InvalidCurve : Addr}
    {C_InvalidLength : Addr}
    {C_InvalidPiece : Addr}
    {C_InvalidCount : Addr}
    {C_Curve : Addr}
    {f_InvalidCount_init : Addr} {od_InvalidCount_init an_InvalidCount_init : Option Addr} {sl_InvalidCount_init : Array (Option Value)} {oc_InvalidCount_init kV_InvalidCount_init dc_InvalidCount_init pm_InvalidCount_init cd_InvalidCount_init ct_InvalidCount_init : Value}
    {f_is_integer : Addr} {od_is_integer an_is_integer : Option Addr} {sl_is_integer : Array (Option Value)} {oc_is_integer kV_is_integer dc_is_integer pm_is_integer cd_is_integer ct_is_integer : Value}
    {f_is_count : Addr} {od_is_count an_is_count : Option Addr} {sl_is_count : Array (Option Value)} {oc_is_count kV_is_count dc_is_count pm_is_count cd_is_count ct_is_count : Value}
    {f_is_count_to : Addr} {od_is_count_to an_is_count_to : Option Addr} {sl_is_count_to : Array (Option Value)} {oc_is_count_to kV_is_count_to dc_is_count_to pm_is_count_to cd_is_count_to ct_is_count_to : Value}
    {f_require_count_to : Addr} {od_require_count_to an_require_count_to : Option Addr} {sl_require_count_to : Array (Option Value)} {oc_require_count_to kV_require_count_to dc_require_count_to pm_require_count_to cd_require_count_to ct_require_count_to : Value}
    {f_rounded_up : Addr} {od_rounded_up an_rounded_up : Option Addr} {sl_rounded_up : Array (Option Value)} {oc_rounded_up kV_rounded_up dc_rounded_up pm_rounded_up cd_rounded_up ct_rounded_up : Value}
    {f_value_at : Addr} {od_value_at an_value_at : Option Addr} {sl_value_at : Array (Option Value)} {oc_value_at kV_value_at dc_value_at pm_value_at cd_value_at ct_value_at : Value}
    {f_least_form : Addr} {od_least_form an_least_form : Option Addr} {sl_least_form : Array (Option Value)} {oc_least_form kV_least_form dc_least_form pm_least_form cd_least_form ct_least_form : Value}
    {f_least_period : Addr} {od_least_period an_least_period : Option Addr} {sl_least_period : Array (Option Value)} {oc_least_period kV_least_period dc_least_period pm_least_period cd_least_period ct_least_period : Value}
    {f_C_init : Addr} {od_C_init an_C_init : Option Addr} {sl_C_init : Array (Option Value)} {oc_C_init dc_C_init pm_C_init cd_C_init ct_C_init : Value}
    {D_C_init : Addr}
    {t_C_init_period : Tok}
    {t_C_init_gain : Tok}
    {f_C_eq : Addr} {od_C_eq an_C_eq : Option Addr} {sl_C_eq : Array (Option Value)} {oc_C_eq kV_C_eq dc_C_eq pm_C_eq cd_C_eq ct_C_eq : Value}
    {f_C_repr : Addr} {od_C_repr an_C_repr : Option Addr} {sl_C_repr : Array (Option Value)} {oc_C_repr kV_C_repr dc_C_repr pm_C_repr cd_C_repr ct_C_repr : Value}
    {f_C_add : Addr} {od_C_add an_C_add : Option Addr} {sl_C_add : Array (Option Value)} {oc_C_add kV_C_add dc_C_add pm_C_add cd_C_add ct_C_add : Value}
    {f_C_period : Addr} {od_C_period an_C_period : Option Addr} {sl_C_period : Array (Option Value)} {oc_C_period kV_C_period dc_C_period pm_C_period cd_C_period ct_C_period : Value}
    {p_C_period : Addr} {r_C_period : List Value}
    {f_C_gain : Addr} {od_C_gain an_C_gain : Option Addr} {sl_C_gain : Array (Option Value)} {oc_C_gain kV_C_gain dc_C_gain pm_C_gain cd_C_gain ct_C_gain : Value}
    {p_C_gain : Addr} {r_C_gain : List Value}
    {f_C_first_values : Addr} {od_C_first_values an_C_first_values : Option Addr} {sl_C_first_values : Array (Option Value)} {oc_C_first_values kV_C_first_values dc_C_first_values pm_C_first_values cd_C_first_values ct_C_first_values : Value}
    {f_C_at : Addr} {od_C_at an_C_at : Option Addr} {sl_C_at : Array (Option Value)} {oc_C_at kV_C_at dc_C_at pm_C_at cd_C_at ct_C_at : Value}
    {f_C_at_most : Addr} {od_C_at_most an_C_at_most : Option Addr} {sl_C_at_most : Array (Option Value)} {oc_C_at_most kV_C_at_most dc_C_at_most pm_C_at_most cd_C_at_most ct_C_at_most : Value}
    {f_C_later : Addr} {od_C_later an_C_later : Option Addr} {sl_C_later : Array (Option Value)} {oc_C_later kV_C_later dc_C_later pm_C_later cd_C_later ct_C_later : Value}
    {f_make_curve : Addr} {od_make_curve an_make_curve : Option Addr} {sl_make_curve : Array (Option Value)} {oc_make_curve kV_make_curve dc_make_curve pm_make_curve cd_make_curve ct_make_curve : Value}
    {f_find_problem : Addr} {od_find_problem an_find_problem : Option Addr} {sl_find_problem : Array (Option Value)} {oc_find_problem kV_find_problem dc_find_problem pm_find_problem cd_find_problem ct_find_problem : Value}
    {f_common_writing : Addr} {od_common_writing an_common_writing : Option Addr} {sl_common_writing : Array (Option Value)} {oc_common_writing kV_common_writing dc_common_writing pm_common_writing cd_common_writing ct_common_writing : Value}
    {f_gain_in : Addr} {od_gain_in an_gain_in : Option Addr} {sl_gain_in : Array (Option Value)} {oc_gain_in kV_gain_in dc_gain_in pm_gain_in cd_gain_in ct_gain_in : Value}
    {f_l_rng : Addr} {od_l_rng an_l_rng : Option Addr} {sl_l_rng : Array (Option Value)} {oc_l_rng kV_l_rng dc_l_rng pm_l_rng cd_l_rng ct_l_rng : Value}
    {f_l_draw : Addr} {od_l_draw an_l_draw : Option Addr} {sl_l_draw : Array (Option Value)} {oc_l_draw kV_l_draw dc_l_draw pm_l_draw cd_l_draw ct_l_draw : Value}
    {f_l_choice : Addr} {od_l_choice an_l_choice : Option Addr} {sl_l_choice : Array (Option Value)} {oc_l_choice kV_l_choice dc_l_choice pm_l_choice cd_l_choice ct_l_choice : Value}
    {f_l_at : Addr} {od_l_at an_l_at : Option Addr} {sl_l_at : Array (Option Value)} {oc_l_at kV_l_at dc_l_at pm_l_at cd_l_at ct_l_at : Value}
    {f_l_any_row : Addr} {od_l_any_row an_l_any_row : Option Addr} {sl_l_any_row : Array (Option Value)} {oc_l_any_row kV_l_any_row dc_l_any_row pm_l_any_row cd_l_any_row ct_l_any_row : Value}
    {f_l_curve : Addr} {od_l_curve an_l_curve : Option Addr} {sl_l_curve : Array (Option Value)} {oc_l_curve kV_l_curve dc_l_curve pm_l_curve cd_l_curve ct_l_curve : Value}
    {f_l_near : Addr} {od_l_near an_l_near : Option Addr} {sl_l_near : Array (Option Value)} {oc_l_near kV_l_near dc_l_near pm_l_near cd_l_near ct_l_near : Value}
    {f_l_lengths : Addr} {od_l_lengths an_l_lengths : Option Addr} {sl_l_lengths : Array (Option Value)} {oc_l_lengths kV_l_lengths dc_l_lengths pm_l_lengths cd_l_lengths ct_l_lengths : Value}
    {f_l_later_at : Addr} {od_l_later_at an_l_later_at : Option Addr} {sl_l_later_at : Array (Option Value)} {oc_l_later_at kV_l_later_at dc_l_later_at pm_l_later_at cd_l_later_at ct_l_later_at : Value}
    {f_l_is_at_most : Addr} {od_l_is_at_most an_l_is_at_most : Option Addr} {sl_l_is_at_most : Array (Option Value)} {oc_l_is_at_most kV_l_is_at_most dc_l_is_at_most pm_l_is_at_most cd_l_is_at_most ct_l_is_at_most : Value}
    {f_l_sum_row : Addr} {od_l_sum_row an_l_sum_row : Option Addr} {sl_l_sum_row : Array (Option Value)} {oc_l_sum_row kV_l_sum_row dc_l_sum_row pm_l_sum_row cd_l_sum_row ct_l_sum_row : Value}
    {f_l_is_written : Addr} {od_l_is_written an_l_is_written : Option Addr} {sl_l_is_written : Array (Option Value)} {oc_l_is_written kV_l_is_written dc_l_is_written pm_l_is_written cd_l_is_written ct_l_is_written : Value}
    {f_l_sums_right : Addr} {od_l_sums_right an_l_sums_right : Option Addr} {sl_l_sums_right : Array (Option Value)} {oc_l_sums_right kV_l_sums_right dc_l_sums_right pm_l_sums_right cd_l_sums_right ct_l_sums_right : Value}
    {f_l_most_right : Addr} {od_l_most_right an_l_most_right : Option Addr} {sl_l_most_right : Array (Option Value)} {oc_l_most_right kV_l_most_right dc_l_most_right pm_l_most_right cd_l_most_right ct_l_most_right : Value}
    {f_l_later_right : Addr} {od_l_later_right an_l_later_right : Option Addr} {sl_l_later_right : Array (Option Value)} {oc_l_later_right kV_l_later_right dc_l_later_right pm_l_later_right cd_l_later_right ct_l_later_right : Value}
    {f_l_later_refused : Addr} {od_l_later_refused an_l_later_refused : Option Addr} {sl_l_later_refused : Array (Option Value)} {oc_l_later_refused kV_l_later_refused dc_l_later_refused pm_l_later_refused cd_l_later_refused ct_l_later_refused : Value}
    {f_l_right : Addr} {od_l_right an_l_right : Option Addr} {sl_l_right : Array (Option Value)} {oc_l_right kV_l_right dc_l_right pm_l_right cd_l_right ct_l_right : Value}
    {f_law : Addr} {od_law an_law : Option Addr} {sl_law : Array (Option Value)} {oc_law kV_law dc_law pm_law cd_law ct_law : Value}
    {t_MAX_LATER : Tok}
    {t_MAX_VALUE : Tok}
    {t_MAX_VALUES : Tok}
    {a_PERIODS : Addr} {uPERIODS0 uPERIODS1 uPERIODS2 uPERIODS3 uPERIODS4 uPERIODS5 : Tok} {od_PERIODS : Option Addr} {n_PERIODS : Nat} {sl_PERIODS : Array (Option Value)}
    (g_DueError : PySem.W.nsIn K mainGlobals "DueError" = some (some (.ref C_DueError)))
    (g_InvalidCurve : PySem.W.nsIn K mainGlobals "InvalidCurve" = some (some (.ref C_InvalidCurve)))
    (g_InvalidLength : PySem.W.nsIn K mainGlobals "InvalidLength" = some (some (.ref C_InvalidLength)))
    (g_InvalidPiece : PySem.W.nsIn K mainGlobals "InvalidPiece" = some (some (.ref C_InvalidPiece)))
    (g_InvalidCount : PySem.W.nsIn K mainGlobals "InvalidCount" = some (some (.ref C_InvalidCount)))
    (xi_InvalidCount : PySem.W.excInitIn K C_InvalidCount [.type "ValueError", .type "Exception", .type "BaseException", .type "object"] "ValueError.__new__" = true)
    (xo_InvalidCount : PySem.W.excOver K C_InvalidCount [.type "ValueError", .type "Exception", .type "BaseException", .type "object"] = true)
    (hd_InvalidCount : PySem.W.hasDictIn K C_InvalidCount = true)
    (sa_InvalidCount : PySem.W.findIn K (.ref C_InvalidCount) "__setattr__" = some (some (.builtin "object.__setattr__")))
    (xe_InvalidCount : PySem.W.subIn K (.ref C_InvalidCount) (.type "BaseException") = some true)
    (ty_InvalidCount : PySem.W.typeIn K (.ref C_InvalidCount) = some (.type "type"))
    (kc_InvalidCount : PySem.W.keepIn K (.ref C_InvalidCount) = true)
    (ga_InvalidCount : PySem.W.findIn K (.ref C_InvalidCount) "__getattribute__" = some (some (.builtin "BaseException.__getattribute__")))
    (gt_InvalidCount : PySem.W.findIn K (.ref C_InvalidCount) "__getattr__" = some none)
    (cc_InvalidCount : PySem.W.findIn K (.ref C_InvalidCount) "__class__" = some (some (.builtin "object.__class__")))
    (mr_InvalidCount : PySem.W.mroIn K C_InvalidCount (.type "object") = some true)
    (xm_InvalidCount : PySem.W.subIn K (.ref C_InvalidCount) (.ref C_InvalidCount) = some true)
    (n_InvalidCount_value : PySem.W.findIn K (.ref C_InvalidCount) "value" = some none)
    (q_gn : PySem.W.specialIn K (.builtin "object.__class__") "__get__" = some (some (.builtin "getset_descriptor.__get__")))
    (q_tk : PySem.W.takesIn K (.builtin "object.__class__") = some true)
    (xe_DueError : PySem.W.subIn K (.ref C_DueError) (.type "BaseException") = some true)
    (hd_DueError : PySem.W.hasDictIn K C_DueError = true)
    (ty_DueError : PySem.W.typeIn K (.ref C_DueError) = some (.type "type"))
    (xm_InvalidCount_DueError : PySem.W.subIn K (.ref C_InvalidCount) (.ref C_DueError) = some true)
    (fun_lcm : PySem.W.nsIn K mainGlobals "lcm" = some (some (.builtin "math.lcm")))
    (kt_InvalidCount_InvalidCount : PySem.W.kitOne K (.ref C_InvalidCount) (.ref C_InvalidCount) = some true)
    (kt_InvalidCount_InvalidCurve_InvalidLength_InvalidPiece : PySem.W.kitAny K (.ref C_InvalidCount) [.ref C_InvalidCurve, .ref C_InvalidLength, .ref C_InvalidPiece] = some false)
    (g_Curve : PySem.W.nsIn K mainGlobals "Curve" = some (some (.ref C_Curve)))
    (pg_Curve : PySem.W.plainGet K C_Curve Str.empty = true)
    (hd_Curve : PySem.W.hasDictIn K C_Curve = true)
    (po_Curve : PySem.W.plainOver K C_Curve = true)
    (sa_Curve : PySem.W.findIn K (.ref C_Curve) "__setattr__" = some (some (.builtin "object.__setattr__")))
    (mk_Curve : PySem.W.makesIn K C_Curve = true)
    (kc_Curve : PySem.W.keepIn K (.ref C_Curve) = true)
    (ic_Curve : PySem.W.isClsIn K C_Curve = true)
    (it_Curve : PySem.W.typeIn K (.ref C_Curve) = some (.type "type"))
    (ig_Curve : PySem.W.findIn K (.ref C_Curve) "__class__" = some (some (.builtin "object.__class__")))
    (io_Curve : PySem.W.mroIn K C_Curve (.type "object") = some true)
    (ie_Curve : PySem.W.findIn K (.ref C_Curve) "__ne__" = some (some (.builtin "object.__ne__")))
    (i_gn : PySem.W.specialIn K (.builtin "object.__class__") "__get__" = some (some (.builtin "getset_descriptor.__get__")))
    (i_tk : PySem.W.takesIn K (.builtin "object.__class__") = some true)
    (sf_Curve : PySem.W.selfFirst K C_Curve = true)
    (n_Curve_values : PySem.W.findIn K (.ref C_Curve) "_values" = some none)
    (n_Curve_period : PySem.W.findIn K (.ref C_Curve) "_period" = some none)
    (n_Curve_gain : PySem.W.findIn K (.ref C_Curve) "_gain" = some none)
    (n_Curve_was_searched : PySem.W.findIn K (.ref C_Curve) "_was_searched" = some none)
    (n_Curve_break : PySem.W.findIn K (.ref C_Curve) "_break" = some none)
    (a_InvalidCount_init : PySem.W.findIn K (.ref C_InvalidCount) "__init__" = some (some (.ref f_InvalidCount_init)))
    (i_InvalidCount_init : PySem.W.isFn K (.ref f_InvalidCount_init) = true)
    (l_InvalidCount_init : K.lookup f_InvalidCount_init = some ⟨oc_InvalidCount_init, od_InvalidCount_init, .func (PySem.W.fnOf "__init__" "InvalidCount.__init__" (defArgs s_InvalidCount_init) (defBody s_InvalidCount_init) (defScope s_InvalidCount_init) .none kV_InvalidCount_init dc_InvalidCount_init pm_InvalidCount_init an_InvalidCount_init cd_InvalidCount_init ct_InvalidCount_init), sl_InvalidCount_init⟩)
    (c_InvalidCount_init : PySem.W.codeIn K cd_InvalidCount_init "InvalidCount.__init__" = true)
    (k_InvalidCount_init : PySem.W.keepIn K (.ref f_InvalidCount_init) = true)
    (tI_InvalidCount : PySem.W.typeIn K (.ref f_InvalidCount_init) = some (.type "function"))
    (a_is_integer : PySem.W.nsIn K mainGlobals "is_integer" = some (some (.ref f_is_integer)))
    (l_is_integer : K.lookup f_is_integer = some ⟨oc_is_integer, od_is_integer, .func (PySem.W.fnOf "is_integer" "is_integer" (defArgs s_is_integer) (defBody s_is_integer) (defScope s_is_integer) .none kV_is_integer dc_is_integer pm_is_integer an_is_integer cd_is_integer ct_is_integer), sl_is_integer⟩)
    (c_is_integer : PySem.W.codeIn K cd_is_integer "is_integer" = true)
    (k_is_integer : PySem.W.keepIn K (.ref f_is_integer) = true)
    (a_is_count : PySem.W.nsIn K mainGlobals "is_count" = some (some (.ref f_is_count)))
    (l_is_count : K.lookup f_is_count = some ⟨oc_is_count, od_is_count, .func (PySem.W.fnOf "is_count" "is_count" (defArgs s_is_count) (defBody s_is_count) (defScope s_is_count) .none kV_is_count dc_is_count pm_is_count an_is_count cd_is_count ct_is_count), sl_is_count⟩)
    (c_is_count : PySem.W.codeIn K cd_is_count "is_count" = true)
    (k_is_count : PySem.W.keepIn K (.ref f_is_count) = true)
    (a_is_count_to : PySem.W.nsIn K mainGlobals "is_count_to" = some (some (.ref f_is_count_to)))
    (l_is_count_to : K.lookup f_is_count_to = some ⟨oc_is_count_to, od_is_count_to, .func (PySem.W.fnOf "is_count_to" "is_count_to" (defArgs s_is_count_to) (defBody s_is_count_to) (defScope s_is_count_to) .none kV_is_count_to dc_is_count_to pm_is_count_to an_is_count_to cd_is_count_to ct_is_count_to), sl_is_count_to⟩)
    (c_is_count_to : PySem.W.codeIn K cd_is_count_to "is_count_to" = true)
    (k_is_count_to : PySem.W.keepIn K (.ref f_is_count_to) = true)
    (a_require_count_to : PySem.W.nsIn K mainGlobals "require_count_to" = some (some (.ref f_require_count_to)))
    (l_require_count_to : K.lookup f_require_count_to = some ⟨oc_require_count_to, od_require_count_to, .func (PySem.W.fnOf "require_count_to" "require_count_to" (defArgs s_require_count_to) (defBody s_require_count_to) (defScope s_require_count_to) .none kV_require_count_to dc_require_count_to pm_require_count_to an_require_count_to cd_require_count_to ct_require_count_to), sl_require_count_to⟩)
    (c_require_count_to : PySem.W.codeIn K cd_require_count_to "require_count_to" = true)
    (k_require_count_to : PySem.W.keepIn K (.ref f_require_count_to) = true)
    (a_rounded_up : PySem.W.nsIn K mainGlobals "rounded_up" = some (some (.ref f_rounded_up)))
    (l_rounded_up : K.lookup f_rounded_up = some ⟨oc_rounded_up, od_rounded_up, .func (PySem.W.fnOf "rounded_up" "rounded_up" (defArgs s_rounded_up) (defBody s_rounded_up) (defScope s_rounded_up) .none kV_rounded_up dc_rounded_up pm_rounded_up an_rounded_up cd_rounded_up ct_rounded_up), sl_rounded_up⟩)
    (c_rounded_up : PySem.W.codeIn K cd_rounded_up "rounded_up" = true)
    (k_rounded_up : PySem.W.keepIn K (.ref f_rounded_up) = true)
    (a_value_at : PySem.W.nsIn K mainGlobals "value_at" = some (some (.ref f_value_at)))
    (l_value_at : K.lookup f_value_at = some ⟨oc_value_at, od_value_at, .func (PySem.W.fnOf "value_at" "value_at" (defArgs s_value_at) (defBody s_value_at) (defScope s_value_at) .none kV_value_at dc_value_at pm_value_at an_value_at cd_value_at ct_value_at), sl_value_at⟩)
    (c_value_at : PySem.W.codeIn K cd_value_at "value_at" = true)
    (k_value_at : PySem.W.keepIn K (.ref f_value_at) = true)
    (a_least_form : PySem.W.nsIn K mainGlobals "least_form" = some (some (.ref f_least_form)))
    (l_least_form : K.lookup f_least_form = some ⟨oc_least_form, od_least_form, .func (PySem.W.fnOf "least_form" "least_form" (defArgs s_least_form) (defBody s_least_form) (defScope s_least_form) .none kV_least_form dc_least_form pm_least_form an_least_form cd_least_form ct_least_form), sl_least_form⟩)
    (c_least_form : PySem.W.codeIn K cd_least_form "least_form" = true)
    (k_least_form : PySem.W.keepIn K (.ref f_least_form) = true)
    (a_least_period : PySem.W.nsIn K mainGlobals "least_period" = some (some (.ref f_least_period)))
    (l_least_period : K.lookup f_least_period = some ⟨oc_least_period, od_least_period, .func (PySem.W.fnOf "least_period" "least_period" (defArgs s_least_period) (defBody s_least_period) (defScope s_least_period) .none kV_least_period dc_least_period pm_least_period an_least_period cd_least_period ct_least_period), sl_least_period⟩)
    (c_least_period : PySem.W.codeIn K cd_least_period "least_period" = true)
    (k_least_period : PySem.W.keepIn K (.ref f_least_period) = true)
    (a_C_init : PySem.W.findIn K (.ref C_Curve) "__init__" = some (some (.ref f_C_init)))
    (i_C_init : PySem.W.isFn K (.ref f_C_init) = true)
    (l_C_init : K.lookup f_C_init = some ⟨oc_C_init, od_C_init, .func (PySem.W.fnOf "__init__" "Curve.__init__" (defArgs s_C_init) (defBody s_C_init) (defScope s_C_init) .none (.ref D_C_init) dc_C_init pm_C_init an_C_init cd_C_init ct_C_init), sl_C_init⟩)
    (c_C_init : PySem.W.codeIn K cd_C_init "Curve.__init__" = true)
    (k_C_init : PySem.W.keepIn K (.ref f_C_init) = true)
    (d_C_init_period : PySem.W.nsIn K D_C_init "period" = some (some (.int 1 t_C_init_period)))
    (d_C_init_gain : PySem.W.nsIn K D_C_init "gain" = some (some (.int 0 t_C_init_gain)))
    (a_C_eq : PySem.W.findIn K (.ref C_Curve) "__eq__" = some (some (.ref f_C_eq)))
    (i_C_eq : PySem.W.isFn K (.ref f_C_eq) = true)
    (l_C_eq : K.lookup f_C_eq = some ⟨oc_C_eq, od_C_eq, .func (PySem.W.fnOf "__eq__" "Curve.__eq__" (defArgs s_C_eq) (defBody s_C_eq) (defScope s_C_eq) .none kV_C_eq dc_C_eq pm_C_eq an_C_eq cd_C_eq ct_C_eq), sl_C_eq⟩)
    (c_C_eq : PySem.W.codeIn K cd_C_eq "Curve.__eq__" = true)
    (k_C_eq : PySem.W.keepIn K (.ref f_C_eq) = true)
    (a_C_repr : PySem.W.findIn K (.ref C_Curve) "__repr__" = some (some (.ref f_C_repr)))
    (i_C_repr : PySem.W.isFn K (.ref f_C_repr) = true)
    (l_C_repr : K.lookup f_C_repr = some ⟨oc_C_repr, od_C_repr, .func (PySem.W.fnOf "__repr__" "Curve.__repr__" (defArgs s_C_repr) (defBody s_C_repr) (defScope s_C_repr) .none kV_C_repr dc_C_repr pm_C_repr an_C_repr cd_C_repr ct_C_repr), sl_C_repr⟩)
    (c_C_repr : PySem.W.codeIn K cd_C_repr "Curve.__repr__" = true)
    (k_C_repr : PySem.W.keepIn K (.ref f_C_repr) = true)
    (a_C_add : PySem.W.findIn K (.ref C_Curve) "__add__" = some (some (.ref f_C_add)))
    (i_C_add : PySem.W.isFn K (.ref f_C_add) = true)
    (l_C_add : K.lookup f_C_add = some ⟨oc_C_add, od_C_add, .func (PySem.W.fnOf "__add__" "Curve.__add__" (defArgs s_C_add) (defBody s_C_add) (defScope s_C_add) .none kV_C_add dc_C_add pm_C_add an_C_add cd_C_add ct_C_add), sl_C_add⟩)
    (c_C_add : PySem.W.codeIn K cd_C_add "Curve.__add__" = true)
    (k_C_add : PySem.W.keepIn K (.ref f_C_add) = true)
    (a_C_period : PySem.W.findIn K (.ref C_Curve) "period" = some (some (.ref p_C_period)))
    (pg_C_period : PySem.W.specialIn K (.ref p_C_period) "__get__" = some (some (.builtin "property.__get__")))
    (pt_C_period : PySem.W.takesIn K (.ref p_C_period) = some true)
    (pr_C_period : PySem.W.recIn K p_C_period "property" = some (.ref f_C_period :: r_C_period))
    (l_C_period : K.lookup f_C_period = some ⟨oc_C_period, od_C_period, .func (PySem.W.fnOf "period" "Curve.period" (defArgs s_C_period) (defBody s_C_period) (defScope s_C_period) .none kV_C_period dc_C_period pm_C_period an_C_period cd_C_period ct_C_period), sl_C_period⟩)
    (c_C_period : PySem.W.codeIn K cd_C_period "Curve.period" = true)
    (k_C_period : PySem.W.keepIn K (.ref f_C_period) = true)
    (a_C_gain : PySem.W.findIn K (.ref C_Curve) "gain" = some (some (.ref p_C_gain)))
    (pg_C_gain : PySem.W.specialIn K (.ref p_C_gain) "__get__" = some (some (.builtin "property.__get__")))
    (pt_C_gain : PySem.W.takesIn K (.ref p_C_gain) = some true)
    (pr_C_gain : PySem.W.recIn K p_C_gain "property" = some (.ref f_C_gain :: r_C_gain))
    (l_C_gain : K.lookup f_C_gain = some ⟨oc_C_gain, od_C_gain, .func (PySem.W.fnOf "gain" "Curve.gain" (defArgs s_C_gain) (defBody s_C_gain) (defScope s_C_gain) .none kV_C_gain dc_C_gain pm_C_gain an_C_gain cd_C_gain ct_C_gain), sl_C_gain⟩)
    (c_C_gain : PySem.W.codeIn K cd_C_gain "Curve.gain" = true)
    (k_C_gain : PySem.W.keepIn K (.ref f_C_gain) = true)
    (a_C_first_values : PySem.W.findIn K (.ref C_Curve) "first_values" = some (some (.ref f_C_first_values)))
    (i_C_first_values : PySem.W.isFn K (.ref f_C_first_values) = true)
    (l_C_first_values : K.lookup f_C_first_values = some ⟨oc_C_first_values, od_C_first_values, .func (PySem.W.fnOf "first_values" "Curve.first_values" (defArgs s_C_first_values) (defBody s_C_first_values) (defScope s_C_first_values) .none kV_C_first_values dc_C_first_values pm_C_first_values an_C_first_values cd_C_first_values ct_C_first_values), sl_C_first_values⟩)
    (c_C_first_values : PySem.W.codeIn K cd_C_first_values "Curve.first_values" = true)
    (k_C_first_values : PySem.W.keepIn K (.ref f_C_first_values) = true)
    (a_C_at : PySem.W.findIn K (.ref C_Curve) "at" = some (some (.ref f_C_at)))
    (i_C_at : PySem.W.isFn K (.ref f_C_at) = true)
    (l_C_at : K.lookup f_C_at = some ⟨oc_C_at, od_C_at, .func (PySem.W.fnOf "at" "Curve.at" (defArgs s_C_at) (defBody s_C_at) (defScope s_C_at) .none kV_C_at dc_C_at pm_C_at an_C_at cd_C_at ct_C_at), sl_C_at⟩)
    (c_C_at : PySem.W.codeIn K cd_C_at "Curve.at" = true)
    (k_C_at : PySem.W.keepIn K (.ref f_C_at) = true)
    (a_C_at_most : PySem.W.findIn K (.ref C_Curve) "at_most" = some (some (.ref f_C_at_most)))
    (i_C_at_most : PySem.W.isFn K (.ref f_C_at_most) = true)
    (l_C_at_most : K.lookup f_C_at_most = some ⟨oc_C_at_most, od_C_at_most, .func (PySem.W.fnOf "at_most" "Curve.at_most" (defArgs s_C_at_most) (defBody s_C_at_most) (defScope s_C_at_most) .none kV_C_at_most dc_C_at_most pm_C_at_most an_C_at_most cd_C_at_most ct_C_at_most), sl_C_at_most⟩)
    (c_C_at_most : PySem.W.codeIn K cd_C_at_most "Curve.at_most" = true)
    (k_C_at_most : PySem.W.keepIn K (.ref f_C_at_most) = true)
    (a_C_later : PySem.W.findIn K (.ref C_Curve) "later" = some (some (.ref f_C_later)))
    (i_C_later : PySem.W.isFn K (.ref f_C_later) = true)
    (l_C_later : K.lookup f_C_later = some ⟨oc_C_later, od_C_later, .func (PySem.W.fnOf "later" "Curve.later" (defArgs s_C_later) (defBody s_C_later) (defScope s_C_later) .none kV_C_later dc_C_later pm_C_later an_C_later cd_C_later ct_C_later), sl_C_later⟩)
    (c_C_later : PySem.W.codeIn K cd_C_later "Curve.later" = true)
    (k_C_later : PySem.W.keepIn K (.ref f_C_later) = true)
    (a_make_curve : PySem.W.nsIn K mainGlobals "make_curve" = some (some (.ref f_make_curve)))
    (l_make_curve : K.lookup f_make_curve = some ⟨oc_make_curve, od_make_curve, .func (PySem.W.fnOf "make_curve" "make_curve" (defArgs s_make_curve) (defBody s_make_curve) (defScope s_make_curve) .none kV_make_curve dc_make_curve pm_make_curve an_make_curve cd_make_curve ct_make_curve), sl_make_curve⟩)
    (c_make_curve : PySem.W.codeIn K cd_make_curve "make_curve" = true)
    (k_make_curve : PySem.W.keepIn K (.ref f_make_curve) = true)
    (a_find_problem : PySem.W.nsIn K mainGlobals "find_problem" = some (some (.ref f_find_problem)))
    (l_find_problem : K.lookup f_find_problem = some ⟨oc_find_problem, od_find_problem, .func (PySem.W.fnOf "find_problem" "find_problem" (defArgs s_find_problem) (defBody s_find_problem) (defScope s_find_problem) .none kV_find_problem dc_find_problem pm_find_problem an_find_problem cd_find_problem ct_find_problem), sl_find_problem⟩)
    (c_find_problem : PySem.W.codeIn K cd_find_problem "find_problem" = true)
    (k_find_problem : PySem.W.keepIn K (.ref f_find_problem) = true)
    (a_common_writing : PySem.W.nsIn K mainGlobals "common_writing" = some (some (.ref f_common_writing)))
    (l_common_writing : K.lookup f_common_writing = some ⟨oc_common_writing, od_common_writing, .func (PySem.W.fnOf "common_writing" "common_writing" (defArgs s_common_writing) (defBody s_common_writing) (defScope s_common_writing) .none kV_common_writing dc_common_writing pm_common_writing an_common_writing cd_common_writing ct_common_writing), sl_common_writing⟩)
    (c_common_writing : PySem.W.codeIn K cd_common_writing "common_writing" = true)
    (k_common_writing : PySem.W.keepIn K (.ref f_common_writing) = true)
    (a_gain_in : PySem.W.nsIn K mainGlobals "gain_in" = some (some (.ref f_gain_in)))
    (l_gain_in : K.lookup f_gain_in = some ⟨oc_gain_in, od_gain_in, .func (PySem.W.fnOf "gain_in" "gain_in" (defArgs s_gain_in) (defBody s_gain_in) (defScope s_gain_in) .none kV_gain_in dc_gain_in pm_gain_in an_gain_in cd_gain_in ct_gain_in), sl_gain_in⟩)
    (c_gain_in : PySem.W.codeIn K cd_gain_in "gain_in" = true)
    (k_gain_in : PySem.W.keepIn K (.ref f_gain_in) = true)
    (a_l_rng : PySem.W.nsIn K mainGlobals "_law_rng" = some (some (.ref f_l_rng)))
    (l_l_rng : K.lookup f_l_rng = some ⟨oc_l_rng, od_l_rng, .func (PySem.W.fnOf "_law_rng" "_law_rng" (defArgs s_l_rng) (defBody s_l_rng) (defScope s_l_rng) .none kV_l_rng dc_l_rng pm_l_rng an_l_rng cd_l_rng ct_l_rng), sl_l_rng⟩)
    (c_l_rng : PySem.W.codeIn K cd_l_rng "_law_rng" = true)
    (k_l_rng : PySem.W.keepIn K (.ref f_l_rng) = true)
    (a_l_draw : PySem.W.nsIn K mainGlobals "_law_draw" = some (some (.ref f_l_draw)))
    (l_l_draw : K.lookup f_l_draw = some ⟨oc_l_draw, od_l_draw, .func (PySem.W.fnOf "_law_draw" "_law_draw" (defArgs s_l_draw) (defBody s_l_draw) (defScope s_l_draw) .none kV_l_draw dc_l_draw pm_l_draw an_l_draw cd_l_draw ct_l_draw), sl_l_draw⟩)
    (c_l_draw : PySem.W.codeIn K cd_l_draw "_law_draw" = true)
    (k_l_draw : PySem.W.keepIn K (.ref f_l_draw) = true)
    (a_l_choice : PySem.W.nsIn K mainGlobals "_law_choice" = some (some (.ref f_l_choice)))
    (l_l_choice : K.lookup f_l_choice = some ⟨oc_l_choice, od_l_choice, .func (PySem.W.fnOf "_law_choice" "_law_choice" (defArgs s_l_choice) (defBody s_l_choice) (defScope s_l_choice) .none kV_l_choice dc_l_choice pm_l_choice an_l_choice cd_l_choice ct_l_choice), sl_l_choice⟩)
    (c_l_choice : PySem.W.codeIn K cd_l_choice "_law_choice" = true)
    (k_l_choice : PySem.W.keepIn K (.ref f_l_choice) = true)
    (a_l_at : PySem.W.nsIn K mainGlobals "_law_at" = some (some (.ref f_l_at)))
    (l_l_at : K.lookup f_l_at = some ⟨oc_l_at, od_l_at, .func (PySem.W.fnOf "_law_at" "_law_at" (defArgs s_l_at) (defBody s_l_at) (defScope s_l_at) .none kV_l_at dc_l_at pm_l_at an_l_at cd_l_at ct_l_at), sl_l_at⟩)
    (c_l_at : PySem.W.codeIn K cd_l_at "_law_at" = true)
    (k_l_at : PySem.W.keepIn K (.ref f_l_at) = true)
    (a_l_any_row : PySem.W.nsIn K mainGlobals "_law_any_row" = some (some (.ref f_l_any_row)))
    (l_l_any_row : K.lookup f_l_any_row = some ⟨oc_l_any_row, od_l_any_row, .func (PySem.W.fnOf "_law_any_row" "_law_any_row" (defArgs s_l_any_row) (defBody s_l_any_row) (defScope s_l_any_row) .none kV_l_any_row dc_l_any_row pm_l_any_row an_l_any_row cd_l_any_row ct_l_any_row), sl_l_any_row⟩)
    (c_l_any_row : PySem.W.codeIn K cd_l_any_row "_law_any_row" = true)
    (k_l_any_row : PySem.W.keepIn K (.ref f_l_any_row) = true)
    (a_l_curve : PySem.W.nsIn K mainGlobals "_law_curve" = some (some (.ref f_l_curve)))
    (l_l_curve : K.lookup f_l_curve = some ⟨oc_l_curve, od_l_curve, .func (PySem.W.fnOf "_law_curve" "_law_curve" (defArgs s_l_curve) (defBody s_l_curve) (defScope s_l_curve) .none kV_l_curve dc_l_curve pm_l_curve an_l_curve cd_l_curve ct_l_curve), sl_l_curve⟩)
    (c_l_curve : PySem.W.codeIn K cd_l_curve "_law_curve" = true)
    (k_l_curve : PySem.W.keepIn K (.ref f_l_curve) = true)
    (a_l_near : PySem.W.nsIn K mainGlobals "_law_near" = some (some (.ref f_l_near)))
    (l_l_near : K.lookup f_l_near = some ⟨oc_l_near, od_l_near, .func (PySem.W.fnOf "_law_near" "_law_near" (defArgs s_l_near) (defBody s_l_near) (defScope s_l_near) .none kV_l_near dc_l_near pm_l_near an_l_near cd_l_near ct_l_near), sl_l_near⟩)
    (c_l_near : PySem.W.codeIn K cd_l_near "_law_near" = true)
    (k_l_near : PySem.W.keepIn K (.ref f_l_near) = true)
    (a_l_lengths : PySem.W.nsIn K mainGlobals "_law_lengths" = some (some (.ref f_l_lengths)))
    (l_l_lengths : K.lookup f_l_lengths = some ⟨oc_l_lengths, od_l_lengths, .func (PySem.W.fnOf "_law_lengths" "_law_lengths" (defArgs s_l_lengths) (defBody s_l_lengths) (defScope s_l_lengths) .none kV_l_lengths dc_l_lengths pm_l_lengths an_l_lengths cd_l_lengths ct_l_lengths), sl_l_lengths⟩)
    (c_l_lengths : PySem.W.codeIn K cd_l_lengths "_law_lengths" = true)
    (k_l_lengths : PySem.W.keepIn K (.ref f_l_lengths) = true)
    (a_l_later_at : PySem.W.nsIn K mainGlobals "_law_later_at" = some (some (.ref f_l_later_at)))
    (l_l_later_at : K.lookup f_l_later_at = some ⟨oc_l_later_at, od_l_later_at, .func (PySem.W.fnOf "_law_later_at" "_law_later_at" (defArgs s_l_later_at) (defBody s_l_later_at) (defScope s_l_later_at) .none kV_l_later_at dc_l_later_at pm_l_later_at an_l_later_at cd_l_later_at ct_l_later_at), sl_l_later_at⟩)
    (c_l_later_at : PySem.W.codeIn K cd_l_later_at "_law_later_at" = true)
    (k_l_later_at : PySem.W.keepIn K (.ref f_l_later_at) = true)
    (a_l_is_at_most : PySem.W.nsIn K mainGlobals "_law_is_at_most" = some (some (.ref f_l_is_at_most)))
    (l_l_is_at_most : K.lookup f_l_is_at_most = some ⟨oc_l_is_at_most, od_l_is_at_most, .func (PySem.W.fnOf "_law_is_at_most" "_law_is_at_most" (defArgs s_l_is_at_most) (defBody s_l_is_at_most) (defScope s_l_is_at_most) .none kV_l_is_at_most dc_l_is_at_most pm_l_is_at_most an_l_is_at_most cd_l_is_at_most ct_l_is_at_most), sl_l_is_at_most⟩)
    (c_l_is_at_most : PySem.W.codeIn K cd_l_is_at_most "_law_is_at_most" = true)
    (k_l_is_at_most : PySem.W.keepIn K (.ref f_l_is_at_most) = true)
    (a_l_sum_row : PySem.W.nsIn K mainGlobals "_law_sum_row" = some (some (.ref f_l_sum_row)))
    (l_l_sum_row : K.lookup f_l_sum_row = some ⟨oc_l_sum_row, od_l_sum_row, .func (PySem.W.fnOf "_law_sum_row" "_law_sum_row" (defArgs s_l_sum_row) (defBody s_l_sum_row) (defScope s_l_sum_row) .none kV_l_sum_row dc_l_sum_row pm_l_sum_row an_l_sum_row cd_l_sum_row ct_l_sum_row), sl_l_sum_row⟩)
    (c_l_sum_row : PySem.W.codeIn K cd_l_sum_row "_law_sum_row" = true)
    (k_l_sum_row : PySem.W.keepIn K (.ref f_l_sum_row) = true)
    (a_l_is_written : PySem.W.nsIn K mainGlobals "_law_is_written" = some (some (.ref f_l_is_written)))
    (l_l_is_written : K.lookup f_l_is_written = some ⟨oc_l_is_written, od_l_is_written, .func (PySem.W.fnOf "_law_is_written" "_law_is_written" (defArgs s_l_is_written) (defBody s_l_is_written) (defScope s_l_is_written) .none kV_l_is_written dc_l_is_written pm_l_is_written an_l_is_written cd_l_is_written ct_l_is_written), sl_l_is_written⟩)
    (c_l_is_written : PySem.W.codeIn K cd_l_is_written "_law_is_written" = true)
    (k_l_is_written : PySem.W.keepIn K (.ref f_l_is_written) = true)
    (a_l_sums_right : PySem.W.nsIn K mainGlobals "_law_sums_right" = some (some (.ref f_l_sums_right)))
    (l_l_sums_right : K.lookup f_l_sums_right = some ⟨oc_l_sums_right, od_l_sums_right, .func (PySem.W.fnOf "_law_sums_right" "_law_sums_right" (defArgs s_l_sums_right) (defBody s_l_sums_right) (defScope s_l_sums_right) .none kV_l_sums_right dc_l_sums_right pm_l_sums_right an_l_sums_right cd_l_sums_right ct_l_sums_right), sl_l_sums_right⟩)
    (c_l_sums_right : PySem.W.codeIn K cd_l_sums_right "_law_sums_right" = true)
    (k_l_sums_right : PySem.W.keepIn K (.ref f_l_sums_right) = true)
    (a_l_most_right : PySem.W.nsIn K mainGlobals "_law_most_right" = some (some (.ref f_l_most_right)))
    (l_l_most_right : K.lookup f_l_most_right = some ⟨oc_l_most_right, od_l_most_right, .func (PySem.W.fnOf "_law_most_right" "_law_most_right" (defArgs s_l_most_right) (defBody s_l_most_right) (defScope s_l_most_right) .none kV_l_most_right dc_l_most_right pm_l_most_right an_l_most_right cd_l_most_right ct_l_most_right), sl_l_most_right⟩)
    (c_l_most_right : PySem.W.codeIn K cd_l_most_right "_law_most_right" = true)
    (k_l_most_right : PySem.W.keepIn K (.ref f_l_most_right) = true)
    (a_l_later_right : PySem.W.nsIn K mainGlobals "_law_later_right" = some (some (.ref f_l_later_right)))
    (l_l_later_right : K.lookup f_l_later_right = some ⟨oc_l_later_right, od_l_later_right, .func (PySem.W.fnOf "_law_later_right" "_law_later_right" (defArgs s_l_later_right) (defBody s_l_later_right) (defScope s_l_later_right) .none kV_l_later_right dc_l_later_right pm_l_later_right an_l_later_right cd_l_later_right ct_l_later_right), sl_l_later_right⟩)
    (c_l_later_right : PySem.W.codeIn K cd_l_later_right "_law_later_right" = true)
    (k_l_later_right : PySem.W.keepIn K (.ref f_l_later_right) = true)
    (a_l_later_refused : PySem.W.nsIn K mainGlobals "_law_later_refused" = some (some (.ref f_l_later_refused)))
    (l_l_later_refused : K.lookup f_l_later_refused = some ⟨oc_l_later_refused, od_l_later_refused, .func (PySem.W.fnOf "_law_later_refused" "_law_later_refused" (defArgs s_l_later_refused) (defBody s_l_later_refused) (defScope s_l_later_refused) .none kV_l_later_refused dc_l_later_refused pm_l_later_refused an_l_later_refused cd_l_later_refused ct_l_later_refused), sl_l_later_refused⟩)
    (c_l_later_refused : PySem.W.codeIn K cd_l_later_refused "_law_later_refused" = true)
    (k_l_later_refused : PySem.W.keepIn K (.ref f_l_later_refused) = true)
    (a_l_right : PySem.W.nsIn K mainGlobals "_law_right" = some (some (.ref f_l_right)))
    (l_l_right : K.lookup f_l_right = some ⟨oc_l_right, od_l_right, .func (PySem.W.fnOf "_law_right" "_law_right" (defArgs s_l_right) (defBody s_l_right) (defScope s_l_right) .none kV_l_right dc_l_right pm_l_right an_l_right cd_l_right ct_l_right), sl_l_right⟩)
    (c_l_right : PySem.W.codeIn K cd_l_right "_law_right" = true)
    (k_l_right : PySem.W.keepIn K (.ref f_l_right) = true)
    (a_law : PySem.W.nsIn K mainGlobals "law" = some (some (.ref f_law)))
    (l_law : K.lookup f_law = some ⟨oc_law, od_law, .func (PySem.W.fnOf "law" "law" (defArgs s_law) (defBody s_law) (defScope s_law) .none kV_law dc_law pm_law an_law cd_law ct_law), sl_law⟩)
    (c_law : PySem.W.codeIn K cd_law "law" = true)
    (k_law : PySem.W.keepIn K (.ref f_law) = true)
    (v_MAX_LATER : PySem.W.nsIn K mainGlobals "MAX_LATER" = some (some (.int 100 t_MAX_LATER)))
    (v_MAX_VALUE : PySem.W.nsIn K mainGlobals "MAX_VALUE" = some (some (.int 2000 t_MAX_VALUE)))
    (v_MAX_VALUES : PySem.W.nsIn K mainGlobals "MAX_VALUES" = some (some (.int 24 t_MAX_VALUES)))
    (v_PERIODS : PySem.W.nsIn K mainGlobals "PERIODS" = some (some (.ref a_PERIODS)))
    (l_PERIODS : K.lookup a_PERIODS = some ⟨.type "tuple", od_PERIODS, .seq #[.int 1 uPERIODS0, .int 2 uPERIODS1, .int 3 uPERIODS2, .int 4 uPERIODS3, .int 6 uPERIODS4, .int 12 uPERIODS5] n_PERIODS, sl_PERIODS⟩)
    (z_abs : PySem.W.nsIn K mainGlobals "abs" = some none)
    (z_all : PySem.W.nsIn K mainGlobals "all" = some none)
    (z_bool : PySem.W.nsIn K mainGlobals "bool" = some none)
    (z_divmod : PySem.W.nsIn K mainGlobals "divmod" = some none)
    (z_enumerate : PySem.W.nsIn K mainGlobals "enumerate" = some none)
    (z_int : PySem.W.nsIn K mainGlobals "int" = some none)
    (z_isinstance : PySem.W.nsIn K mainGlobals "isinstance" = some none)
    (z_len : PySem.W.nsIn K mainGlobals "len" = some none)
    (z_list : PySem.W.nsIn K mainGlobals "list" = some none)
    (z_max : PySem.W.nsIn K mainGlobals "max" = some none)
    (z_min : PySem.W.nsIn K mainGlobals "min" = some none)
    (z_range : PySem.W.nsIn K mainGlobals "range" = some none)
    (z_repr : PySem.W.nsIn K mainGlobals "repr" = some none)
    (z_zip : PySem.W.nsIn K mainGlobals "zip" = some none)
    : ∃ fd : FuncData, (∀ (s : Shared) (v : Value), BindsTo s fd ⟨[v], []⟩ [("_law_script", v)]) ∧ ∀ base : Heap, K.In base → base.Ns mainGlobals mg → VG.FnG l.prog w K mg base CX0 13 fa fd ["_law_script"] (spL K) := by
  have e := hfa.symm.trans (PySem.W.mg_of X G a_law)
  cases e
  let A : Ad := {
    DueError := C_DueError,
    InvalidCurve := C_InvalidCurve,
    InvalidLength := C_InvalidLength,
    InvalidPiece := C_InvalidPiece,
    InvalidCount := C_InvalidCount,
    Curve := C_Curve,
    f_InvalidCount_init := f_InvalidCount_init,
    d_InvalidCount_init := PySem.W.fnOf "__init__" "InvalidCount.__init__" (defArgs s_InvalidCount_init) (defBody s_InvalidCount_init) (defScope s_InvalidCount_init) .none kV_InvalidCount_init dc_InvalidCount_init pm_InvalidCount_init an_InvalidCount_init cd_InvalidCount_init ct_InvalidCount_init,
    f_is_integer := f_is_integer,
    d_is_integer := PySem.W.fnOf "is_integer" "is_integer" (defArgs s_is_integer) (defBody s_is_integer) (defScope s_is_integer) .none kV_is_integer dc_is_integer pm_is_integer an_is_integer cd_is_integer ct_is_integer,
    f_is_count := f_is_count,
    d_is_count := PySem.W.fnOf "is_count" "is_count" (defArgs s_is_count) (defBody s_is_count) (defScope s_is_count) .none kV_is_count dc_is_count pm_is_count an_is_count cd_is_count ct_is_count,
    f_is_count_to := f_is_count_to,
    d_is_count_to := PySem.W.fnOf "is_count_to" "is_count_to" (defArgs s_is_count_to) (defBody s_is_count_to) (defScope s_is_count_to) .none kV_is_count_to dc_is_count_to pm_is_count_to an_is_count_to cd_is_count_to ct_is_count_to,
    f_require_count_to := f_require_count_to,
    d_require_count_to := PySem.W.fnOf "require_count_to" "require_count_to" (defArgs s_require_count_to) (defBody s_require_count_to) (defScope s_require_count_to) .none kV_require_count_to dc_require_count_to pm_require_count_to an_require_count_to cd_require_count_to ct_require_count_to,
    f_rounded_up := f_rounded_up,
    d_rounded_up := PySem.W.fnOf "rounded_up" "rounded_up" (defArgs s_rounded_up) (defBody s_rounded_up) (defScope s_rounded_up) .none kV_rounded_up dc_rounded_up pm_rounded_up an_rounded_up cd_rounded_up ct_rounded_up,
    f_value_at := f_value_at,
    d_value_at := PySem.W.fnOf "value_at" "value_at" (defArgs s_value_at) (defBody s_value_at) (defScope s_value_at) .none kV_value_at dc_value_at pm_value_at an_value_at cd_value_at ct_value_at,
    f_least_form := f_least_form,
    d_least_form := PySem.W.fnOf "least_form" "least_form" (defArgs s_least_form) (defBody s_least_form) (defScope s_least_form) .none kV_least_form dc_least_form pm_least_form an_least_form cd_least_form ct_least_form,
    f_least_period := f_least_period,
    d_least_period := PySem.W.fnOf "least_period" "least_period" (defArgs s_least_period) (defBody s_least_period) (defScope s_least_period) .none kV_least_period dc_least_period pm_least_period an_least_period cd_least_period ct_least_period,
    f_C_init := f_C_init,
    d_C_init := PySem.W.fnOf "__init__" "Curve.__init__" (defArgs s_C_init) (defBody s_C_init) (defScope s_C_init) .none (.ref D_C_init) dc_C_init pm_C_init an_C_init cd_C_init ct_C_init,
    f_C_eq := f_C_eq,
    d_C_eq := PySem.W.fnOf "__eq__" "Curve.__eq__" (defArgs s_C_eq) (defBody s_C_eq) (defScope s_C_eq) .none kV_C_eq dc_C_eq pm_C_eq an_C_eq cd_C_eq ct_C_eq,
    f_C_repr := f_C_repr,
    d_C_repr := PySem.W.fnOf "__repr__" "Curve.__repr__" (defArgs s_C_repr) (defBody s_C_repr) (defScope s_C_repr) .none kV_C_repr dc_C_repr pm_C_repr an_C_repr cd_C_repr ct_C_repr,
    f_C_add := f_C_add,
    d_C_add := PySem.W.fnOf "__add__" "Curve.__add__" (defArgs s_C_add) (defBody s_C_add) (defScope s_C_add) .none kV_C_add dc_C_add pm_C_add an_C_add cd_C_add ct_C_add,
    p_C_period := p_C_period,
    f_C_period := f_C_period,
    d_C_period := PySem.W.fnOf "period" "Curve.period" (defArgs s_C_period) (defBody s_C_period) (defScope s_C_period) .none kV_C_period dc_C_period pm_C_period an_C_period cd_C_period ct_C_period,
    p_C_gain := p_C_gain,
    f_C_gain := f_C_gain,
    d_C_gain := PySem.W.fnOf "gain" "Curve.gain" (defArgs s_C_gain) (defBody s_C_gain) (defScope s_C_gain) .none kV_C_gain dc_C_gain pm_C_gain an_C_gain cd_C_gain ct_C_gain,
    f_C_first_values := f_C_first_values,
    d_C_first_values := PySem.W.fnOf "first_values" "Curve.first_values" (defArgs s_C_first_values) (defBody s_C_first_values) (defScope s_C_first_values) .none kV_C_first_values dc_C_first_values pm_C_first_values an_C_first_values cd_C_first_values ct_C_first_values,
    f_C_at := f_C_at,
    d_C_at := PySem.W.fnOf "at" "Curve.at" (defArgs s_C_at) (defBody s_C_at) (defScope s_C_at) .none kV_C_at dc_C_at pm_C_at an_C_at cd_C_at ct_C_at,
    f_C_at_most := f_C_at_most,
    d_C_at_most := PySem.W.fnOf "at_most" "Curve.at_most" (defArgs s_C_at_most) (defBody s_C_at_most) (defScope s_C_at_most) .none kV_C_at_most dc_C_at_most pm_C_at_most an_C_at_most cd_C_at_most ct_C_at_most,
    f_C_later := f_C_later,
    d_C_later := PySem.W.fnOf "later" "Curve.later" (defArgs s_C_later) (defBody s_C_later) (defScope s_C_later) .none kV_C_later dc_C_later pm_C_later an_C_later cd_C_later ct_C_later,
    f_make_curve := f_make_curve,
    d_make_curve := PySem.W.fnOf "make_curve" "make_curve" (defArgs s_make_curve) (defBody s_make_curve) (defScope s_make_curve) .none kV_make_curve dc_make_curve pm_make_curve an_make_curve cd_make_curve ct_make_curve,
    f_find_problem := f_find_problem,
    d_find_problem := PySem.W.fnOf "find_problem" "find_problem" (defArgs s_find_problem) (defBody s_find_problem) (defScope s_find_problem) .none kV_find_problem dc_find_problem pm_find_problem an_find_problem cd_find_problem ct_find_problem,
    f_common_writing := f_common_writing,
    d_common_writing := PySem.W.fnOf "common_writing" "common_writing" (defArgs s_common_writing) (defBody s_common_writing) (defScope s_common_writing) .none kV_common_writing dc_common_writing pm_common_writing an_common_writing cd_common_writing ct_common_writing,
    f_gain_in := f_gain_in,
    d_gain_in := PySem.W.fnOf "gain_in" "gain_in" (defArgs s_gain_in) (defBody s_gain_in) (defScope s_gain_in) .none kV_gain_in dc_gain_in pm_gain_in an_gain_in cd_gain_in ct_gain_in,
    f_l_rng := f_l_rng,
    d_l_rng := PySem.W.fnOf "_law_rng" "_law_rng" (defArgs s_l_rng) (defBody s_l_rng) (defScope s_l_rng) .none kV_l_rng dc_l_rng pm_l_rng an_l_rng cd_l_rng ct_l_rng,
    f_l_draw := f_l_draw,
    d_l_draw := PySem.W.fnOf "_law_draw" "_law_draw" (defArgs s_l_draw) (defBody s_l_draw) (defScope s_l_draw) .none kV_l_draw dc_l_draw pm_l_draw an_l_draw cd_l_draw ct_l_draw,
    f_l_choice := f_l_choice,
    d_l_choice := PySem.W.fnOf "_law_choice" "_law_choice" (defArgs s_l_choice) (defBody s_l_choice) (defScope s_l_choice) .none kV_l_choice dc_l_choice pm_l_choice an_l_choice cd_l_choice ct_l_choice,
    f_l_at := f_l_at,
    d_l_at := PySem.W.fnOf "_law_at" "_law_at" (defArgs s_l_at) (defBody s_l_at) (defScope s_l_at) .none kV_l_at dc_l_at pm_l_at an_l_at cd_l_at ct_l_at,
    f_l_any_row := f_l_any_row,
    d_l_any_row := PySem.W.fnOf "_law_any_row" "_law_any_row" (defArgs s_l_any_row) (defBody s_l_any_row) (defScope s_l_any_row) .none kV_l_any_row dc_l_any_row pm_l_any_row an_l_any_row cd_l_any_row ct_l_any_row,
    f_l_curve := f_l_curve,
    d_l_curve := PySem.W.fnOf "_law_curve" "_law_curve" (defArgs s_l_curve) (defBody s_l_curve) (defScope s_l_curve) .none kV_l_curve dc_l_curve pm_l_curve an_l_curve cd_l_curve ct_l_curve,
    f_l_near := f_l_near,
    d_l_near := PySem.W.fnOf "_law_near" "_law_near" (defArgs s_l_near) (defBody s_l_near) (defScope s_l_near) .none kV_l_near dc_l_near pm_l_near an_l_near cd_l_near ct_l_near,
    f_l_lengths := f_l_lengths,
    d_l_lengths := PySem.W.fnOf "_law_lengths" "_law_lengths" (defArgs s_l_lengths) (defBody s_l_lengths) (defScope s_l_lengths) .none kV_l_lengths dc_l_lengths pm_l_lengths an_l_lengths cd_l_lengths ct_l_lengths,
    f_l_later_at := f_l_later_at,
    d_l_later_at := PySem.W.fnOf "_law_later_at" "_law_later_at" (defArgs s_l_later_at) (defBody s_l_later_at) (defScope s_l_later_at) .none kV_l_later_at dc_l_later_at pm_l_later_at an_l_later_at cd_l_later_at ct_l_later_at,
    f_l_is_at_most := f_l_is_at_most,
    d_l_is_at_most := PySem.W.fnOf "_law_is_at_most" "_law_is_at_most" (defArgs s_l_is_at_most) (defBody s_l_is_at_most) (defScope s_l_is_at_most) .none kV_l_is_at_most dc_l_is_at_most pm_l_is_at_most an_l_is_at_most cd_l_is_at_most ct_l_is_at_most,
    f_l_sum_row := f_l_sum_row,
    d_l_sum_row := PySem.W.fnOf "_law_sum_row" "_law_sum_row" (defArgs s_l_sum_row) (defBody s_l_sum_row) (defScope s_l_sum_row) .none kV_l_sum_row dc_l_sum_row pm_l_sum_row an_l_sum_row cd_l_sum_row ct_l_sum_row,
    f_l_is_written := f_l_is_written,
    d_l_is_written := PySem.W.fnOf "_law_is_written" "_law_is_written" (defArgs s_l_is_written) (defBody s_l_is_written) (defScope s_l_is_written) .none kV_l_is_written dc_l_is_written pm_l_is_written an_l_is_written cd_l_is_written ct_l_is_written,
    f_l_sums_right := f_l_sums_right,
    d_l_sums_right := PySem.W.fnOf "_law_sums_right" "_law_sums_right" (defArgs s_l_sums_right) (defBody s_l_sums_right) (defScope s_l_sums_right) .none kV_l_sums_right dc_l_sums_right pm_l_sums_right an_l_sums_right cd_l_sums_right ct_l_sums_right,
    f_l_most_right := f_l_most_right,
    d_l_most_right := PySem.W.fnOf "_law_most_right" "_law_most_right" (defArgs s_l_most_right) (defBody s_l_most_right) (defScope s_l_most_right) .none kV_l_most_right dc_l_most_right pm_l_most_right an_l_most_right cd_l_most_right ct_l_most_right,
    f_l_later_right := f_l_later_right,
    d_l_later_right := PySem.W.fnOf "_law_later_right" "_law_later_right" (defArgs s_l_later_right) (defBody s_l_later_right) (defScope s_l_later_right) .none kV_l_later_right dc_l_later_right pm_l_later_right an_l_later_right cd_l_later_right ct_l_later_right,
    f_l_later_refused := f_l_later_refused,
    d_l_later_refused := PySem.W.fnOf "_law_later_refused" "_law_later_refused" (defArgs s_l_later_refused) (defBody s_l_later_refused) (defScope s_l_later_refused) .none kV_l_later_refused dc_l_later_refused pm_l_later_refused an_l_later_refused cd_l_later_refused ct_l_later_refused,
    f_l_right := f_l_right,
    d_l_right := PySem.W.fnOf "_law_right" "_law_right" (defArgs s_l_right) (defBody s_l_right) (defScope s_l_right) .none kV_l_right dc_l_right pm_l_right an_l_right cd_l_right ct_l_right,
    f_law := fa,
    d_law := PySem.W.fnOf "law" "law" (defArgs s_law) (defBody s_law) (defScope s_law) .none kV_law dc_law pm_law an_law cd_law ct_law,
    t_MAX_LATER := t_MAX_LATER,
    t_MAX_VALUE := t_MAX_VALUE,
    t_MAX_VALUES := t_MAX_VALUES,
    a_PERIODS := a_PERIODS }
  have T : Txt K mg A := {
    m_DueError := PySem.W.mg_of X G g_DueError,
    m_InvalidCurve := PySem.W.mg_of X G g_InvalidCurve,
    m_InvalidLength := PySem.W.mg_of X G g_InvalidLength,
    m_InvalidPiece := PySem.W.mg_of X G g_InvalidPiece,
    m_InvalidCount := PySem.W.mg_of X G g_InvalidCount,
    O_InvalidCount := ⟨⟨_, _, _, _, VX.bsV, xi_InvalidCount, xo_InvalidCount⟩, hd_InvalidCount, sa_InvalidCount, xe_InvalidCount, ty_InvalidCount, kc_InvalidCount⟩,
    xf_InvalidCount := ⟨ga_InvalidCount, gt_InvalidCount, xe_InvalidCount, hd_InvalidCount⟩,
    as_InvalidCount := ⟨VX.isC hd_InvalidCount, ga_InvalidCount, gt_InvalidCount, xe_InvalidCount, cc_InvalidCount, q_gn, q_tk, mr_InvalidCount⟩,
    ex_InvalidCount := PySem.W.exm_ref xe_InvalidCount hd_InvalidCount ty_InvalidCount xm_InvalidCount,
    n_InvalidCount_value := n_InvalidCount_value,
    ex_InvalidCount_DueError := PySem.W.exm_ref xe_DueError hd_DueError ty_DueError xm_InvalidCount_DueError,
    fun_lcm := PySem.W.mg_of X G fun_lcm,
    kt_InvalidCount_InvalidCount := kt_InvalidCount_InvalidCount,
    kt_InvalidCount_InvalidCurve_InvalidLength_InvalidPiece := kt_InvalidCount_InvalidCurve_InvalidLength_InvalidPiece,
    m_Curve := PySem.W.mg_of X G g_Curve,
    cl := ⟨pg_Curve, hd_Curve, po_Curve, sa_Curve⟩,
    M_Curve := ⟨mk_Curve, a_C_init, i_C_init, kc_Curve⟩,
    ic_Curve := ⟨ic_Curve, it_Curve, ig_Curve, i_gn, i_tk, io_Curve, ie_Curve⟩,
    sf_Curve := sf_Curve,
    n_values := n_Curve_values,
    n_period := n_Curve_period,
    n_gain := n_Curve_gain,
    n_was_searched := n_Curve_was_searched,
    n_break := n_Curve_break,
    F_InvalidCount_init := fun_mk (st := s_InvalidCount_init) l_InvalidCount_init c_InvalidCount_init k_InvalidCount_init,
    b_InvalidCount_init := ((fun_mk (st := s_InvalidCount_init) l_InvalidCount_init c_InvalidCount_init k_InvalidCount_init).binds (ps := ["self", "value"]) fun _ _ _ _ _ _ us hl => match us, hl with | [_, _], _ => rfl),
    iC_InvalidCount := a_InvalidCount_init,
    tI_InvalidCount := tI_InvalidCount,
    F_is_integer := fun_mk (st := s_is_integer) l_is_integer c_is_integer k_is_integer,
    m_is_integer := PySem.W.mg_of X G a_is_integer,
    k_is_integer := k_is_integer,
    b_is_integer := ((fun_mk (st := s_is_integer) l_is_integer c_is_integer k_is_integer).binds (ps := ["value"]) fun _ _ _ _ _ _ us hl => match us, hl with | [_], _ => rfl),
    F_is_count := fun_mk (st := s_is_count) l_is_count c_is_count k_is_count,
    m_is_count := PySem.W.mg_of X G a_is_count,
    k_is_count := k_is_count,
    b_is_count := ((fun_mk (st := s_is_count) l_is_count c_is_count k_is_count).binds (ps := ["value"]) fun _ _ _ _ _ _ us hl => match us, hl with | [_], _ => rfl),
    F_is_count_to := fun_mk (st := s_is_count_to) l_is_count_to c_is_count_to k_is_count_to,
    m_is_count_to := PySem.W.mg_of X G a_is_count_to,
    k_is_count_to := k_is_count_to,
    b_is_count_to := ((fun_mk (st := s_is_count_to) l_is_count_to c_is_count_to k_is_count_to).binds (ps := ["value", "most"]) fun _ _ _ _ _ _ us hl => match us, hl with | [_, _], _ => rfl),
    F_require_count_to := fun_mk (st := s_require_count_to) l_require_count_to c_require_count_to k_require_count_to,
    m_require_count_to := PySem.W.mg_of X G a_require_count_to,
    k_require_count_to := k_require_count_to,
    b_require_count_to := ((fun_mk (st := s_require_count_to) l_require_count_to c_require_count_to k_require_count_to).binds (ps := ["value", "most"]) fun _ _ _ _ _ _ us hl => match us, hl with | [_, _], _ => rfl),
    F_rounded_up := fun_mk (st := s_rounded_up) l_rounded_up c_rounded_up k_rounded_up,
    m_rounded_up := PySem.W.mg_of X G a_rounded_up,
    k_rounded_up := k_rounded_up,
    b_rounded_up := ((fun_mk (st := s_rounded_up) l_rounded_up c_rounded_up k_rounded_up).binds (ps := ["units", "parts"]) fun _ _ _ _ _ _ us hl => match us, hl with | [_, _], _ => rfl),
    F_value_at := fun_mk (st := s_value_at) l_value_at c_value_at k_value_at,
    m_value_at := PySem.W.mg_of X G a_value_at,
    k_value_at := k_value_at,
    b_value_at := ((fun_mk (st := s_value_at) l_value_at c_value_at k_value_at).binds (ps := ["values", "period", "gain", "length"]) fun _ _ _ _ _ _ us hl => match us, hl with | [_, _, _, _], _ => rfl),
    F_least_form := fun_mk (st := s_least_form) l_least_form c_least_form k_least_form,
    m_least_form := PySem.W.mg_of X G a_least_form,
    k_least_form := k_least_form,
    b_least_form := ((fun_mk (st := s_least_form) l_least_form c_least_form k_least_form).binds (ps := ["values", "period", "gain"]) fun _ _ _ _ _ _ us hl => match us, hl with | [_, _, _], _ => rfl),
    F_least_period := fun_mk (st := s_least_period) l_least_period c_least_period k_least_period,
    m_least_period := PySem.W.mg_of X G a_least_period,
    k_least_period := k_least_period,
    b_least_period := ((fun_mk (st := s_least_period) l_least_period c_least_period k_least_period).binds (ps := ["row", "many", "period"]) fun _ _ _ _ _ _ us hl => match us, hl with | [_, _, _], _ => rfl),
    F_C_init := ⟨⟨_, _, _, _, _, _, _, _, _, _, rfl, l_C_init, c_C_init, .inl ⟨rfl, rfl⟩, .inr ⟨D_C_init, rfl, by
      intro q hq
      simp only [List.mem_cons, List.not_mem_nil, or_false] at hq
      rcases hq with rfl | rfl
      · exact ⟨_, d_C_init_period, ⟨_, rfl⟩⟩
      · exact ⟨_, d_C_init_gain, ⟨_, rfl⟩⟩⟩⟩, k_C_init⟩,
    F_C_eq := fun_mk (st := s_C_eq) l_C_eq c_C_eq k_C_eq,
    b_C_eq := ((fun_mk (st := s_C_eq) l_C_eq c_C_eq k_C_eq).binds (ps := ["self", "other"]) fun _ _ _ _ _ _ us hl => match us, hl with | [_, _], _ => rfl),
    me___eq__ := ⟨a_C_eq, i_C_eq, k_C_eq⟩,
    F_C_repr := fun_mk (st := s_C_repr) l_C_repr c_C_repr k_C_repr,
    b_C_repr := ((fun_mk (st := s_C_repr) l_C_repr c_C_repr k_C_repr).binds (ps := ["self"]) fun _ _ _ _ _ _ us hl => match us, hl with | [_], _ => rfl),
    me___repr__ := ⟨a_C_repr, i_C_repr, k_C_repr⟩,
    F_C_add := fun_mk (st := s_C_add) l_C_add c_C_add k_C_add,
    b_C_add := ((fun_mk (st := s_C_add) l_C_add c_C_add k_C_add).binds (ps := ["self", "other"]) fun _ _ _ _ _ _ us hl => match us, hl with | [_, _], _ => rfl),
    me___add__ := ⟨a_C_add, i_C_add, k_C_add⟩,
    F_C_period := fun_mk (st := s_C_period) l_C_period c_C_period k_C_period,
    b_C_period := ((fun_mk (st := s_C_period) l_C_period c_C_period k_C_period).binds (ps := ["self"]) fun _ _ _ _ _ _ us hl => match us, hl with | [_], _ => rfl),
    pr_C_period := ⟨a_C_period, pg_C_period, pt_C_period, _, pr_C_period⟩,
    F_C_gain := fun_mk (st := s_C_gain) l_C_gain c_C_gain k_C_gain,
    b_C_gain := ((fun_mk (st := s_C_gain) l_C_gain c_C_gain k_C_gain).binds (ps := ["self"]) fun _ _ _ _ _ _ us hl => match us, hl with | [_], _ => rfl),
    pr_C_gain := ⟨a_C_gain, pg_C_gain, pt_C_gain, _, pr_C_gain⟩,
    F_C_first_values := fun_mk (st := s_C_first_values) l_C_first_values c_C_first_values k_C_first_values,
    b_C_first_values := ((fun_mk (st := s_C_first_values) l_C_first_values c_C_first_values k_C_first_values).binds (ps := ["self"]) fun _ _ _ _ _ _ us hl => match us, hl with | [_], _ => rfl),
    me_first_values := ⟨a_C_first_values, i_C_first_values, k_C_first_values⟩,
    F_C_at := fun_mk (st := s_C_at) l_C_at c_C_at k_C_at,
    b_C_at := ((fun_mk (st := s_C_at) l_C_at c_C_at k_C_at).binds (ps := ["self", "length"]) fun _ _ _ _ _ _ us hl => match us, hl with | [_, _], _ => rfl),
    me_at := ⟨a_C_at, i_C_at, k_C_at⟩,
    F_C_at_most := fun_mk (st := s_C_at_most) l_C_at_most c_C_at_most k_C_at_most,
    b_C_at_most := ((fun_mk (st := s_C_at_most) l_C_at_most c_C_at_most k_C_at_most).binds (ps := ["self", "other"]) fun _ _ _ _ _ _ us hl => match us, hl with | [_, _], _ => rfl),
    me_at_most := ⟨a_C_at_most, i_C_at_most, k_C_at_most⟩,
    F_C_later := fun_mk (st := s_C_later) l_C_later c_C_later k_C_later,
    b_C_later := ((fun_mk (st := s_C_later) l_C_later c_C_later k_C_later).binds (ps := ["self", "ticks"]) fun _ _ _ _ _ _ us hl => match us, hl with | [_, _], _ => rfl),
    me_later := ⟨a_C_later, i_C_later, k_C_later⟩,
    F_make_curve := fun_mk (st := s_make_curve) l_make_curve c_make_curve k_make_curve,
    m_make_curve := PySem.W.mg_of X G a_make_curve,
    k_make_curve := k_make_curve,
    b_make_curve := ((fun_mk (st := s_make_curve) l_make_curve c_make_curve k_make_curve).binds (ps := ["values", "period", "gain"]) fun _ _ _ _ _ _ us hl => match us, hl with | [_, _, _], _ => rfl),
    F_find_problem := fun_mk (st := s_find_problem) l_find_problem c_find_problem k_find_problem,
    m_find_problem := PySem.W.mg_of X G a_find_problem,
    k_find_problem := k_find_problem,
    b_find_problem := ((fun_mk (st := s_find_problem) l_find_problem c_find_problem k_find_problem).binds (ps := ["values", "period", "gain"]) fun _ _ _ _ _ _ us hl => match us, hl with | [_, _, _], _ => rfl),
    F_common_writing := fun_mk (st := s_common_writing) l_common_writing c_common_writing k_common_writing,
    m_common_writing := PySem.W.mg_of X G a_common_writing,
    k_common_writing := k_common_writing,
    b_common_writing := ((fun_mk (st := s_common_writing) l_common_writing c_common_writing k_common_writing).binds (ps := ["one", "other"]) fun _ _ _ _ _ _ us hl => match us, hl with | [_, _], _ => rfl),
    F_gain_in := fun_mk (st := s_gain_in) l_gain_in c_gain_in k_gain_in,
    m_gain_in := PySem.W.mg_of X G a_gain_in,
    k_gain_in := k_gain_in,
    b_gain_in := ((fun_mk (st := s_gain_in) l_gain_in c_gain_in k_gain_in).binds (ps := ["curve", "ticks"]) fun _ _ _ _ _ _ us hl => match us, hl with | [_, _], _ => rfl),
    F_l_rng := fun_mk (st := s_l_rng) l_l_rng c_l_rng k_l_rng,
    m_l_rng := PySem.W.mg_of X G a_l_rng,
    k_l_rng := k_l_rng,
    b_l_rng := ((fun_mk (st := s_l_rng) l_l_rng c_l_rng k_l_rng).binds (ps := ["_law_script", "_law_k"]) fun _ _ _ _ _ _ us hl => match us, hl with | [_, _], _ => rfl),
    F_l_draw := fun_mk (st := s_l_draw) l_l_draw c_l_draw k_l_draw,
    m_l_draw := PySem.W.mg_of X G a_l_draw,
    k_l_draw := k_l_draw,
    b_l_draw := ((fun_mk (st := s_l_draw) l_l_draw c_l_draw k_l_draw).binds (ps := ["_law_rng_here", "_law_many"]) fun _ _ _ _ _ _ us hl => match us, hl with | [_, _], _ => rfl),
    F_l_choice := fun_mk (st := s_l_choice) l_l_choice c_l_choice k_l_choice,
    m_l_choice := PySem.W.mg_of X G a_l_choice,
    k_l_choice := k_l_choice,
    b_l_choice := ((fun_mk (st := s_l_choice) l_l_choice c_l_choice k_l_choice).binds (ps := ["_law_rng_here", "_law_some"]) fun _ _ _ _ _ _ us hl => match us, hl with | [_, _], _ => rfl),
    F_l_at := fun_mk (st := s_l_at) l_l_at c_l_at k_l_at,
    m_l_at := PySem.W.mg_of X G a_l_at,
    k_l_at := k_l_at,
    b_l_at := ((fun_mk (st := s_l_at) l_l_at c_l_at k_l_at).binds (ps := ["_law_row", "_law_length"]) fun _ _ _ _ _ _ us hl => match us, hl with | [_, _], _ => rfl),
    F_l_any_row := fun_mk (st := s_l_any_row) l_l_any_row c_l_any_row k_l_any_row,
    m_l_any_row := PySem.W.mg_of X G a_l_any_row,
    k_l_any_row := k_l_any_row,
    b_l_any_row := ((fun_mk (st := s_l_any_row) l_l_any_row c_l_any_row k_l_any_row).binds (ps := ["_law_rng_here", "_law_most"]) fun _ _ _ _ _ _ us hl => match us, hl with | [_, _], _ => rfl),
    F_l_curve := fun_mk (st := s_l_curve) l_l_curve c_l_curve k_l_curve,
    m_l_curve := PySem.W.mg_of X G a_l_curve,
    k_l_curve := k_l_curve,
    b_l_curve := ((fun_mk (st := s_l_curve) l_l_curve c_l_curve k_l_curve).binds (ps := ["_law_row"]) fun _ _ _ _ _ _ us hl => match us, hl with | [_], _ => rfl),
    F_l_near := fun_mk (st := s_l_near) l_l_near c_l_near k_l_near,
    m_l_near := PySem.W.mg_of X G a_l_near,
    k_l_near := k_l_near,
    b_l_near := ((fun_mk (st := s_l_near) l_l_near c_l_near k_l_near).binds (ps := ["_law_rng_here", "_law_row"]) fun _ _ _ _ _ _ us hl => match us, hl with | [_, _], _ => rfl),
    F_l_lengths := fun_mk (st := s_l_lengths) l_l_lengths c_l_lengths k_l_lengths,
    m_l_lengths := PySem.W.mg_of X G a_l_lengths,
    k_l_lengths := k_l_lengths,
    b_l_lengths := ((fun_mk (st := s_l_lengths) l_l_lengths c_l_lengths k_l_lengths).binds (ps := ["_law_rng_here"]) fun _ _ _ _ _ _ us hl => match us, hl with | [_], _ => rfl),
    F_l_later_at := fun_mk (st := s_l_later_at) l_l_later_at c_l_later_at k_l_later_at,
    m_l_later_at := PySem.W.mg_of X G a_l_later_at,
    k_l_later_at := k_l_later_at,
    b_l_later_at := ((fun_mk (st := s_l_later_at) l_l_later_at c_l_later_at k_l_later_at).binds (ps := ["_law_row", "_law_ticks", "_law_length"]) fun _ _ _ _ _ _ us hl => match us, hl with | [_, _, _], _ => rfl),
    F_l_is_at_most := fun_mk (st := s_l_is_at_most) l_l_is_at_most c_l_is_at_most k_l_is_at_most,
    m_l_is_at_most := PySem.W.mg_of X G a_l_is_at_most,
    k_l_is_at_most := k_l_is_at_most,
    b_l_is_at_most := ((fun_mk (st := s_l_is_at_most) l_l_is_at_most c_l_is_at_most k_l_is_at_most).binds (ps := ["_law_one", "_law_ticks", "_law_other", "_law_more"]) fun _ _ _ _ _ _ us hl => match us, hl with | [_, _, _, _], _ => rfl),
    F_l_sum_row := fun_mk (st := s_l_sum_row) l_l_sum_row c_l_sum_row k_l_sum_row,
    m_l_sum_row := PySem.W.mg_of X G a_l_sum_row,
    k_l_sum_row := k_l_sum_row,
    b_l_sum_row := ((fun_mk (st := s_l_sum_row) l_l_sum_row c_l_sum_row k_l_sum_row).binds (ps := ["_law_one", "_law_other"]) fun _ _ _ _ _ _ us hl => match us, hl with | [_, _], _ => rfl),
    F_l_is_written := fun_mk (st := s_l_is_written) l_l_is_written c_l_is_written k_l_is_written,
    m_l_is_written := PySem.W.mg_of X G a_l_is_written,
    k_l_is_written := k_l_is_written,
    b_l_is_written := ((fun_mk (st := s_l_is_written) l_l_is_written c_l_is_written k_l_is_written).binds (ps := ["_law_row"]) fun _ _ _ _ _ _ us hl => match us, hl with | [_], _ => rfl),
    F_l_sums_right := fun_mk (st := s_l_sums_right) l_l_sums_right c_l_sums_right k_l_sums_right,
    m_l_sums_right := PySem.W.mg_of X G a_l_sums_right,
    k_l_sums_right := k_l_sums_right,
    b_l_sums_right := ((fun_mk (st := s_l_sums_right) l_l_sums_right c_l_sums_right k_l_sums_right).binds (ps := ["_law_rng_here", "_law_rows"]) fun _ _ _ _ _ _ us hl => match us, hl with | [_, _], _ => rfl),
    F_l_most_right := fun_mk (st := s_l_most_right) l_l_most_right c_l_most_right k_l_most_right,
    m_l_most_right := PySem.W.mg_of X G a_l_most_right,
    k_l_most_right := k_l_most_right,
    b_l_most_right := ((fun_mk (st := s_l_most_right) l_l_most_right c_l_most_right k_l_most_right).binds (ps := ["_law_rng_here", "_law_rows"]) fun _ _ _ _ _ _ us hl => match us, hl with | [_, _], _ => rfl),
    F_l_later_right := fun_mk (st := s_l_later_right) l_l_later_right c_l_later_right k_l_later_right,
    m_l_later_right := PySem.W.mg_of X G a_l_later_right,
    k_l_later_right := k_l_later_right,
    b_l_later_right := ((fun_mk (st := s_l_later_right) l_l_later_right c_l_later_right k_l_later_right).binds (ps := ["_law_rng_here", "_law_row"]) fun _ _ _ _ _ _ us hl => match us, hl with | [_, _], _ => rfl),
    F_l_later_refused := fun_mk (st := s_l_later_refused) l_l_later_refused c_l_later_refused k_l_later_refused,
    m_l_later_refused := PySem.W.mg_of X G a_l_later_refused,
    k_l_later_refused := k_l_later_refused,
    b_l_later_refused := ((fun_mk (st := s_l_later_refused) l_l_later_refused c_l_later_refused k_l_later_refused).binds (ps := ["_law_rng_here", "_law_row"]) fun _ _ _ _ _ _ us hl => match us, hl with | [_, _], _ => rfl),
    F_l_right := fun_mk (st := s_l_right) l_l_right c_l_right k_l_right,
    m_l_right := PySem.W.mg_of X G a_l_right,
    k_l_right := k_l_right,
    b_l_right := ((fun_mk (st := s_l_right) l_l_right c_l_right k_l_right).binds (ps := ["_law_rng_here"]) fun _ _ _ _ _ _ us hl => match us, hl with | [_], _ => rfl),
    F_law := fun_mk (st := s_law) l_law c_law k_law,
    m_law := PySem.W.mg_of X G a_law,
    k_law := k_law,
    b_law := ((fun_mk (st := s_law) l_law c_law k_law).binds (ps := ["_law_script"]) fun _ _ _ _ _ _ us hl => match us, hl with | [_], _ => rfl),
    v_MAX_LATER := PySem.W.mg_of X G v_MAX_LATER,
    v_MAX_VALUE := PySem.W.mg_of X G v_MAX_VALUE,
    v_MAX_VALUES := PySem.W.mg_of X G v_MAX_VALUES,
    v_PERIODS := PySem.W.mg_of X G v_PERIODS,
    periods := fun H => .inr ⟨_, _, _, l_PERIODS, rfl, rfl, (by rw [sizeLine_eq]; show 6 ≤ _; decide), (.cons ⟨_, rfl⟩ (.cons ⟨_, rfl⟩ (.cons ⟨_, rfl⟩ (.cons ⟨_, rfl⟩ (.cons ⟨_, rfl⟩ (.cons ⟨_, rfl⟩ .nil))))))⟩,
    abs := PySem.W.mg_none_of X G z_abs,
    all := PySem.W.mg_none_of X G z_all,
    bool := PySem.W.mg_none_of X G z_bool,
    divmod := PySem.W.mg_none_of X G z_divmod,
    enumerate := PySem.W.mg_none_of X G z_enumerate,
    int := PySem.W.mg_none_of X G z_int,
    isinstance := PySem.W.mg_none_of X G z_isinstance,
    len := PySem.W.mg_none_of X G z_len,
    list := PySem.W.mg_none_of X G z_list,
    max := PySem.W.mg_none_of X G z_max,
    min := PySem.W.mg_none_of X G z_min,
    range := PySem.W.mg_none_of X G z_range,
    repr := PySem.W.mg_none_of X G z_repr,
    zip := PySem.W.mg_none_of X G z_zip }
  exact ⟨_, fun s v => .of_eq rfl, fun base _ _ => ok_law (P := l.prog) (w := w) (base := base) T⟩
end VK

open PySem PySem.W PyProof.Rows in
set_option maxRecDepth 100000 in
set_option maxHeartbeats 0 in
theorem PySem.Challenge.cw_dueways_k16_sums_later_and_at_most_holds : PySem.Challenge.rw_dueways_k16_sums_later_and_at_most.Holds := by
  w_on; o_law; k_head; (case hw => w_witness2)
  k_fill
  refine VG.walkG (n := 63) (k := 13) (x := "_law_script") (CX := fun _ => L2.CX0) (sp := fun w => VK.spL _) rfl (by decide) rfl ⟨rfl, by decide, by decide⟩ (fun w h Y => PySem.W.kIn_of Y) ?F (fun _ _ a ns hl _ hS => ⟨a, ns, rfl, hS, hl, fun _ => rfl⟩) fun _ _ _ _ _ z => z
  case F =>
    intro w mg fa h KX G hmg
    refine' VK.all_mk KX G hmg ?g_DueError ?g_InvalidCurve ?g_InvalidLength ?g_InvalidPiece ?g_InvalidCount ?xi_InvalidCount ?xo_InvalidCount ?hd_InvalidCount ?sa_InvalidCount ?xe_InvalidCount ?ty_InvalidCount ?kc_InvalidCount ?ga_InvalidCount ?gt_InvalidCount ?cc_InvalidCount ?mr_InvalidCount ?xm_InvalidCount ?n_InvalidCount_value ?q_gn ?q_tk ?xe_DueError ?hd_DueError ?ty_DueError ?xm_InvalidCount_DueError ?fun_lcm ?kt_InvalidCount_InvalidCount ?kt_InvalidCount_InvalidCurve_InvalidLength_InvalidPiece ?g_Curve ?pg_Curve ?hd_Curve ?po_Curve ?sa_Curve ?mk_Curve ?kc_Curve ?ic_Curve ?it_Curve ?ig_Curve ?io_Curve ?ie_Curve ?i_gn ?i_tk ?sf_Curve ?n_Curve_values ?n_Curve_period ?n_Curve_gain ?n_Curve_was_searched ?n_Curve_break ?a_InvalidCount_init ?i_InvalidCount_init ?l_InvalidCount_init ?c_InvalidCount_init ?k_InvalidCount_init ?tI_InvalidCount ?a_is_integer ?l_is_integer ?c_is_integer ?k_is_integer ?a_is_count ?l_is_count ?c_is_count ?k_is_count ?a_is_count_to ?l_is_count_to ?c_is_count_to ?k_is_count_to ?a_require_count_to ?l_require_count_to ?c_require_count_to ?k_require_count_to ?a_rounded_up ?l_rounded_up ?c_rounded_up ?k_rounded_up ?a_value_at ?l_value_at ?c_value_at ?k_value_at ?a_least_form ?l_least_form ?c_least_form ?k_least_form ?a_least_period ?l_least_period ?c_least_period ?k_least_period ?a_C_init ?i_C_init ?l_C_init ?c_C_init ?k_C_init ?d_C_init_period ?d_C_init_gain ?a_C_eq ?i_C_eq ?l_C_eq ?c_C_eq ?k_C_eq ?a_C_repr ?i_C_repr ?l_C_repr ?c_C_repr ?k_C_repr ?a_C_add ?i_C_add ?l_C_add ?c_C_add ?k_C_add ?a_C_period ?pg_C_period ?pt_C_period ?pr_C_period ?l_C_period ?c_C_period ?k_C_period ?a_C_gain ?pg_C_gain ?pt_C_gain ?pr_C_gain ?l_C_gain ?c_C_gain ?k_C_gain ?a_C_first_values ?i_C_first_values ?l_C_first_values ?c_C_first_values ?k_C_first_values ?a_C_at ?i_C_at ?l_C_at ?c_C_at ?k_C_at ?a_C_at_most ?i_C_at_most ?l_C_at_most ?c_C_at_most ?k_C_at_most ?a_C_later ?i_C_later ?l_C_later ?c_C_later ?k_C_later ?a_make_curve ?l_make_curve ?c_make_curve ?k_make_curve ?a_find_problem ?l_find_problem ?c_find_problem ?k_find_problem ?a_common_writing ?l_common_writing ?c_common_writing ?k_common_writing ?a_gain_in ?l_gain_in ?c_gain_in ?k_gain_in ?a_l_rng ?l_l_rng ?c_l_rng ?k_l_rng ?a_l_draw ?l_l_draw ?c_l_draw ?k_l_draw ?a_l_choice ?l_l_choice ?c_l_choice ?k_l_choice ?a_l_at ?l_l_at ?c_l_at ?k_l_at ?a_l_any_row ?l_l_any_row ?c_l_any_row ?k_l_any_row ?a_l_curve ?l_l_curve ?c_l_curve ?k_l_curve ?a_l_near ?l_l_near ?c_l_near ?k_l_near ?a_l_lengths ?l_l_lengths ?c_l_lengths ?k_l_lengths ?a_l_later_at ?l_l_later_at ?c_l_later_at ?k_l_later_at ?a_l_is_at_most ?l_l_is_at_most ?c_l_is_at_most ?k_l_is_at_most ?a_l_sum_row ?l_l_sum_row ?c_l_sum_row ?k_l_sum_row ?a_l_is_written ?l_l_is_written ?c_l_is_written ?k_l_is_written ?a_l_sums_right ?l_l_sums_right ?c_l_sums_right ?k_l_sums_right ?a_l_most_right ?l_l_most_right ?c_l_most_right ?k_l_most_right ?a_l_later_right ?l_l_later_right ?c_l_later_right ?k_l_later_right ?a_l_later_refused ?l_l_later_refused ?c_l_later_refused ?k_l_later_refused ?a_l_right ?l_l_right ?c_l_right ?k_l_right ?a_law ?l_law ?c_law ?k_law ?v_MAX_LATER ?v_MAX_VALUE ?v_MAX_VALUES ?v_PERIODS ?l_PERIODS ?z_abs ?z_all ?z_bool ?z_divmod ?z_enumerate ?z_int ?z_isinstance ?z_len ?z_list ?z_max ?z_min ?z_range ?z_repr ?z_zip
    (case g_DueError => k_is)
    (case g_InvalidCurve => k_is)
    (case g_InvalidLength => k_is)
    (case g_InvalidPiece => k_is)
    (case g_InvalidCount => k_is)
    (case xi_InvalidCount => kx_is)
    (case xo_InvalidCount => kx_is)
    (case hd_InvalidCount => k_is)
    (case sa_InvalidCount => k_is)
    (case xe_InvalidCount => k_is)
    (case ty_InvalidCount => k_is)
    (case kc_InvalidCount => k_is)
    (case ga_InvalidCount => k_is)
    (case gt_InvalidCount => k_is)
    (case cc_InvalidCount => k_is)
    (case mr_InvalidCount => k_is)
    (case xm_InvalidCount => k_is)
    (case n_InvalidCount_value => k_is)
    (case q_gn => k_is)
    (case q_tk => k_is)
    (case xe_DueError => k_is)
    (case hd_DueError => k_is)
    (case ty_DueError => k_is)
    (case xm_InvalidCount_DueError => k_is)
    (case fun_lcm => k_is)
    (case kt_InvalidCount_InvalidCount => kit_is)
    (case kt_InvalidCount_InvalidCurve_InvalidLength_InvalidPiece => kit_is)
    (case g_Curve => k_is)
    (case pg_Curve => k_is)
    (case hd_Curve => k_is)
    (case po_Curve => k_is)
    (case sa_Curve => k_is)
    (case mk_Curve => k_is)
    (case kc_Curve => k_is)
    (case ic_Curve => k_is)
    (case it_Curve => k_is)
    (case ig_Curve => k_is)
    (case io_Curve => k_is)
    (case ie_Curve => k_is)
    (case i_gn => k_is)
    (case i_tk => k_is)
    (case sf_Curve => k_is)
    (case n_Curve_values => k_is)
    (case n_Curve_period => k_is)
    (case n_Curve_gain => k_is)
    (case n_Curve_was_searched => k_is)
    (case n_Curve_break => k_is)
    (case a_InvalidCount_init => k_is)
    (case i_InvalidCount_init => k_is)
    (case l_InvalidCount_init => k_is)
    (case c_InvalidCount_init => k_is)
    (case k_InvalidCount_init => k_is)
    (case tI_InvalidCount => k_is)
    (case a_is_integer => k_is)
    (case l_is_integer => k_is)
    (case c_is_integer => k_is)
    (case k_is_integer => k_is)
    (case a_is_count => k_is)
    (case l_is_count => k_is)
    (case c_is_count => k_is)
    (case k_is_count => k_is)
    (case a_is_count_to => k_is)
    (case l_is_count_to => k_is)
    (case c_is_count_to => k_is)
    (case k_is_count_to => k_is)
    (case a_require_count_to => k_is)
    (case l_require_count_to => k_is)
    (case c_require_count_to => k_is)
    (case k_require_count_to => k_is)
    (case a_rounded_up => k_is)
    (case l_rounded_up => k_is)
    (case c_rounded_up => k_is)
    (case k_rounded_up => k_is)
    (case a_value_at => k_is)
    (case l_value_at => k_is)
    (case c_value_at => k_is)
    (case k_value_at => k_is)
    (case a_least_form => k_is)
    (case l_least_form => k_is)
    (case c_least_form => k_is)
    (case k_least_form => k_is)
    (case a_least_period => k_is)
    (case l_least_period => k_is)
    (case c_least_period => k_is)
    (case k_least_period => k_is)
    (case a_C_init => k_is)
    (case i_C_init => k_is)
    (case l_C_init => k_is)
    (case c_C_init => k_is)
    (case k_C_init => k_is)
    (case d_C_init_period => k_is)
    (case d_C_init_gain => k_is)
    (case a_C_eq => k_is)
    (case i_C_eq => k_is)
    (case l_C_eq => k_is)
    (case c_C_eq => k_is)
    (case k_C_eq => k_is)
    (case a_C_repr => k_is)
    (case i_C_repr => k_is)
    (case l_C_repr => k_is)
    (case c_C_repr => k_is)
    (case k_C_repr => k_is)
    (case a_C_add => k_is)
    (case i_C_add => k_is)
    (case l_C_add => k_is)
    (case c_C_add => k_is)
    (case k_C_add => k_is)
    (case a_C_period => k_is)
    (case pg_C_period => k_is)
    (case pt_C_period => k_is)
    (case pr_C_period => k_is)
    (case l_C_period => k_is)
    (case c_C_period => k_is)
    (case k_C_period => k_is)
    (case a_C_gain => k_is)
    (case pg_C_gain => k_is)
    (case pt_C_gain => k_is)
    (case pr_C_gain => k_is)
    (case l_C_gain => k_is)
    (case c_C_gain => k_is)
    (case k_C_gain => k_is)
    (case a_C_first_values => k_is)
    (case i_C_first_values => k_is)
    (case l_C_first_values => k_is)
    (case c_C_first_values => k_is)
    (case k_C_first_values => k_is)
    (case a_C_at => k_is)
    (case i_C_at => k_is)
    (case l_C_at => k_is)
    (case c_C_at => k_is)
    (case k_C_at => k_is)
    (case a_C_at_most => k_is)
    (case i_C_at_most => k_is)
    (case l_C_at_most => k_is)
    (case c_C_at_most => k_is)
    (case k_C_at_most => k_is)
    (case a_C_later => k_is)
    (case i_C_later => k_is)
    (case l_C_later => k_is)
    (case c_C_later => k_is)
    (case k_C_later => k_is)
    (case a_make_curve => k_is)
    (case l_make_curve => k_is)
    (case c_make_curve => k_is)
    (case k_make_curve => k_is)
    (case a_find_problem => k_is)
    (case l_find_problem => k_is)
    (case c_find_problem => k_is)
    (case k_find_problem => k_is)
    (case a_common_writing => k_is)
    (case l_common_writing => k_is)
    (case c_common_writing => k_is)
    (case k_common_writing => k_is)
    (case a_gain_in => k_is)
    (case l_gain_in => k_is)
    (case c_gain_in => k_is)
    (case k_gain_in => k_is)
    (case a_l_rng => k_is)
    (case l_l_rng => k_is)
    (case c_l_rng => k_is)
    (case k_l_rng => k_is)
    (case a_l_draw => k_is)
    (case l_l_draw => k_is)
    (case c_l_draw => k_is)
    (case k_l_draw => k_is)
    (case a_l_choice => k_is)
    (case l_l_choice => k_is)
    (case c_l_choice => k_is)
    (case k_l_choice => k_is)
    (case a_l_at => k_is)
    (case l_l_at => k_is)
    (case c_l_at => k_is)
    (case k_l_at => k_is)
    (case a_l_any_row => k_is)
    (case l_l_any_row => k_is)
    (case c_l_any_row => k_is)
    (case k_l_any_row => k_is)
    (case a_l_curve => k_is)
    (case l_l_curve => k_is)
    (case c_l_curve => k_is)
    (case k_l_curve => k_is)
    (case a_l_near => k_is)
    (case l_l_near => k_is)
    (case c_l_near => k_is)
    (case k_l_near => k_is)
    (case a_l_lengths => k_is)
    (case l_l_lengths => k_is)
    (case c_l_lengths => k_is)
    (case k_l_lengths => k_is)
    (case a_l_later_at => k_is)
    (case l_l_later_at => k_is)
    (case c_l_later_at => k_is)
    (case k_l_later_at => k_is)
    (case a_l_is_at_most => k_is)
    (case l_l_is_at_most => k_is)
    (case c_l_is_at_most => k_is)
    (case k_l_is_at_most => k_is)
    (case a_l_sum_row => k_is)
    (case l_l_sum_row => k_is)
    (case c_l_sum_row => k_is)
    (case k_l_sum_row => k_is)
    (case a_l_is_written => k_is)
    (case l_l_is_written => k_is)
    (case c_l_is_written => k_is)
    (case k_l_is_written => k_is)
    (case a_l_sums_right => k_is)
    (case l_l_sums_right => k_is)
    (case c_l_sums_right => k_is)
    (case k_l_sums_right => k_is)
    (case a_l_most_right => k_is)
    (case l_l_most_right => k_is)
    (case c_l_most_right => k_is)
    (case k_l_most_right => k_is)
    (case a_l_later_right => k_is)
    (case l_l_later_right => k_is)
    (case c_l_later_right => k_is)
    (case k_l_later_right => k_is)
    (case a_l_later_refused => k_is)
    (case l_l_later_refused => k_is)
    (case c_l_later_refused => k_is)
    (case k_l_later_refused => k_is)
    (case a_l_right => k_is)
    (case l_l_right => k_is)
    (case c_l_right => k_is)
    (case k_l_right => k_is)
    (case a_law => k_is)
    (case l_law => k_is)
    (case c_law => k_is)
    (case k_law => k_is)
    (case v_MAX_LATER => k_is)
    (case v_MAX_VALUE => k_is)
    (case v_MAX_VALUES => k_is)
    (case v_PERIODS => k_is)
    (case l_PERIODS => k_is)
    (case z_abs => k_is)
    (case z_all => k_is)
    (case z_bool => k_is)
    (case z_divmod => k_is)
    (case z_enumerate => k_is)
    (case z_int => k_is)
    (case z_isinstance => k_is)
    (case z_len => k_is)
    (case z_list => k_is)
    (case z_max => k_is)
    (case z_min => k_is)
    (case z_range => k_is)
    (case z_repr => k_is)
    (case z_zip => k_is)


