import PyProof.Rows.All
import Wide.All
import OpenK.AllK
import Wide.FinOn
import KE.OsRunLaw
import PyProof.ReprRoads
import HandS.Base
import HandS.Call
import HandS.List
import HandS.Comp
import HandS.Ends
import HandS.Words
import HandS.WordsList
import HandS.Defaults
import PyProof.ReprLen
import HandS.Iter
import HandS.Walk
import KE.GoesEnumKw
import KE.GoesRev
import HandS.MakeKwOnly
import HandS.Property
import PyProof.InstNe
import PyProof.FString2
import PyProof.FString5
import HandS.IsInst
import HandS.FStr
import KE.KExcInit
import KE.KExcIs
import HandS.Exc
import HandS.ExcInit
import HandS.ExcField
import HandS.ExcIs
import HandS.WordsExc
import HandS.Dict
import HandS.ExcOwn
import HandS.ExcValue
import KE.GoesZip
import KE.SortData
import HandS.SortInts
import HandS.ForMost
import HandS.Conv
import HandS.Style
import HandS.Deep
import HandS.TupLe
import HandS.NoneIn
import HandS.TryOnly
import HandS.More
import HandS.Flow
import HandS.Gcd
import HandS.DeepEq
import PySem.Challenge.RW_dueways_k19_errors
set_option Elab.async false
set_option linter.all false
set_option maxRecDepth 100000
set_option maxHeartbeats 4000000
namespace VHd
open PySem PySem.W PySem.Calls PyProof.Rows HeadRun
theorem pair {α β δ : Type} {W : Option δ} {a : δ → α} {b : δ → β} {A : α} {B : β} (h1 : W.map a = some A) (h2 : W.map b = some B) : W.map (fun x => (a x, b x)) = some (A, B) := by
  cases W with
  | none => cases h1
  | some x =>
    have e1 : a x = A := Option.some.inj h1
    have e2 : b x = B := Option.some.inj h2
    show some (a x, b x) = some (A, B)
    rw [e1, e2]
theorem triple {α β γ δ : Type} {W : Option δ} {a : δ → α} {b : δ → β} {c : δ → γ} {A : α} {B : β} {C : γ} (h1 : W.map a = some A) (h2 : W.map b = some B) (h3 : W.map c = some C) : W.map (fun x => (a x, b x, c x)) = some (A, B, C) := pair h1 (pair h2 h3)
abbrev R : OpenRow := OpenLaw.row PySem.Challenge.rw_dueways_k19_errors
/-- the statements that the walk sees -/
def q : Program := view R.prog [1, 2, 3, 4, 5, 6, 7, 8, 9, 10, 11, 12, 13, 14, 15, 16, 17, 18, 19, 20, 21, 22, 23, 24, 25, 26, 27, 28, 29, 30, 31, 32, 33, 34, 35, 36, 37, 38, 39, 40, 41, 43, 44, 45, 46, 47, 48, 49, 50, 51, 52, 53, 54, 55, 56]
def lo : List PySem.Str := []
noncomputable abbrev run (w : World) := wholeF (fun p => stepQ (denQ tabQ) p w) fenceQ 20470 R.prog
noncomputable abbrev mods : List PySem.Str := importedModules R.prog.main.body
noncomputable abbrev Xt : Shared → Bool := fun s => xlAt q [] s && recOk (RowW.records (OpenRow.toRowW R)) s
noncomputable abbrev sn (s : Shared) := seenQ q lo mods Xt s
noncomputable def sn0 (s : Shared) := PySem.W.Fast.tw5160383126252970620 (PySem.W.R.mapR (fun x => x.name) (PySem.W.Fast.tw3399658132070893891 q)) (PySem.W.Fast.tw5991557255702980513 q) [] { heap := s.heap, drawn := s.drawn, toks := s.toks, os := s.os }
noncomputable def sn1 (s : Shared) := (s.heap.bltView, (PySem.W.Fast.tw10880121769531294198 s.heap (PySem.W.Fast.tw821141287760084731 q lo) (PySem.W.R.mapR (fun x => x.name) (PySem.W.Fast.tw3399658132070893891 q)) (PySem.W.R.mapR (fun x => x.fst) (PySem.W.Fast.tw7409074990110511671 q)) (PySem.W.R.mapR (fun x => x.name) (PySem.W.Fast.tw13664370479719496447 q (PySem.W.Fast.tw821141287760084731 q lo))) && PySem.W.Fast.tw14722251495701143533 s.heap mods && s.heap.isNs PySem.mainGlobals && s.heap.isNs PySem.builtinsNs && PySem.W.Fast.tw10994771534591457954 q s.heap && Xt s && if true = true then s.gens.size == 0 else !PySem.leftWithCleanup s.gens), PySem.W.Fast.tw479339242167458305 q s)
noncomputable def sn2 (s : Shared) := (PySem.W.Fast.tw16090120013241838585 q (PySem.W.Fast.tw3247288618530077131 q) s, PySem.W.Fast.tw2386780881361962483 q (PySem.W.Fast.tw821141287760084731 q lo) s, PySem.W.Fast.tw11698064438423848299 q lo s, PySem.W.Fast.tw7317090234206586261 q s, PySem.W.Fast.tw7369524293546568484 q lo s)
set_option maxHeartbeats 0 in
theorem t1 (w : World) : (run w).map (fun x => looksF R.prog x.1.heap x.2.abs) = some true := by kernel_rfl
set_option maxHeartbeats 0 in
theorem t20 (w : World) : (run w).map (fun x => sn0 x.2.abs) = some (expectedOf q) := by kernel_rfl
set_option maxHeartbeats 0 in
theorem t21 (w : World) : (run w).map (fun x => sn1 x.2.abs) = some (bltViewBooted, true, true) := by kernel_rfl
set_option maxHeartbeats 0 in
theorem t22 (w : World) : (run w).map (fun x => sn2 x.2.abs) = some (pinGoodD (drecsOf q), plainGoodE q (looseW q lo), plainGoodD q lo, wideGood q, clsGoodW q lo) := by kernel_rfl
theorem tie {δ α β β' γ ε : Type} (a : δ → α) (b : δ → β × β' × γ) (c : δ → ε) (A : α) (B : β) (B' : β') (G : γ) (E : ε) (W : Option δ) (h1 : W.map a = some A) (h2 : W.map b = some (B, B', G)) (h3 : W.map c = some E) :
    W.map (fun x => (a x, (b x).1, (b x).2.1, (b x).2.2, c x)) = some (A, B, B', G, E) := by
  cases W with
  | none => cases h1
  | some x =>
    have e1 : a x = A := Option.some.inj h1
    have e2 : b x = (B, B', G) := Option.some.inj h2
    have e3 : c x = E := Option.some.inj h3
    show some (a x, (b x).1, (b x).2.1, (b x).2.2, c x) = some (A, B, B', G, E)
    rw [e1, e2, e3]
set_option maxHeartbeats 0 in
theorem t2 (w : World) : (run w).map (fun x => sn x.2.abs) = some (openGood q lo) := by
  have h := tie (fun x : Shared × SharedT => sn0 x.2.abs) (fun x => sn1 x.2.abs) (fun x => sn2 x.2.abs) (expectedOf q) bltViewBooted true true (pinGoodD (drecsOf q), plainGoodE q (looseW q lo), plainGoodD q lo, wideGood q, clsGoodW q lo) (run w) (t20 w) (t21 w) (t22 w)
  have e : ∀ s, (sn0 s, (sn1 s).1, (sn1 s).2.1, (sn1 s).2.2, sn2 s) = sn s := fun _ => rfl
  have g : openGood q lo = (expectedOf q, bltViewBooted, true, true, pinGoodD (drecsOf q), plainGoodE q (looseW q lo), plainGoodD q lo, wideGood q, clsGoodW q lo) := rfl
  rw [g]
  simp only [e] at h
  exact h
local macro_rules | `(tactic| kernel_rfl) => `(tactic| first | (refine VHd.triple ?_ ?_ ?_; (refine Eq.trans ?_ (VHd.t1 ‹PySem.World›)); kernel_rfl!; (refine Eq.trans ?_ ((VHd.t2 ‹PySem.World›).trans ?_)); kernel_rfl!; kernel_rfl!; kernel_rfl!) | kernel_rfl!)
local macro_rules | `(tactic| k_head) => `(tactic| k_headL)
set_option maxHeartbeats 0 in
open_top hd for PySem.Challenge.rw_dueways_k19_errors
end VHd

/-! A def's promise where no repr runs around it (guards are known to be empty), so that repr of data may be asked inside. -/
namespace VG
open PySem PySem.Spec PyProof.Rows L2

/-- repr of data -/
def rRepr (K : PySem.W.Frag) : List V → Hp → VK → Prop := fun xs H Q =>
  ∃ v d, xs = [v] ∧ Dp K H v d ∧ d.showable = true ∧ d.depth ≤ 60 ∧ d.shown.length ≤ sizeLine ∧ Q (.str d.shown) H

theorem dp_noDict (K : PySem.W.Frag) (H : Hp) : (∀ d v, Dp K H v d → d.hasDict = false) ∧ (∀ ds vs, DpAll K H vs ds → PyData.hasDictAll ds = false) := by
  have one : ∀ n, (∀ d v, sizeOf d < n → Dp K H v d → d.hasDict = false) ∧
      (∀ ds vs, sizeOf ds < n → DpAll K H vs ds → PyData.hasDictAll ds = false) := by
    intro n
    induction n with
    | zero => exact ⟨fun _ _ h => absurd h (Nat.not_lt_zero _), fun _ _ h => absurd h (Nat.not_lt_zero _)⟩
    | succ n ih =>
      refine ⟨fun d v hz h => ?_, fun ds vs hz h => ?_⟩
      · cases h with
        | non => rfl
        | bl => rfl
        | int => rfl
        | str => rfl
        | lst _ ha =>
          simp only [PyData.hasDict]
          exact ih.2 _ _ (by simp at hz; omega) ha
        | tup _ ha =>
          simp only [PyData.hasDict]
          exact ih.2 _ _ (by simp at hz; omega) ha
      · cases h with
        | nil => rfl
        | cons h1 h2 =>
          simp only [PyData.hasDictAll]
          rw [ih.1 _ _ (by simp at hz; omega) h1, ih.2 _ _ (by simp at hz; omega) h2]
          rfl
  exact ⟨fun d v => (one (sizeOf d + 1)).1 d v (Nat.lt_succ_self _), fun ds vs => (one (sizeOf ds + 1)).2 ds vs (Nat.lt_succ_self _)⟩

theorem call_repr {X : Cx} (hg : X.A.guards = some []) (hu : X.A.units + 64 < cLine) : CallR X (.builtin "repr") (rRepr X.K) := by
  intro pins s σ H xs us Q I r h
  obtain ⟨v, d, rfl, hd, hs, hdep, hz, q⟩ := h
  obtain ⟨u, rfl, rv⟩ := vals1 r
  have keep : ∀ (h' : Heap) (t' : Nat), (∀ b o, s.heap.get? b = some o → h'.get? b = some o) → Inv X pins σ H { s with heap := h', toks := t' } :=
    fun h' t' k => I.kept (t' := t') k
  have nd := (dp_noDict X.K H).1 d v hd
  obtain ⟨as, rd⟩ := Dp.reads I d v u hd rv
  cases hd with
  | non =>
    cases rv
    exact PySem.P.repr_of_none ⟨.str _, H, I.tok _, ⟨_, rfl⟩, q⟩
  | bl b =>
    cases rv
    refine PySem.P.repr_of_bool ⟨.str _, H, I.tok _, ⟨_, rfl⟩, ?_⟩
    exact q
  | int i =>
    obtain ⟨t, rfl⟩ := rv
    exact PySem.P.repr_of_int (by simpa [PyData.showable] using hs) ⟨.str _, H, I.tok _, ⟨_, rfl⟩, q⟩
  | str x =>
    obtain ⟨t, rfl⟩ := rv
    exact PySem.P.repr_of_str ⟨.str _, H, I.tok _, ⟨_, rfl⟩, q⟩ hz
  | lst _ _ =>
    cases rv
    exact repr_of_reads' rd hs (fun e => by rw [nd] at e; cases e) hg (by omega) (fun _ _ e => e) (fun h' w tk k => ⟨.str _, H, keep h' tk k, ⟨_, rfl⟩, q⟩) hz
  | tup _ _ =>
    cases rv
    exact repr_of_reads' rd hs (fun e => by rw [nd] at e; cases e) hg (by omega) (fun _ _ e => e) (fun h' w tk k => ⟨.str _, H, keep h' tk k, ⟨_, rfl⟩, q⟩) hz

def rLen (K : PySem.W.Frag) : List V → Hp → VK → Prop := fun xs H Q =>
  ∃ p ys, xs = [.ref p] ∧ (SqL K H p ys ∨ SqT K H p ys) ∧ Q (.int ys.length) H
theorem call_len {X : Cx} : CallR X (.builtin "len") (rLen X.K) := call_len_seq
def rListOf (K : PySem.W.Frag) : List V → Hp → VK → Prop := fun xs H Q =>
  ∃ p ys, xs = [.ref p] ∧ (SqL K H p ys ∨ SqT K H p ys) ∧ ∀ l, H l = none → Q (.ref l) (upd H l (.lst ys))
theorem call_listOf {X : Cx} : CallR X (.type "list") (rListOf X.K) := call_list_of

/-- a def's promise, asked only where guards are empty -/
structure FnG (P : Program) (w : World) (K : PySem.W.Frag) (mg : Str → Option Value) (base : Heap) (CX : CXT)
    (k : Nat) (f : Addr) (fd : FuncData) (ps : List Str) (sp : Sp) : Prop where
  arity : ∀ as H Q E, sp as H Q E → as.length = ps.length
  go : ∀ (A : Around) (outer : List Env) (s : Shared) (H : Hp) (args : Args) (us : List Value) (as : List V) (Q : VK) (E : XK),
    A.guards = some [] → Room k A → Env0 P w K mg base A outer s H → BindsTo s fd args (ps.zip us) → Vals as us → sp as H Q E →
      codeAny (model P w) A (.call (.ref f) args) (CR CX outer P w H s Q E) s

section
variable {P : Program} {w : World} {K : PySem.W.Frag} {mg : Str → Option Value} {base : Heap} {CX : CXT}
theorem FnG.of {k : Nat} {f : Addr} {fd : FuncData} {ps : List Str} {sp : Sp} (F : FnOk P w K mg base CX k f fd ps sp) :
    FnG P w K mg base CX k f fd ps sp :=
  ⟨F.len, fun A outer s H args us as Q E _ => F.run A outer s H args us as Q E⟩

/-- a def by its body -/
theorem okG {x qual : Str} {st : Stmt} {f : Addr} {fd : FuncData} {N ps : List Str} {k : Nat} {sp : Sp}
    (F : Fun K x qual st f fd) (S : FnScope N ps (defScope st)) (len : ∀ as H Q E, sp as H Q E → as.length = ps.length)
    (body : ∀ (cdv : Value) (A : Around) (outer : List Env) (s : Shared) (H : Hp) (as : List V) (Q : VK) (E : XK),
      (A.deeper (envOfC qual (defScope st) s.heap.objs.size f cdv)).guards = some [] →
      Room k (A.deeper (envOfC qual (defScope st) s.heap.objs.size f cdv)) → sp as H Q E →
      ∃ t, PSs (cxOf CX P w K mg base N qual (defScope st) f cdv A outer s H E) (defBody st) t ∧
        t { nx := fun _ H' => Q .non H', rt := Q } (start N as) H) :
    FnG P w K mg base CX (k + 1) f fd ps sp := by
  obtain ⟨oc, od, kV, doc, pm, an, cdv, ct, osl, rfl, lk, hcd⟩ := F.ex
  refine ⟨len, fun A outer s H args us as Q E hA hr e0 hb r hsp => ?_⟩
  have hl := len _ _ _ _ hsp
  have KX : K.In s.heap := e0.mod.kin.keeps fun b o e => (e0.bs b o e).1
  have lim : s.heap.NoLimit := e0.mod.nolimit.keeps fun b o e => (e0.bs b o e).1
  have kinds : ∀ y ∈ ps.zip us, (defScope st).names.lookup y.1 = some .local ∨
      ((defScope st).names.lookup y.1 = some .cell ∧ ((cellsFrom (s.heap.objs.size + 1) (defScope st).names []).lookup y.1).isSome = true) := by
    rintro ⟨n, v⟩ hy
    rcases S.par n (List.of_mem_zip hy).1 with q | q
    · exact .inl q
    · exact .inr ⟨q, PySem.W.cellsFrom_some _ _ _ (.inl q)⟩
  refine codeAny_call_function hr.depth (KX _ _ lk) rfl S.co S.gen rfl (PySem.W.codeRec_of KX hcd) (hb _ _ _ _ ?_)
  refine wpAny_newFunctionEnv_cells S.kind kinds fun env he s1 z => ?_
  subst he
  refine ⟨lim.keeps z.toInCall.keep, codeAny_func ?_⟩
  obtain ⟨t, ht, hq⟩ := body cdv A outer s H as Q E hA (hr.deeper _) hsp
  have I0 : Inv (cxOf CX P w K mg base N qual (defScope st) f cdv A outer s H E) [] (start N as) H s1 :=
    inv_start S hr.hd e0 hl r z
  refine wpAny_mono (ht.run [] s1 (start N as) H _ I0 hq) ?_ fun e s' hs => hs
  intro fl s' hs
  have done : ∀ (σ' : L2.St) (H' : Hp) (v : V) (u : Value), Inv (cxOf CX P w K mg base N qual (defScope st) f cdv A outer s H E) [] σ' H' s' →
      RelV v u → Q v H' → CE outer P w H s Q u s' := fun σ' H' v u J rv q => ⟨v, H', J.os, J.bare, J.base, J.hok, rv, q⟩
  cases fl with
  | ret u =>
    obtain ⟨v, σ', H', J, rv, q⟩ := hs
    exact done σ' H' v u J rv q
  | next =>
    obtain ⟨σ', H', J, q⟩ := hs
    exact done σ' H' V.non Value.none J rfl q
  | brk => exact hs.elim fun _ h => h.elim fun _ h => False.elim h.2
  | cont => exact hs.elim fun _ h => h.elim fun _ h => False.elim h.2
end

section
variable {P : Program} {w : World} {K : PySem.W.Frag} {mg : Str → Option Value} {base : Heap}
/-- .. that lets nothing out -/
theorem okG0 {x qual : Str} {st : Stmt} {f : Addr} {fd : FuncData} {N ps : List Str} {k : Nat} {sp : Sp}
    (F : Fun K x qual st f fd) (S : FnScope N ps (defScope st)) (len : ∀ as H Q E, sp as H Q E → as.length = ps.length)
    (body : ∀ (cdv : Value) (A : Around) (outer : List Env) (s : Shared) (H : Hp) (as : List V) (Q : VK) (E : XK),
      (A.deeper (envOfC qual (defScope st) s.heap.objs.size f cdv)).guards = some [] →
      Room k (A.deeper (envOfC qual (defScope st) s.heap.objs.size f cdv)) → sp as H Q E →
      ∃ t, PSs (cxOf CX0 P w K mg base N qual (defScope st) f cdv A outer s H E).nox (defBody st) t ∧
        t { nx := fun _ H' => Q .non H', rt := Q } (start N as) H) :
    FnG P w K mg base CX0 (k + 1) f fd ps sp :=
  okG F S len fun cdv A outer s H as Q E hA hr h =>
    let ⟨t, h1, h2⟩ := body cdv A outer s H as Q E hA hr h
    ⟨t, h1.nox, h2⟩
end

section
variable {X : Cx} {CX : CXT} {k : Nat} {f : Addr} {fd : FuncData} {ps : List Str} {sp : Sp} {E : XK} {x : Str} {p pos : Pos} {e : Expr} {es : List Expr} {t : TA}
theorem runG {pins : List (Addr × Obj)} {σ : L2.St} {H : Hp} {s : Shared} {Q : VK} {us : List Value} {as : List V}
    (F : FnG X.prog X.w X.K X.mg X.base CX k f fd ps sp) (hA : X.A.guards = some []) (hr : Room k X.A) (hb : Binds X.K fd ps [])
    (hx : Passes CX X E) (I : Inv X pins σ H s) (r : Vals as us) (h : sp as H Q E) :
    wpAny (model X.prog X.w) X.A (call (.ref f) us) (EP X pins σ Q) X.xe s := by
  have hn : us.length = ps.length := r.length.symm.trans (F.arity _ _ _ _ h)
  have bind := hb s us I.kIn (by rw [List.append_nil]; exact hn)
  rw [List.append_nil] at bind
  refine wpAny_call (codeAny_mono (F.go X.A X.stack s H ⟨us, []⟩ us as Q E hA hr I.env0 bind r h) ?_)
  intro res s' hq
  match res, hq with
  | .error e, hq => exact hx pins σ H s e s' I hq
  | .ok (.ret u), hq => exact I.after hq
  | .ok .next, hq => exact False.elim hq
  | .ok .brk, hq => exact False.elim hq
  | .ok .cont, hq => exact False.elim hq
/-- f(e, ..) -/
theorem pe_callG (F : FnG X.prog X.w X.K X.mg X.base CX k f fd ps sp) (hA : X.A.guards = some []) (hr : Room k X.A) (hg : Gl X x)
    (hm : X.mg x = some (.ref f)) (hk : PySem.W.keepIn X.K (.ref f) = true) (hb : Binds X.K fd ps []) (hx : Passes CX X E) (ha : PA X (e :: es) t)
    (hdb : (x == ("__debug__" : Str)) = false := by decide) (he : starEach (e :: es) X.env = (false, eval e X.env) :: starEach es X.env := by rfl)
    (hpl : (backTo pos (starEach es X.env)).any (·.1) = false := by rfl) :
    PE X (.Call (.Name x p) (e :: es) [] pos) (tCall sp [] E t) := by
  constructor
  intro pins s σ H Q I h
  refine wpAny_Call_Name_kw (ld_glob I hg hm ?_ hdb)
  have args := ha.run pos pins s σ H _ I h
  refine PySem.W.callWith_K (h₀ := X.base) I.ok.mod.kin hk (thn args ?_) he hpl
  rintro us s1 ⟨as, H1, I1, r, q⟩
  rw [List.append_nil] at q
  exact ⟨I1.kIn, runG F hA hr hb hx I1 r q⟩
theorem pe_callG0 (F : FnG X.prog X.w X.K X.mg X.base CX k f fd ps sp) (hA : X.A.guards = some []) (hr : Room k X.A) (hg : Gl X x)
    (hm : X.mg x = some (.ref f)) (hk : PySem.W.keepIn X.K (.ref f) = true) (hb : Binds X.K fd ps []) (hx : Passes CX X E)
    (hdb : (x == ("__debug__" : Str)) = false := by decide) : PE X (.Call (.Name x p) [] [] pos) (tCall sp [] E tNil) := by
  constructor
  intro pins s σ H Q I h
  refine wpAny_Call_Name_kw (ld_glob I hg hm ?_ hdb)
  exact PySem.W.callWith_K0 I.kIn hk (runG (us := []) (as := []) F hA hr hb hx I .nil h)
end

/-- a statement, then the rest, joined by a word: the rest is read once -/
def tJoin (t u : TS) : TS := fun D σ H => ∃ M : L2.St → Hp → Prop, t { D with nx := M } σ H ∧ ∀ σ' H', M σ' H' → u D σ' H'
theorem pss_join {X : Cx} {st : Stmt} {more : List Stmt} {t u : TS} (h1 : PS X st t) (h2 : PSs X more u) : PSs X (st :: more) (tJoin t u) := by
  constructor
  intro pins s σ H D I h
  obtain ⟨M, hm, hu⟩ := h
  refine wpAny_execs_cons (thn (h1.run pins s σ H _ I hm) ?_)
  intro fl s1 q
  match fl, q with
  | .next, ⟨σ', H', I', q⟩ => exact h2.run pins s1 σ' H' D I' (hu σ' H' q)
  | .ret v, q => exact q
  | .brk, q => exact q
  | .cont, q => exact q
/-- f(k = v, ..), keywords alone -/
def tKw (m : Nat) (sp : Sp) (gV : List V → List V → List V) (E : XK) (tk : TA) : TE := fun σ H Q => tk σ H fun zs H2 => zs.length = m ∧ sp (gV [] zs) H2 Q E
theorem pe_callK0 {X : Cx} {CX : CXT} {k : Nat} {f : Addr} {fd : FuncData} {ps ks : List Str} {sp : Sp} {E : XK} {x : Str} {p pos : Pos} {kws : List Keyword} {tk : TA}
    {g : List Value → List Value → List Value} {gV : List V → List V → List V}
    (F : FnOk X.prog X.w X.K X.mg X.base CX k f fd ps sp) (hr : Room k X.A) (hg : Gl X x) (hm : X.mg x = some (.ref f)) (hk : PySem.W.keepIn X.K (.ref f) = true)
    (hb : KBn X.K fd ps 0 ks g gV) (hx : Passes CX X E) (hkw : PK X kws tk) (hall : (backToKw pos (keywordEach kws X.env)).all (·.1.isSome) = true := by rfl)
    (hks : (backToKw pos (keywordEach kws X.env)).filterMap (·.1) = ks := by rfl) (hdb : (x == ("__debug__" : Str)) = false := by decide)
    (hpl : ((backTo pos (starEach [] X.env)).any (·.1) || (backToKw pos (keywordEach kws X.env)).any (·.1.isNone)) = false := by rfl) :
    PE X (.Call (.Name x p) [] kws pos) (tKw ks.length sp gV E tk) := by
  constructor
  intro pins s σ H Q I h
  refine wpAny_Call_Name_kw (ld_glob I hg hm ?_ hdb)
  refine PySem.W.callWith_KW0 (h₀ := X.base) I.ok.mod.kin hk hall ?_ hpl
  refine thn (hkw.run pos pins s σ H _ I h) ?_
  rintro ws s2 ⟨zs, H2, I2, rz, len, q⟩
  refine ⟨I2.kIn, ?_⟩
  rw [hks]
  have rel := hb.rel (vs := []) (us := []) .nil rz
  have bind := hb.to s2 [] ws I2.kIn rfl (rz.length.symm.trans len)
  refine wpAny_call (codeAny_mono (F.run X.A X.stack s2 H2 ⟨[], ks.zip ws⟩ _ _ Q E hr I2.env0 bind rel q) ?_)
  intro res s' hq
  match res, hq with
  | .error e, hq => exact hx pins σ H2 s2 e s' I2 hq
  | .ok (.ret u), hq => exact I2.after hq
  | .ok .next, hq => exact False.elim hq
  | .ok .brk, hq => exact False.elim hq
  | .ok .cont, hq => exact False.elim hq
/-- how keywords bind for a def without defaults -/
theorem kb_of {K : PySem.W.Frag} {x qual : Str} {st : Stmt} {f : Addr} {fd : FuncData} {ps ks : List Str} {n : Nat} (F : Fun K x qual st f fd)
    (g : {α : Type} → List α → List α → List α) (rel : ∀ {vs zs : List V} {us ws : List Value}, Vals vs us → Vals zs ws → Vals (g vs zs) (g us ws))
    (h : ∀ (kV doc pm : Value) (an : Option Addr) (cdv ct : Value) (us ws : List Value), us.length = n → ws.length = ks.length →
      bindArgs (PySem.W.fnOf x qual (defArgs st) (defBody st) (defScope st) .none kV doc pm an cdv ct) ⟨us, ks.zip ws⟩ = pure (ps.zip (g us ws))) :
    KBn K fd ps n ks (fun us ws => g us ws) (fun vs zs => g vs zs) := by
  obtain ⟨oc, od, kV, doc, pm, an, cdv, ct, osl, rfl, lk, hcd⟩ := F.ex
  exact ⟨fun s us ws _ h1 h2 => .of_eq (h kV doc pm an cdv ct us ws h1 h2), fun a b => rel a b⟩

/-- a law's call: the script is all that may be tracked -/
theorem lawG {P : Program} {w : World} {K : PySem.W.Frag} {mg mb : Str → Option Value} {CX : CXT} {k : Nat} {fa a : Addr} {fd : FuncData} {x : Str}
    {sp : Sp} {s1 : Shared} {vs : List Value} {ns : List Int} (KX : K.In s1.heap) (hns : s1.heap.Ns mainGlobals mg) (hb : s1.heap.Ns builtinsNs mb)
    (hbb : ∀ y : Str, y ≠ "__name__" → mb y = bootBuiltins y) (hlim : s1.heap.NoLimit) (hg : s1.gens = #[])
    (ha : s1.heap.get? a = some { cls := .type "list", data := .seq vs.toArray }) (hi : IntsAre vs ns) (hl : ns.length ≤ sizeLine) (hr : Room k callerA)
    (F : ∀ base : Heap, K.In base → base.Ns mainGlobals mg → FnG P w K mg base CX k fa fd [x] sp)
    (hbind : ∀ (s : Shared) (u : Value), BindsTo s fd ⟨[u], []⟩ [(x, u)])
    (hsp : ∀ H : Hp, Only H → SqL K H a (ns.map V.int) → sp [.ref a] H (fun v _ => v = .bl true) fun _ _ _ => False)
    (hCX : ∀ H e s', CX [] H s1 (fun _ _ _ => False) e s' → False) :
    codeAny (model P w) callerA (.call (.ref fa) ⟨[.ref a], []⟩)
      (fun r s' => r = .ok (.ret (.bool true)) ∧ OldK s1.heap s'.heap ∧ s'.os = s1.os ∧ AllBare s'.gens) s1 := by
  have inner : ∀ H : Hp, Only H → SqL K H a (ns.map V.int) → HOk P w H s1.heap → (∀ b, H b ≠ none → b = a) → (H a ≠ none → K.lookup a = none) →
      codeAny (model P w) callerA (.call (.ref fa) ⟨[.ref a], []⟩)
        (fun r s' => r = .ok (.ret (.bool true)) ∧ OldK s1.heap s'.heap ∧ s'.os = s1.os ∧ AllBare s'.gens) s1 := by
    intro H hO hS hok only noK
    have nodict : ∀ {b : Addr} {o : Obj} {es : Array DictEntry} {ep : Nat}, s1.heap.get? b = some o → o.data = .dict es ep → H b = none := by
      intro b o es ep e d
      by_cases q : H b = none
      · exact q
      · have eb := only b q
        subst eb
        rw [ha] at e
        cases e
        cases d
    have names : ∀ {b : Addr} {m : Str → Option Value}, s1.heap.Ns b m → (hidT s1.heap H).Ns b m := by
      rintro b m ⟨o, es, ep, e, d, r⟩
      exact ⟨o, es, ep, hidT_get e (nodict e d), d, r⟩
    have kin : K.In (hidT s1.heap H) := by
      intro b o e
      refine hidT_get (KX b o e) ?_
      by_cases q : H b = none
      · exact q
      · have eb := only b q
        subst eb
        rw [noK q] at e
        cases e
    have modul : Mod K mg (hidT s1.heap H) := by
      obtain ⟨mc, l1, l2⟩ := hlim
      exact ⟨kin, names hns, ⟨mb, names hb, hbb⟩, ⟨mc, names l1, l2⟩⟩
    have nil : ∀ b : Addr, ¬ b ∈ ([] : List Addr) := fun b z => by cases z
    have env : Env0 P w K mg (hidT s1.heap H) callerA [] s1 H :=
      ⟨rfl, modul, fun b o e => of_hidT e, Nat.le_of_eq (hidT_size _ _), trivial, fun b z => absurd z (nil b), hok, .of_eq hg⟩
    have ran := (F _ kin (names hns)).go callerA [] s1 H ⟨[.ref a], []⟩ [.ref a] [.ref a] _ _ rfl hr env (hbind s1 (.ref a)) (.cons rfl .nil) (hsp H hO hS)
    refine codeAny_mono ran ?_
    intro res s' h
    match res, h with
    | .error e, h => exact (hCX H e s' h).elim
    | .ok .next, h => exact False.elim h
    | .ok .brk, h => exact False.elim h
    | .ok .cont, h => exact False.elim h
    | .ok (.ret u), h =>
      obtain ⟨v, H', os, bare, un, hok', rv, rfl⟩ := h
      obtain rfl : u = Value.bool true := rv
      refine ⟨rfl, OldK.of_keep fun b o e => ?_, os, bare⟩
      rcases hO b with z | ⟨ob, xs, z⟩
      · exact un.keep b o e z (nil b) (nil b)
      · obtain ⟨e1, _⟩ := hok b _ z
        obtain ⟨e2, _⟩ := hok' b _ (un.frzs b ob _ z)
        rw [e] at e1
        cases e1
        exact e2
  have rv := vals_ints hi
  have len := hi.length
  cases hk : K.lookup a with
  | some o =>
    have e := KX a o hk
    rw [ha] at e
    cases e
    have seen : SqL K (fun _ => none) a (ns.map V.int) :=
      .inr ⟨_, vs.toArray, _, hk, rfl, rfl, rfl, by rw [List.size_toArray, len]; exact hl, by simpa using rv⟩
    exact inner (fun _ => none) (fun _ => .inl rfl) seen (fun b u z => by cases z) (fun b z => absurd rfl z) fun z => absurd rfl z
  | none =>
    have at_a : (if a = a then some (HO.frz { cls := .type "list", data := .seq vs.toArray } (.lst (ns.map V.int))) else none) = some (HO.frz { cls := .type "list", data := .seq vs.toArray } (.lst (ns.map V.int))) := if_pos rfl
    refine inner (fun b => if b = a then some (.frz { cls := .type "list", data := .seq vs.toArray } (.lst (ns.map V.int))) else none) ?_ (.inl (.inr ⟨_, at_a⟩)) ?_ ?_ fun _ => hk
    · intro b
      by_cases hb : b = a
      · exact .inr ⟨_, _, if_pos hb⟩
      · exact .inl (if_neg hb)
    · intro b u z
      have z' : (if b = a then some (HO.frz { cls := .type "list", data := .seq vs.toArray } (.lst (ns.map V.int))) else none) = some u := z
      by_cases hb : b = a
      · rw [if_pos hb] at z'
        cases z'
        subst hb
        exact ⟨ha, by rw [List.length_map]; exact hl, vs, _, rv, ha⟩
      · rw [if_neg hb] at z'
        cases z'
    · intro b z
      by_cases hb : b = a
      · exact hb
      · exact absurd (if_neg hb) z

theorem walkG {l : PySem.W.OpenLaw} {n k : Nat} {q : Program} {loose : List Str} {XP : (Str → Option Value) → Heap → Prop} {YP : World → Heap → Prop}
    {d : DefRec} {K : Params → PySem.W.Frag} {CX : World → CXT} {sp : World → Sp} {x : Str}
    (hn : l.most = some n) (hn2 : n ≤ sizeLine) (hdf : d.params.defaults = []) (hr : Room k callerA) (hY : ∀ (w : World) (h : Heap), YP w h → (K w.params).In h)
    (F : ∀ (w : World) (mg : Str → Option Value) (fa : Addr) (h : Heap), (K w.params).In h → h.Ns mainGlobals mg → mg d.name = some (.ref fa) →
      ∃ fd : FuncData, (∀ (s : Shared) (u : Value), BindsTo s fd ⟨[u], []⟩ [(x, u)]) ∧ ∀ base : Heap, (K w.params).In base → base.Ns mainGlobals mg →
        FnG l.prog w (K w.params) mg base (CX w) k fa fd [x] (sp w))
    (hsp : ∀ (w : World) (H : Hp) (a : Addr) (ns : List Int), ns.length ≤ n → Only H → SqL (K w.params) H a (ns.map V.int) →
      sp w [.ref a] H (fun v _ => v = .bl true) fun _ _ _ => False)
    (hCX : ∀ (w : World) (H : Hp) (s : Shared) (e : Value) (s' : Shared), CX w [] H s (fun _ _ _ => False) e s' → False) :
    PySem.W.WalkO q loose XP YP l.row.toRowW d [] (fun f vs => PySem.call f vs) := by
  refine Att.attach_call hn hdf ?_
  intro w s0 s1 mg mb fa o pm cd doc a vs ns G Y ho hd hcd hmg hobj hints hlen hg
  obtain ⟨fd, hb, hF⟩ := F w mg fa _ (hY w _ Y) G.T.g hmg
  exact lawG (hY w _ Y) G.T.g G.T.b G.T.builtins G.T.nolimit hg hobj hints (Nat.le_trans hlen hn2) hr hF hb
    (fun H hO hS => hsp w H a ns hlen hO hS) fun H e s' => hCX w H s1 e s'
end VG

/-! Curves as they are written: values, a period, a gain; plain Lean. -/
namespace VM
/-- the value at t of the curve written so -/
def cvAt (vs : List Int) (p g t : Int) : Int :=
  if t = 0 then 0 else if t ≤ (vs.length : Int) then vs.getD (t - 1).toNat 0 else
    vs.getD (t - (t - vs.length + p - 1) / p * p - 1).toNat 0 + (t - vs.length + p - 1) / p * g

theorem cvAt_zero {vs : List Int} {p g : Int} : cvAt vs p g 0 = 0 := by simp [cvAt]
theorem cvAt_in {vs : List Int} {p g t : Int} (h : 0 < t) (h1 : t ≤ vs.length) : cvAt vs p g t = vs.getD (t - 1).toNat 0 := by
  unfold cvAt
  rw [if_neg (by omega), if_pos h1]

/-- the rounds: between them t lies in the last period -/
theorem rounds_spec {n p t : Int} (hp : 0 < p) (ht : n < t) :
    0 < (t - n + p - 1) / p ∧ n - p < t - (t - n + p - 1) / p * p ∧ t - (t - n + p - 1) / p * p ≤ n := by
  have e := Int.emod_add_mul_ediv (t - n + p - 1) p
  have l := Int.emod_nonneg (t - n + p - 1) (show p ≠ 0 by omega)
  have u := Int.emod_lt_of_pos (t - n + p - 1) hp
  have c : (t - n + p - 1) / p * p = p * ((t - n + p - 1) / p) := Int.mul_comm _ _
  have q1 : 1 ≤ (t - n + p - 1) / p := by
    have := (Int.le_ediv_iff_mul_le (c := p) hp (a := 1) (b := t - n + p - 1)).mpr (by omega)
    exact this
  exact ⟨by omega, by omega, by omega⟩
theorem rounds_step {n p t : Int} (hp : 0 < p) : (t - p - n + p - 1) / p = (t - n + p - 1) / p - 1 := by
  have : t - p - n + p - 1 = (t - n + p - 1) + (-1) * p := by omega
  rw [this, Int.add_mul_ediv_right _ _ (by omega)]
  omega
/-- behind the values: one period back, and the gain -/
theorem cvAt_back {vs : List Int} {p g t : Int} (hp : 0 < p) (hpn : p ≤ vs.length) (ht : (vs.length : Int) < t) : cvAt vs p g t = cvAt vs p g (t - p) + g := by
  obtain ⟨r1, r2, r3⟩ := rounds_spec hp ht
  have st := rounds_step (n := (vs.length : Int)) (p := p) (t := t) hp
  unfold cvAt
  rw [if_neg (by omega), if_neg (by omega), if_neg (show ¬ t - p = 0 by omega)]
  by_cases h : t - p ≤ (vs.length : Int)
  · rw [if_pos h]
    have r : (t - vs.length + p - 1) / p = 1 := by
      have a : (t - vs.length + p - 1) / p < 2 := Int.ediv_lt_of_lt_mul hp (by omega)
      omega
    rw [r, Int.one_mul, Int.one_mul]
  · rw [if_neg h, st]
    have e : t - p - ((t - vs.length + p - 1) / p - 1) * p - 1 = t - (t - vs.length + p - 1) / p * p - 1 := by
      rw [Int.sub_mul, Int.one_mul]; omega
    rw [e, Int.sub_mul, Int.one_mul]
    omega

/-- a function that repeats behind n: with period p and gain g -/
def Rep (f : Int → Int) (n p g : Int) : Prop := ∀ t, n < t → f t = f (t - p) + g
theorem Rep.cvAt {vs : List Int} {p g : Int} (hp : 0 < p) (hpn : p ≤ vs.length) : Rep (cvAt vs p g) vs.length p g := fun _ ht => cvAt_back hp hpn ht

/-- the steps over d, in one period behind n, are all the first one -/
def stepsEq (f : Int → Int) (n p d : Int) : Bool := (List.range p.toNat).all fun (i : Nat) => decide (f (n + 1 + i) - f (n + 1 + i - d) = f (n + 1) - f (n + 1 - d))
/-- the least period from d on that divides p, and its gain -/
def leastFrom (f : Int → Int) (n p : Int) : Nat → Int → Int × Int
  | 0, _ => (p, f (n + p) - f n)
  | k + 1, d => if p % d = 0 ∧ stepsEq f n p d = true then (d, f (n + 1) - f (n + 1 - d)) else leastFrom f n p k (d + 1)
def leastP (f : Int → Int) (n p : Int) : Int × Int := leastFrom f n p (p - 1).toNat 1
/-- how many values must be written -/
def shr (f : Int → Int) (d s : Int) : Nat → Nat
  | 0 => 0
  | m + 1 => if d < (m + 1 : Nat) ∧ f ((m + 1 : Nat) : Int) = f ((m + 1 : Nat) - d) + s then shr f d s m else m + 1
/-- f's values at 1 to m -/
def vals (f : Int → Int) (m : Nat) : List Int := (List.range m).map fun (i : Nat) => f (i + 1)
theorem vals_length {f : Int → Int} {m : Nat} : (vals f m).length = m := by simp [vals]
theorem vals_getD {f : Int → Int} {m i : Nat} (h : i < m) : (vals f m).getD i 0 = f (i + 1) := by
  unfold vals
  rw [List.getD_eq_getElem?_getD, List.getElem?_map, List.getElem?_range h]
  rfl

theorem stepsEq_at {f : Int → Int} {n p d : Int} (h : stepsEq f n p d = true) {t : Int} (h1 : n < t) (h2 : t ≤ n + p) : f t = f (t - d) + (f (n + 1) - f (n + 1 - d)) := by
  unfold stepsEq at h
  rw [List.all_eq_true] at h
  have := h (t - n - 1).toNat (List.mem_range.mpr (by omega))
  have e : n + 1 + ((t - n - 1).toNat : Int) = t := by omega
  rw [e] at this
  have := of_decide_eq_true this
  omega
/-- one round decides -/
theorem Rep.of_steps {f : Int → Int} {n p g d : Int} (R : Rep f n p g) (hd : 0 < d) (hdp : d ≤ p) (h : stepsEq f n p d = true) : Rep f n d (f (n + 1) - f (n + 1 - d)) := by
  have key : ∀ (k : Nat) (t : Int), n < t → t ≤ n + k → f t = f (t - d) + (f (n + 1) - f (n + 1 - d)) := by
    intro k
    induction k with
    | zero => intro t h1 h2; omega
    | succ k ih =>
      intro t h1 h2
      by_cases c : t ≤ n + p
      · exact stepsEq_at h h1 c
      · have a := R t h1
        have b := R (t - d) (by omega)
        have e := ih (t - p) (by omega) (by omega)
        have z : t - d - p = t - p - d := by omega
        rw [z] at b
        omega
  intro t ht
  exact key (t - n).toNat t ht (by omega)
theorem leastFrom_spec {f : Int → Int} {n p g : Int} (R : Rep f n p g) (hp : 0 < p) : ∀ (k : Nat) (d : Int), 0 < d → d + k = p →
    0 < (leastFrom f n p k d).1 ∧ (leastFrom f n p k d).1 ≤ p ∧ Rep f n (leastFrom f n p k d).1 (leastFrom f n p k d).2
  | 0, d, hd, e => by
    unfold leastFrom
    refine ⟨hp, Int.le_refl _, fun t ht => ?_⟩
    have a := R (n + p) (by omega)
    have z : n + p - p = n := by omega
    rw [z] at a
    have b := R t ht
    show f t = f (t - p) + (f (n + p) - f n)
    omega
  | k + 1, d, hd, e => by
    unfold leastFrom
    by_cases c : p % d = 0 ∧ stepsEq f n p d = true
    · rw [if_pos c]
      exact ⟨hd, by show d ≤ p; omega, R.of_steps hd (by omega) c.2⟩
    · rw [if_neg c]
      exact leastFrom_spec R hp k (d + 1) (by omega) (by omega)
theorem leastP_spec {f : Int → Int} {n p g : Int} (R : Rep f n p g) (hp : 0 < p) : 0 < (leastP f n p).1 ∧ (leastP f n p).1 ≤ p ∧ Rep f n (leastP f n p).1 (leastP f n p).2 :=
  leastFrom_spec R hp _ 1 (by omega) (by omega)
theorem shr_spec {f : Int → Int} {d s : Int} (hd : 0 < d) : ∀ (m : Nat), d ≤ m → Rep f m d s → d ≤ shr f d s m ∧ shr f d s m ≤ m ∧ Rep f (shr f d s m) d s
  | 0, h, _ => by omega
  | m + 1, h, R => by
    unfold shr
    by_cases c : d < (m + 1 : Nat) ∧ f ((m + 1 : Nat) : Int) = f ((m + 1 : Nat) - d) + s
    · rw [if_pos c]
      have R' : Rep f m d s := fun t ht => by
        by_cases e : t = ((m + 1 : Nat) : Int)
        · rw [e]; exact c.2
        · exact R t (by omega)
      obtain ⟨a, b, z⟩ := shr_spec hd m (by omega) R'
      exact ⟨a, by omega, z⟩
    · rw [if_neg c]
      exact ⟨h, Nat.le_refl _, R⟩
/-- what repeats behind m is the curve written by its first m values -/
theorem cvAt_vals {f : Int → Int} {m : Nat} {d s : Int} (hd : 0 < d) (hdm : d ≤ m) (h0 : f 0 = 0) (R : Rep f m d s) : ∀ t, 0 ≤ t → cvAt (vals f m) d s t = f t := by
  have key : ∀ (k : Nat) (t : Int), 0 ≤ t → t ≤ k → cvAt (vals f m) d s t = f t := by
    intro k
    induction k with
    | zero =>
      intro t h1 h2
      have : t = 0 := by omega
      rw [this, cvAt_zero, h0]
    | succ k ih =>
      intro t h1 h2
      by_cases z : t = 0
      · rw [z, cvAt_zero, h0]
      · by_cases c : t ≤ (m : Int)
        · rw [cvAt_in (by omega) (by rw [vals_length]; exact c), vals_getD (by omega)]
          congr 1; omega
        · rw [cvAt_back hd (by rw [vals_length]; exact hdm) (by rw [vals_length]; omega), R t (by omega), ih (t - d) (by omega) (by omega)]
  intro t ht
  exact key t.toNat t ht (by omega)
/-- the form: period, gain, values -/
def formP (vs : List Int) (p g : Int) : Int × Int := leastP (cvAt vs p g) vs.length p
def formM (vs : List Int) (p g : Int) : Nat := shr (cvAt vs p g) (formP vs p g).1 (formP vs p g).2 vs.length
def formV (vs : List Int) (p g : Int) : List Int := vals (cvAt vs p g) (formM vs p g)
theorem form_spec {vs : List Int} {p g : Int} (hp : 0 < p) (hpn : p ≤ vs.length) :
    0 < (formP vs p g).1 ∧ (formP vs p g).1 ≤ p ∧ (formP vs p g).1 ≤ (formV vs p g).length ∧ (formV vs p g).length ≤ vs.length ∧
      ∀ t, 0 ≤ t → cvAt (formV vs p g) (formP vs p g).1 (formP vs p g).2 t = cvAt vs p g t := by
  obtain ⟨a, b, R⟩ := leastP_spec (Rep.cvAt (g := g) hp hpn) hp
  obtain ⟨c, d, R'⟩ := shr_spec a vs.length (show (formP vs p g).1 ≤ _ from Int.le_trans b hpn) R
  refine ⟨a, b, ?_, ?_, ?_⟩
  · unfold formV; rw [vals_length]; exact c
  · unfold formV; rw [vals_length]; exact d
  · exact cvAt_vals a c cvAt_zero R'
end VM

/-! Records: sums of windows; plain Lean. -/
namespace VM
/-- the units ahead of tick i -/
def pre (us : List Int) (i : Int) : Int := (us.take i.toNat).sum
def win (us : List Int) (s k : Int) : Int := pre us (s + k) - pre us s
/-- the sum of a slice -/
theorem sum_cut (us : List Int) (s k : Nat) : ((us.drop s).take k).sum = win us s k := by
  unfold win pre
  have e : (((s : Int) + k).toNat) = s + k := by omega
  have e2 : ((s : Int).toNat) = s := by omega
  rw [e, e2, List.take_add, List.sum_append]
  omega
theorem pre_zero (us : List Int) : pre us 0 = 0 := by simp [pre]
theorem pre_all (us : List Int) : pre us us.length = us.sum := by
  unfold pre
  rw [show ((us.length : Nat) : Int).toNat = us.length by omega, List.take_length]
theorem pre_step {us : List Int} {i : Nat} (h : i < us.length) : pre us ((i : Int) + 1) = pre us i + us.getD i 0 := by
  unfold pre
  rw [show ((i : Int) + 1).toNat = i + 1 by omega, show ((i : Int)).toNat = i by omega, List.take_add_one, List.sum_append]
  rw [List.getD_eq_getElem?_getD, List.getElem?_eq_getElem h]
  simp
/-- the first i from a on, of k many, of which P -/
def firstN (p : Nat → Bool) : Nat → Nat → Option Nat
  | 0, _ => none
  | k + 1, i => if p i = true then some i else firstN p k (i + 1)
/-- windows by their length: the first with more than f allows -/
def brk (f : Int → Int) (us : List Int) : Nat → Nat → Option (Int × Int × Int)
  | 0, _ => none
  | k + 1, len => match firstN (fun s => decide (f len < win us s len)) (us.length + 1 - len) 0 with
    | some s => some (len, s, win us s len - f len)
    | none => brk f us k (len + 1)
def breachM (f : Int → Int) (us : List Int) : Option (Int × Int × Int) := brk f us us.length 1
theorem brk_congr {f g : Int → Int} {us : List Int} : ∀ (k len : Nat), (∀ t : Int, (len : Int) ≤ t → t < len + k → f t = g t) → brk f us k len = brk g us k len
  | 0, _, _ => rfl
  | k + 1, len, h => by
    unfold brk
    rw [h len (by omega) (by omega), brk_congr k (len + 1) fun t h1 h2 => h t (by omega) (by omega)]
theorem breachM_congr {f g : Int → Int} {us : List Int} (h : ∀ t : Int, 1 ≤ t → t ≤ us.length → f t = g t) : breachM f us = breachM g us :=
  brk_congr _ _ fun t h1 h2 => h t (by omega) (by omega)
def IsMax (l : List Int) (m : Int) : Prop := m ∈ l ∧ ∀ y ∈ l, y ≤ m
theorem IsMax.eq {l : List Int} {m n : Int} (a : IsMax l m) (b : IsMax l n) : m = n := by
  have h1 := a.2 n b.1
  have h2 := b.2 m a.1
  omega
end VM

/-! Records that enter as early as a curve allows; plain Lean. -/
namespace VM
theorem snoc_ind {P : List Int → Prop} (h0 : P []) (h1 : ∀ l x, P l → P (l ++ [x])) (l : List Int) : P l := by
  have a : ∀ r : List Int, P r.reverse := fun r => by
    induction r with
    | nil => exact h0
    | cons a r ih => rw [List.reverse_cons]; exact h1 _ _ ih
  have b := a l.reverse
  rwa [List.reverse_reverse] at b
/-- the last k units -/
def tl (us : List Int) (k : Nat) : Int := win us ((us.length : Int) - k) k
theorem tl_zero {us : List Int} : tl us 0 = 0 := by
  unfold tl win
  rw [show (us.length : Int) - ((0 : Nat) : Int) + ((0 : Nat) : Int) = (us.length : Int) - ((0 : Nat) : Int) by omega]
  omega
theorem pre_push {e : List Int} {x i : Int} (h : i ≤ e.length) : pre (e ++ [x]) i = pre e i := by
  unfold pre
  rw [List.take_append_of_le_length (by omega)]
theorem pre_last {e : List Int} {x i : Int} (h : i = (e.length : Int) + 1) : pre (e ++ [x]) i = pre e e.length + x := by
  unfold pre
  rw [List.take_of_length_le (by rw [List.length_append, List.length_singleton]; omega), List.take_of_length_le (by omega), List.sum_append]
  simp
theorem tl_push {e : List Int} {x : Int} {k : Nat} (h : k ≤ e.length) : tl (e ++ [x]) (k + 1) = tl e k + x := by
  unfold tl win
  rw [List.length_append, List.length_singleton, pre_last (by omega), pre_push (by omega)]
  rw [show ((e.length + 1 : Nat) : Int) - ((k + 1 : Nat) : Int) = (e.length : Int) - k by omega, show (e.length : Int) - (k : Int) + (k : Int) = e.length by omega]
  omega
/-- one tick further back -/
theorem tl_step {us : List Int} {k : Nat} (h : k < us.length) : tl us (k + 1) = tl us k + us.getD (us.length - 1 - k) 0 := by
  unfold tl win
  rw [show (us.length : Int) - ((k + 1 : Nat) : Int) + ((k + 1 : Nat) : Int) = us.length by omega, show (us.length : Int) - ((k : Nat) : Int) + ((k : Nat) : Int) = us.length by omega]
  have e := pre_step (us := us) (i := us.length - 1 - k) (by omega)
  rw [show ((us.length - 1 - k : Nat) : Int) + 1 = (us.length : Int) - (k : Nat) by omega] at e
  rw [show (us.length : Int) - ((k + 1 : Nat) : Int) = ((us.length - 1 - k : Nat) : Int) by omega]
  omega
/-- how many may enter behind us, as the windows up to k + 1 tell -/
def freeK (f : Int → Int) (us : List Int) : Nat → Int
  | 0 => f 1
  | k + 1 => min (freeK f us k) (f ((k : Int) + 2) - tl us (k + 1))
def freeM (f : Int → Int) (us : List Int) : Int := freeK f us us.length
theorem le_freeK {f : Int → Int} {us : List Int} {c : Int} : ∀ {n : Nat}, c ≤ freeK f us n ↔ ∀ k : Nat, k ≤ n → tl us k + c ≤ f ((k : Int) + 1)
  | 0 => by
    constructor
    · intro h k hk
      have : k = 0 := by omega
      subst this
      rw [tl_zero]
      have : c ≤ f 1 := h
      show 0 + c ≤ f 1
      omega
    · intro h
      have := h 0 (Nat.le_refl _)
      rw [tl_zero] at this
      have e : 0 + c ≤ f 1 := this
      show c ≤ f 1
      omega
  | n + 1 => by
    have ih := le_freeK (f := f) (us := us) (c := c) (n := n)
    constructor
    · intro h k hk
      unfold freeK at h
      by_cases z : k = n + 1
      · subst z
        rw [show ((n + 1 : Nat) : Int) + 1 = (n : Int) + 2 by omega]
        omega
      · exact ih.mp (by omega) k (by omega)
    · intro h
      have a := ih.mpr fun k hk => h k (by omega)
      have b := h (n + 1) (Nat.le_refl _)
      rw [show ((n + 1 : Nat) : Int) + 1 = (n : Int) + 2 by omega] at b
      unfold freeK
      omega
theorem le_free {f : Int → Int} {us : List Int} {c : Int} : c ≤ freeM f us ↔ ∀ k : Nat, k ≤ us.length → tl us k + c ≤ f ((k : Int) + 1) := le_freeK
/-- no window has too many -/
def Kept (f : Int → Int) (us : List Int) : Prop := ∀ s k : Nat, 1 ≤ k → s + k ≤ us.length → win us s k ≤ f k
theorem Kept.push {f : Int → Int} {e : List Int} {x : Int} (h : Kept f e) (hx : x ≤ freeM f e) : Kept f (e ++ [x]) := by
  intro s k h1 h2
  rw [List.length_append, List.length_singleton] at h2
  by_cases c : s + k ≤ e.length
  · have := h s k h1 c
    unfold win at this ⊢
    rw [pre_push (by omega), pre_push (by omega)]
    exact this
  · have a := le_free.mp hx (k - 1) (by omega)
    have b := tl_push (e := e) (x := x) (k := k - 1) (by omega)
    rw [show k - 1 + 1 = k by omega] at b
    unfold tl at b
    rw [List.length_append, List.length_singleton, show ((e.length + 1 : Nat) : Int) - (k : Int) = (s : Int) by omega] at b
    rw [show ((k - 1 : Nat) : Int) + 1 = (k : Int) by omega] at a
    rw [b]
    exact a
theorem Kept.front {f : Int → Int} {e : List Int} {x : Int} (h : Kept f (e ++ [x])) : Kept f e := by
  intro s k h1 h2
  have a := h s k h1 (by rw [List.length_append, List.length_singleton]; omega)
  unfold win at a ⊢
  rw [pre_push (by omega), pre_push (by omega)] at a
  exact a
theorem Kept.free {f : Int → Int} {e : List Int} {x : Int} (h : Kept f (e ++ [x])) : x ≤ freeM f e := by
  refine le_free.mpr fun k hk => ?_
  have a := h (e.length - k) (k + 1) (by omega) (by rw [List.length_append, List.length_singleton]; omega)
  have b := tl_push (e := e) (x := x) (k := k) hk
  unfold tl at b
  rw [List.length_append, List.length_singleton, show ((e.length + 1 : Nat) : Int) - ((k + 1 : Nat) : Int) = ((e.length - k : Nat) : Int) by omega] at b
  rw [b] at a
  have z : ((k + 1 : Nat) : Int) = (k : Int) + 1 := by omega
  rw [z] at a
  exact a
theorem Kept.nil {f : Int → Int} : Kept f [] := fun s k h1 h2 => by
  have : s + k ≤ 0 := h2
  omega
theorem firstN_none {p : Nat → Bool} : ∀ {k i : Nat}, firstN p k i = none ↔ ∀ j, i ≤ j → j < i + k → p j = false
  | 0, i => ⟨fun _ => fun j a b => absurd b (by omega), fun _ => rfl⟩
  | k + 1, i => by
    have ih := firstN_none (p := p) (k := k) (i := i + 1)
    unfold firstN
    by_cases c : p i = true
    · rw [if_pos c]
      refine ⟨fun h => (by cases h), fun h => ?_⟩
      rw [h i (Nat.le_refl _) (by omega)] at c
      cases c
    · rw [if_neg c, ih]
      refine ⟨fun h j a b => ?_, fun h j a b => h j (by omega) (by omega)⟩
      by_cases z : j = i
      · rw [z]; simpa using c
      · exact h j (by omega) (by omega)
theorem brk_none {f : Int → Int} {us : List Int} : ∀ {k len : Nat}, brk f us k len = none ↔ ∀ t : Nat, len ≤ t → t < len + k → ∀ s : Nat, s < us.length + 1 - t → win us s t ≤ f t
  | 0, len => ⟨fun _ => fun t a b => absurd b (by omega), fun _ => rfl⟩
  | k + 1, len => by
    have ih := brk_none (f := f) (us := us) (k := k) (len := len + 1)
    have fn := firstN_none (p := fun s => decide (f len < win us s len)) (k := us.length + 1 - len) (i := 0)
    unfold brk
    cases hh : firstN (fun s => decide (f len < win us s len)) (us.length + 1 - len) 0 with
    | some s =>
      refine ⟨fun h => (by cases h), fun h => ?_⟩
      have : firstN (fun s => decide (f len < win us s len)) (us.length + 1 - len) 0 = none := fn.mpr fun j _ b => by
        have := h len (Nat.le_refl _) (by omega) j (by omega)
        exact decide_eq_false (by omega)
      rw [hh] at this; cases this
    | none =>
      show brk f us k (len + 1) = none ↔ _
      rw [ih]
      refine ⟨fun h t a b s hs => ?_, fun h t a b s hs => h t (by omega) (by omega) s hs⟩
      by_cases z : t = len
      · subst z
        have := fn.mp hh s (Nat.zero_le _) (by omega)
        have := of_decide_eq_false this
        omega
      · exact h t (by omega) (by omega) s hs
theorem kept_iff {f : Int → Int} {us : List Int} : breachM f us = none ↔ Kept f us := by
  unfold breachM
  rw [brk_none]
  exact ⟨fun h s k h1 h2 => h k h1 (by omega) s (by omega), fun h t a b s hs => h s t a (by omega)⟩
/-! ### shaped -/
def shS (f : Int → Int) (st : List Int × Int) (u : Int) : List Int × Int := (st.1 ++ [min (st.2 + u) (freeM f st.1)], st.2 + u - min (st.2 + u) (freeM f st.1))
def shG (f : Int → Int) (us : List Int) : List Int × Int := us.foldl (shS f) ([], 0)
def shapedM (f : Int → Int) (us : List Int) : List Int := (shG f us).1
theorem shG_push {f : Int → Int} {us : List Int} {u : Int} : shG f (us ++ [u]) = shS f (shG f us) u := by
  unfold shG; rw [List.foldl_append]; rfl
theorem shG_take {f : Int → Int} {us : List Int} {i : Nat} (h : i < us.length) : shG f (us.take (i + 1)) = shS f (shG f (us.take i)) (us.getD i 0) := by
  rw [← shG_push, List.take_add_one, List.getElem?_eq_getElem h, List.getD_eq_getElem?_getD, List.getElem?_eq_getElem h]
  rfl
theorem shG_length {f : Int → Int} (us : List Int) : (shG f us).1.length = us.length := by
  refine snoc_ind (P := fun us => (shG f us).1.length = us.length) rfl (fun l x ih => ?_) us
  show (shG f (l ++ [x])).1.length = (l ++ [x]).length
  rw [shG_push]
  unfold shS
  rw [List.length_append, List.length_append, ih]
  rfl
theorem shaped_length {f : Int → Int} (us : List Int) : (shapedM f us).length = us.length := shG_length us
theorem shaped_kept {f : Int → Int} (us : List Int) : Kept f (shapedM f us) := by
  refine snoc_ind (P := fun us => Kept f (shapedM f us)) Kept.nil (fun l x ih => ?_) us
  show Kept f (shG f (l ++ [x])).1
  rw [shG_push]
  exact Kept.push ih (by show min _ _ ≤ _; unfold shapedM at *; omega)
theorem kept_shaped {f : Int → Int} {us : List Int} (h : Kept f us) : shG f us = (us, 0) := by
  revert h
  refine snoc_ind (P := fun us => Kept f us → shG f us = (us, 0)) (fun _ => rfl) (fun l x ih h => ?_) us
  have a := h.free
  rw [shG_push, ih h.front]
  unfold shS
  simp only
  rw [show min (0 + x) (freeM f l) = x by omega]
  congr 1
  omega
/-- rising values from 1 on -/
structure Up (f : Int → Int) : Prop where
  one : 0 ≤ f 1
  up : ∀ k : Nat, 1 ≤ k → f k ≤ f ((k : Int) + 1)
theorem Up.free {f : Int → Int} (U : Up f) {e : List Int} (h : Kept f e) : 0 ≤ freeM f e := by
  refine le_free.mpr fun k hk => ?_
  by_cases z : k = 0
  · subst z
    rw [tl_zero]
    have := U.one
    show 0 + 0 ≤ f 1
    omega
  · have a := h (e.length - k) k (by omega) (by omega)
    have b := U.up k (by omega)
    unfold tl
    rw [show (e.length : Int) - (k : Int) = ((e.length - k : Nat) : Int) by omega]
    omega
theorem sum_snoc {l : List Int} {x : Int} : (l ++ [x]).sum = l.sum + x := by rw [List.sum_append]; simp
/-- what entered and waits: counts, together what came -/
theorem shG_bound {f : Int → Int} (U : Up f) {us : List Int} (h : ∀ u ∈ us, 0 ≤ u) : 0 ≤ (shG f us).2 ∧ (shG f us).1.sum + (shG f us).2 = us.sum ∧ ∀ x ∈ (shG f us).1, 0 ≤ x ∧ x ≤ us.sum := by
  revert h
  refine snoc_ind (P := fun us => (∀ u ∈ us, 0 ≤ u) → 0 ≤ (shG f us).2 ∧ (shG f us).1.sum + (shG f us).2 = us.sum ∧ ∀ x ∈ (shG f us).1, 0 ≤ x ∧ x ≤ us.sum) (fun _ => ⟨Int.le_refl _, rfl, fun x hx => by cases hx⟩) (fun l u ih h => ?_) us
  have hu := h u (by simp)
  obtain ⟨a, b, c⟩ := ih fun y hy => h y (List.mem_append_left _ hy)
  have fr := U.free (shaped_kept (f := f) l)
  unfold shapedM at fr
  have ps : 0 ≤ (shG f l).1.sum := by
    have : ∀ r : List Int, (∀ x ∈ r, 0 ≤ x) → 0 ≤ r.sum := fun r => by
      induction r with
      | nil => intro _; decide
      | cons z r ih => intro q; rw [List.sum_cons]; have := q z List.mem_cons_self; have := ih fun y hy => q y (List.mem_cons_of_mem _ hy); omega
    exact this _ fun x hx => (c x hx).1
  rw [shG_push, sum_snoc]
  unfold shS
  simp only [sum_snoc]
  refine ⟨by omega, by omega, fun x hx => ?_⟩
  rcases List.mem_append.mp hx with q | q
  · have := c x q; omega
  · cases List.mem_singleton.mp q
    omega
theorem shaped_front {f : Int → Int} {us vs : List Int} : (shapedM f (us ++ vs)).take us.length = shapedM f us := by
  refine snoc_ind (P := fun vs => (shapedM f (us ++ vs)).take us.length = shapedM f us) ?_ (fun l x ih => ?_) vs
  · show (shapedM f (us ++ [])).take us.length = shapedM f us
    rw [List.append_nil, ← shaped_length (f := f) us, List.take_length]
  · show (shapedM f (us ++ (l ++ [x]))).take us.length = shapedM f us
    rw [← List.append_assoc]
    unfold shapedM at ih ⊢
    rw [shG_push]
    unfold shS
    rw [List.take_append_of_le_length (by rw [shG_length, List.length_append]; omega)]
    exact ih
theorem freeK_congr {f g : Int → Int} {e : List Int} : ∀ {n : Nat}, (∀ t : Int, 1 ≤ t → t ≤ (n : Int) + 1 → f t = g t) → freeK f e n = freeK g e n
  | 0, h => h 1 (by omega) (by omega)
  | n + 1, h => by
    unfold freeK
    rw [freeK_congr (n := n) fun t a b => h t a (by omega), h ((n : Int) + 2) (by omega) (by omega)]
theorem shG_congr {f g : Int → Int} {us : List Int} (h : ∀ t : Int, 1 ≤ t → t ≤ us.length → f t = g t) : shG f us = shG g us := by
  revert h
  refine snoc_ind (P := fun us => (∀ t : Int, 1 ≤ t → t ≤ us.length → f t = g t) → shG f us = shG g us) (fun _ => rfl) (fun l x ih h => ?_) us
  rw [List.length_append, List.length_singleton] at h
  rw [shG_push, shG_push, ih fun t a b => h t a (by omega)]
  unfold shS freeM
  rw [freeK_congr fun t a b => h t a (by rw [shG_length] at b; omega)]
/-- a curve that rises where it is written rises -/
theorem up_cv {vs : List Int} {p g : Int} (hp : 0 < p) (hpn : p ≤ vs.length) (h0 : 0 ≤ vs.getD 0 0) (up : ∀ i, i + 1 < vs.length → vs.getD i 0 ≤ vs.getD (i + 1) 0) (last : vs.getD (vs.length - 1) 0 ≤ vs.getD (vs.length - p.toNat) 0 + g) : Up (cvAt vs p g) := by
  refine ⟨by rw [cvAt_in (by decide) (by omega)]; exact h0, fun k => ?_⟩
  induction k using Nat.strongRecOn with
  | ind k ih =>
    intro h1
    by_cases c : k < vs.length
    · rw [cvAt_in (by omega) (by omega), cvAt_in (by omega) (by omega), show ((k : Int) - 1).toNat = k - 1 by omega, show ((k : Int) + 1 - 1).toNat = k - 1 + 1 by omega]
      exact up (k - 1) (by omega)
    · by_cases d : k = vs.length
      · rw [cvAt_back (t := (k : Int) + 1) hp hpn (by omega), cvAt_in (by omega) (by omega), cvAt_in (by omega) (by omega), show ((k : Int) - 1).toNat = vs.length - 1 by omega, show ((k : Int) + 1 - p - 1).toNat = vs.length - p.toNat by omega]
        exact last
      · rw [cvAt_back (t := (k : Int) + 1) hp hpn (by omega), cvAt_back (t := (k : Int)) hp hpn (by omega)]
        have := ih (k - p.toNat) (by omega) (by omega)
        rw [show ((k - p.toNat : Nat) : Int) = (k : Int) - p by omega] at this
        rw [show (k : Int) + 1 - p = (k : Int) - p + 1 by omega]
        omega
/-- no pair of lengths up to n shows a break -/
def goodB (f : Int → Int) (n : Nat) : Bool := (List.range n).all fun a => (List.range (a + 1)).all fun b => decide (f ((a : Int) + 1 + ((b : Int) + 1)) ≤ f ((a : Int) + 1) + f ((b : Int) + 1))
theorem good_at {f : Int → Int} {n : Nat} (h : goodB f n = true) {a b : Int} (h1 : 1 ≤ b) (h2 : b ≤ a) (h3 : a ≤ n) : f (a + b) ≤ f a + f b := by
  unfold goodB at h
  rw [List.all_eq_true] at h
  have x := h (a - 1).toNat (List.mem_range.mpr (by omega))
  rw [List.all_eq_true] at x
  have y := of_decide_eq_true (x (b - 1).toNat (List.mem_range.mpr (by omega)))
  rw [show (((a - 1).toNat : Nat) : Int) + 1 = a by omega, show (((b - 1).toNat : Nat) : Int) + 1 = b by omega] at y
  exact y
end VM

/-! shaped is the greatest; curves that are good at all lengths; greedy records; plain Lean. -/
namespace VM
/-- no unit of vs enters ahead of its coming in us -/
def Behind (us vs : List Int) : Prop := vs.length = us.length ∧ ∀ i : Nat, i ≤ us.length → pre vs i ≤ pre us i
theorem pre_take {us : List Int} {i : Nat} : pre us i = (us.take i).sum := by
  unfold pre; rw [Int.toNat_natCast]
theorem pre_len {us : List Int} {i : Int} (h : (us.length : Int) ≤ i) : pre us i = us.sum := by
  unfold pre; rw [List.take_of_length_le (by omega)]
theorem tl_pre {us : List Int} {k : Nat} (h : k ≤ us.length) : tl us k = us.sum - pre us ((us.length : Int) - k) := by
  unfold tl win
  rw [show (us.length : Int) - (k : Int) + (k : Int) = us.length by omega, pre_all]
/-- free is one of the windows -/
theorem freeK_some {f : Int → Int} {us : List Int} : ∀ n : Nat, ∃ k : Nat, k ≤ n ∧ freeK f us n = f ((k : Int) + 1) - tl us k
  | 0 => ⟨0, Nat.le_refl _, by rw [tl_zero]; show f 1 = f ((0 : Int) + 1) - 0; rw [Int.zero_add]; omega⟩
  | n + 1 => by
    obtain ⟨k, hk, e⟩ := freeK_some (f := f) (us := us) n
    unfold freeK
    by_cases c : freeK f us n ≤ f ((n : Int) + 2) - tl us (n + 1)
    · exact ⟨k, by omega, by omega⟩
    · refine ⟨n + 1, Nat.le_refl _, ?_⟩
      rw [show ((n + 1 : Nat) : Int) + 1 = (n : Int) + 2 by omega]
      omega
theorem shG_front {f : Int → Int} {us : List Int} {i : Nat} (h : i ≤ us.length) : (shG f (us.take i)).1 = (shapedM f us).take i := by
  have e : us.take i ++ us.drop i = us := List.take_append_drop i us
  have s := shaped_front (f := f) (us := us.take i) (vs := us.drop i)
  rw [e, List.length_take, Nat.min_eq_left h] at s
  exact s.symm
theorem shG_sum {f : Int → Int} (us : List Int) : (shG f us).1.sum + (shG f us).2 = us.sum := by
  refine snoc_ind (P := fun us => (shG f us).1.sum + (shG f us).2 = us.sum) rfl (fun l u ih => ?_) us
  show (shG f (l ++ [u])).1.sum + (shG f (l ++ [u])).2 = (l ++ [u]).sum
  rw [shG_push, sum_snoc]
  unfold shS
  simp only [sum_snoc]
  omega
/-- the units so far of the shaped record -/
theorem shaped_pre {f : Int → Int} {us : List Int} {i : Nat} (h : i ≤ us.length) : pre (shapedM f us) i = (shG f (us.take i)).1.sum := by
  rw [shG_front h, pre_take]
theorem shaped_greatest {f : Int → Int} {us vs : List Int} (B : Behind us vs) (K : Kept f vs) : ∀ i : Nat, i ≤ us.length → pre vs i ≤ pre (shapedM f us) i := by
  intro i
  induction i using Nat.strongRecOn with
  | ind i ih =>
    intro hi
    match i with
    | 0 => rw [show ((0 : Nat) : Int) = 0 from rfl, pre_zero, pre_zero]; exact Int.le_refl _
    | i + 1 =>
      have st := shG_take (f := f) (us := us) (i := i) (by omega)
      have sm := shG_sum (f := f) (us.take i)
      have p1 := shaped_pre (f := f) (us := us) (i := i + 1) hi
      have p0 := shaped_pre (f := f) (us := us) (i := i) (by omega)
      have lg : (shG f (us.take i)).1.length = i := by rw [shG_length, List.length_take]; omega
      rw [p1, st]
      have us1 := pre_step (us := us) (i := i) (by omega)
      have ut : (us.take i).sum = pre us i := pre_take.symm
      have bi := B.2 (i + 1) hi
      rw [show ((i + 1 : Nat) : Int) = (i : Int) + 1 by omega] at bi ⊢
      unfold shS
      simp only [sum_snoc]
      by_cases c : (shG f (us.take i)).2 + us.getD i 0 ≤ freeM f (shG f (us.take i)).1
      · omega
      · obtain ⟨k, hk, e⟩ := freeK_some (f := f) (us := (shG f (us.take i)).1) (shG f (us.take i)).1.length
        rw [lg] at hk
        have tp := tl_pre (us := (shG f (us.take i)).1) (k := k) (by omega)
        rw [lg] at tp
        have pk : pre (shG f (us.take i)).1 ((i : Int) - k) = pre (shapedM f us) ((i - k : Nat) : Int) := by
          rw [shG_front (by omega), show (i : Int) - (k : Int) = ((i - k : Nat) : Int) by omega, pre_take, pre_take, List.take_take, Nat.min_eq_left (by omega)]
        have q := ih (i - k) (by omega) (by omega)
        have w := K (i - k) (k + 1) (by omega) (by rw [B.1]; omega)
        unfold win at w
        rw [show ((i - k : Nat) : Int) + ((k + 1 : Nat) : Int) = (i : Int) + 1 by omega, show ((k + 1 : Nat) : Int) = (k : Int) + 1 by omega] at w
        have fm : freeM f (shG f (us.take i)).1 = f ((k : Int) + 1) - tl (shG f (us.take i)).1 k := e
        omega
/-- the shaped record is behind what comes -/
theorem shaped_behind {f : Int → Int} {us : List Int} (U : Up f) (h : ∀ u ∈ us, 0 ≤ u) : Behind us (shapedM f us) := by
  refine ⟨shaped_length us, fun i hi => ?_⟩
  have a := shG_bound (f := f) U (us := us.take i) fun u hu => h u (List.mem_of_mem_take hu)
  rw [shaped_pre hi, pre_take]
  omega
/-- good at the lengths of the form: good at all lengths -/
theorem good_all {f : Int → Int} {n p g : Int} (R : Rep f n p g) (hp : 0 < p) (hpn : p ≤ n) (h0 : f 0 = 0) (G : ∀ a b : Int, 1 ≤ b → b ≤ a → a ≤ n → f (a + b) ≤ f a + f b) : ∀ a b : Int, 0 ≤ a → 0 ≤ b → f (a + b) ≤ f a + f b := by
  have half : ∀ (k : Nat) (a b : Int), 0 ≤ b → b ≤ a → a + b = k → f (a + b) ≤ f a + f b := by
    intro k
    induction k using Nat.strongRecOn with
    | ind k ih =>
      intro a b hb hba e
      by_cases z : b = 0
      · subst z; rw [h0, Int.add_zero]; omega
      · by_cases c : a ≤ n
        · exact G a b (by omega) hba c
        · have r1 := R a (by omega)
          have r2 := R (a + b) (by omega)
          rw [show a + b - p = a - p + b by omega] at r2
          have : f (a - p + b) ≤ f (a - p) + f b := by
            by_cases d : b ≤ a - p
            · exact ih (a - p + b).toNat (by omega) (a - p) b hb d (by omega)
            · have := ih (a - p + b).toNat (by omega) b (a - p) (by omega) (by omega) (by omega)
              rw [show b + (a - p) = a - p + b by omega] at this
              omega
          omega
  intro a b ha hb
  by_cases c : b ≤ a
  · exact half (a + b).toNat a b hb c (by omega)
  · have := half (a + b).toNat b a ha (by omega) (by omega)
    rw [show b + a = a + b by omega] at this
    omega
/-- the greedy record of n ticks -/
def greedyM (f : Int → Int) (n : Nat) : List Int := (List.range n).map fun t : Nat => f ((t : Int) + 1) - f t
theorem greedy_length {f : Int → Int} {n : Nat} : (greedyM f n).length = n := by simp [greedyM]
theorem greedy_succ {f : Int → Int} {n : Nat} : greedyM f (n + 1) = greedyM f n ++ [f ((n : Int) + 1) - f n] := by
  unfold greedyM; rw [List.range_succ, List.map_append]; rfl
theorem greedy_sum {f : Int → Int} (h0 : f 0 = 0) : ∀ n : Nat, (greedyM f n).sum = f n
  | 0 => by show (0 : Int) = f 0; omega
  | n + 1 => by
    rw [greedy_succ, sum_snoc, greedy_sum h0 n, show ((n + 1 : Nat) : Int) = (n : Int) + 1 by omega]
    omega
theorem greedy_take {f : Int → Int} {n i : Nat} (h : i ≤ n) : (greedyM f n).take i = greedyM f i := by
  unfold greedyM; rw [← List.map_take, List.take_range, Nat.min_eq_left h]
theorem greedy_pre {f : Int → Int} (h0 : f 0 = 0) {n i : Nat} (h : i ≤ n) : pre (greedyM f n) i = f i := by
  rw [pre_take, greedy_take h, greedy_sum h0]
theorem greedy_kept {f : Int → Int} (h0 : f 0 = 0) (G : ∀ a b : Int, 0 ≤ a → 0 ≤ b → f (a + b) ≤ f a + f b) (n : Nat) : Kept f (greedyM f n) := by
  intro s k h1 h2
  rw [greedy_length] at h2
  unfold win
  rw [show (s : Int) + (k : Int) = ((s + k : Nat) : Int) by omega, greedy_pre h0 h2, greedy_pre h0 (by omega)]
  have := G s k (by omega) (by omega)
  rw [show ((s + k : Nat) : Int) = (s : Int) + (k : Int) by omega]
  omega
/-- ahead of every record that keeps the curve -/
theorem greedy_ahead {f : Int → Int} (h0 : f 0 = 0) {vs : List Int} (K : Kept f vs) {n i : Nat} (hn : vs.length = n) (hi : i ≤ n) : pre vs i ≤ pre (greedyM f n) i := by
  rw [greedy_pre h0 hi]
  by_cases z : i = 0
  · subst z
    rw [show ((0 : Nat) : Int) = 0 from rfl, pre_zero, h0]
    exact Int.le_refl _
  · have := K 0 i (by omega) (by omega)
    unfold win at this
    rw [show ((0 : Nat) : Int) + (i : Int) = i by omega, show ((0 : Nat) : Int) = 0 from rfl, pre_zero] at this
    omega
end VM

/-! What repr may be asked of: shown, not deep, not long. -/
namespace VR
open PySem
structure Sz (k L : Nat) (d : PyData) : Prop where
  sh : d.showable = true
  dp : d.depth ≤ k
  ln : d.shown.length ≤ L
theorem Sz.mono {k L k' L' : Nat} {d : PyData} (h : Sz k L d) (a : k ≤ k') (b : L ≤ L') : Sz k' L' d := ⟨h.sh, Nat.le_trans h.dp a, Nat.le_trans h.ln b⟩
theorem Sz.none : Sz 0 5 .none := ⟨rfl, Nat.zero_le _, by decide⟩
theorem Sz.bool (b : Bool) : Sz 0 5 (.bool b) := ⟨rfl, Nat.zero_le _, by cases b <;> decide⟩
theorem log_small {n : Nat} (h : n < 10 ^ 100) : n.log2 < 1920 := by
  by_cases z : n = 0
  · subst z; decide
  · exact (Nat.log2_lt z).mpr (Nat.lt_trans h (by decide +kernel))
theorem Sz.int {i : Int} (h : i.natAbs < 10 ^ 100) : Sz 0 101 (.int i) := by
  refine ⟨by simp only [PyData.showable]; exact decide_eq_true (log_small h), Nat.zero_le _, ?_⟩
  have e := int_text_length_le10 (k := 100) (by decide) h
  show (Str.ofString (toString i)).length ≤ 101
  rw [ofString_length]; exact e
theorem all_show {k L : Nat} : ∀ {ds : List PyData}, (∀ d ∈ ds, Sz k L d) → PyData.showableAll ds = true
  | [], _ => rfl
  | d :: ds, h => by
    simp only [PyData.showableAll]
    rw [(h d List.mem_cons_self).sh, all_show fun e he => h e (List.mem_cons_of_mem _ he)]
    rfl
theorem all_depth {k L : Nat} : ∀ {ds : List PyData}, (∀ d ∈ ds, Sz k L d) → PyData.depthAll ds ≤ k
  | [], _ => Nat.zero_le _
  | d :: ds, h => by
    simp only [PyData.depthAll]
    exact Nat.max_le.mpr ⟨(h d List.mem_cons_self).dp, all_depth fun e he => h e (List.mem_cons_of_mem _ he)⟩
theorem all_len {k L : Nat} : ∀ {ds : List PyData}, (∀ d ∈ ds, Sz k L d) → ((PyData.shownAll ds).map (·.length)).sum ≤ L * ds.length ∧ (PyData.shownAll ds).length = ds.length
  | [], _ => ⟨Nat.zero_le _, rfl⟩
  | d :: ds, h => by
    have a := (h d List.mem_cons_self).ln
    obtain ⟨b, c⟩ := all_len (ds := ds) fun e he => h e (List.mem_cons_of_mem _ he)
    simp only [PyData.shownAll, List.map_cons, List.sum_cons, List.length_cons]
    refine ⟨?_, by omega⟩
    rw [Nat.mul_add, Nat.mul_one]
    omega
theorem Sz.list {k L n : Nat} {ds : List PyData} (h : ∀ d ∈ ds, Sz k L d) (hn : ds.length ≤ n) : Sz (k + 1) ((L + 2) * n + 3) (.list ds) := by
  refine ⟨by simp only [PyData.showable]; exact all_show h, by simp only [PyData.depth]; have := all_depth h; omega, ?_⟩
  obtain ⟨a, b⟩ := all_len h
  have c := listText_len_le (PyData.shownAll ds)
  simp only [PyData.shown]
  rw [b] at c
  have m : (L + 2) * ds.length ≤ (L + 2) * n := Nat.mul_le_mul_left _ hn
  rw [Nat.add_mul] at m
  omega
theorem Sz.tuple {k L n : Nat} {ds : List PyData} (h : ∀ d ∈ ds, Sz k L d) (hn : ds.length ≤ n) : Sz (k + 1) ((L + 2) * n + 3) (.tuple ds) := by
  refine ⟨by simp only [PyData.showable]; exact all_show h, by simp only [PyData.depth]; have := all_depth h; omega, ?_⟩
  obtain ⟨a, b⟩ := all_len h
  have c := tupleText_len_le (PyData.shownAll ds)
  simp only [PyData.shown]
  rw [b] at c
  have m : (L + 2) * ds.length ≤ (L + 2) * n := Nat.mul_le_mul_left _ hn
  rw [Nat.add_mul] at m
  omega
theorem Sz.ints {n : Nat} {us : List Int} (h : ∀ u ∈ us, u.natAbs < 10 ^ 100) (hn : us.length ≤ n) : Sz 1 (103 * n + 3) (.list (us.map PyData.int)) := by
  refine Sz.list (k := 0) (L := 101) (fun d hd => ?_) (by rw [List.length_map]; exact hn)
  obtain ⟨u, hu, rfl⟩ := List.mem_map.mp hd
  exact .int (h u hu)
end VR

/-! for i, x in enumerate(xs, start=k), and over reversed(xs). -/
namespace VE
open PySem PySem.Spec PyProof.Rows L2
section
variable {prog : Program} {w : World} {A : Around} {E : Value → Shared → Prop} {s : Shared}
theorem next_rev {it l : Addr} {i : Nat} {items : Array Value} {x : Value} {Q : Value → Shared → Prop} (hit : s.heap.IsRevIter it l (i : Int)) (hl : s.heap.IsList l items)
    (hx : items[i]? = some x) (hQ : ∀ h', h'.IsRevIter it l ((i : Int) - 1) → Heap.SameBut it s.heap h' → Q x { s with heap := h' }) :
    wpAny (model prog w) A (Builtin.SmallTypes.nextOf (.ref it)) Q E s := by
  obtain ⟨ob, g1, g2, g3⟩ := id hit
  obtain ⟨ol, k1, _, nl, k2⟩ := hl
  have slot := F.slot_lri_next
  unfold Builtin.SmallTypes.nextOf
  refine wpAny_bind (wpAny_callSpecial?_slot (name := Str.ofString "__next__") hit.typeIs slot (wpAny_call_entry slot hit.typeIs F.entry_lri_next ?_ (F.args_lri_next_1 _)))
  unfold Builtin.«list_reverseiterator.__next__» ; refine wpAny_bind (wpAny_of_eq (a := (Value.ref it, [])) rfl ?_)
  try dsimp only
  refine wpAny_bind (wpAny_field g1 g3 (x := rawInt (i : Int)) rfl ?_)
  show wpAny _ A.in1 (if (i : Int) < 0 then _ else _) _ _ s
  rw [if_neg (show ¬ (i : Int) < 0 by omega)]
  show wpAny _ A.in1 (field (.ref it) 0 >>= _) _ _ s
  refine wpAny_bind (wpAny_field g1 g3 (x := .ref l) rfl ?_)
  show wpAny _ A.in1 (seqItems? (.ref l) >>= _) _ _ s
  refine wpAny_bind (wpAny_seqItems k1 k2 ?_)
  simp only [Int.toNat_natCast, hx]
  refine wpAny_bind (wpAny_setField g1 g3 (by simp) ?_)
  have here : (s.heap.update it fun o => o.mapFields fun vs => vs.setIfInBounds 1 (rawInt ((i : Int) - 1))).IsRevIter it l ((i : Int) - 1) := by
    refine ⟨_, Heap.get?_update_self _ g1 (Obj.isFreed_of_fields (Obj.data_mapFields g3 _)), (Obj.cls_mapFields ..).trans g2, ?_⟩
    rw [Obj.data_mapFields g3]
    simp
  first
  | exact wpAny_pure ⟨x, rfl, wpAny_pure (hQ _ here (Heap.SameBut.update ..))⟩
  | exact wpAny_bind (wpAny_pure (wpAny_pure ⟨x, rfl, wpAny_pure (hQ _ here (Heap.SameBut.update ..))⟩))
theorem next_rev_end {it l : Addr} {Q : Value → Shared → Prop} (hh : A.handled = none) (hit : s.heap.IsRevIter it l (-1))
    (hE : ∀ h' e, Heap.ExtBut it s.heap h' → (∃ o, h'.get? e = some o ∧ o.cls = .type "StopIteration") → E (.ref e) { s with heap := h' }) :
    wpAny (model prog w) A (Builtin.SmallTypes.nextOf (.ref it)) Q E s := by
  obtain ⟨ob, g1, g2, g3⟩ := id hit
  have slot := F.slot_lri_next
  unfold Builtin.SmallTypes.nextOf
  refine wpAny_bind (wpAny_callSpecial?_slot (name := Str.ofString "__next__") hit.typeIs slot (wpAny_call_entry slot hit.typeIs F.entry_lri_next ?_ (F.args_lri_next_1 _)))
  unfold Builtin.«list_reverseiterator.__next__» ; refine wpAny_bind (wpAny_of_eq (a := (Value.ref it, [])) rfl ?_)
  try dsimp only
  refine wpAny_bind (wpAny_field g1 g3 (x := rawInt (-1)) rfl ?_)
  show wpAny _ A.in1 (if (-1 : Int) < 0 then _ else _) _ _ s
  rw [if_pos (show (-1 : Int) < 0 by decide)]
  refine wpAny_bind (wpAny_rule ?_)
  first
  | show wpAny _ A.in1 (newExc (.type "StopIteration") [] >>= _) _ _ _
  | (refine wpAny_bind ?_; show wpAny _ A.in1 (newExc (.type "StopIteration") [] >>= _) _ _ _)
  refine wpAny_bind ?_
  simp only [newExc, newTuple]
  refine wpAny_bind (wpAny_newObj_type ?_ (by size_fits)) ; refine wpAny_bind (m := firstArgMember _ _) (wpAny_of_eq (a := Value.none) (by first | rfl | (simp only [firstArgMember]; rfl)) ?_)
  refine wpAny_newObj_type ?_ (by size_fits)
  simp only [raiseNew]
  refine wpAny_bind (wpAny_handled ?_)
  first | rw [show A.in1.handled = none from hh] | rw [hh]
  refine wpAny_bind (wpAny_pure (wpAny_throw ?_))
  exact hE _ _ (((Heap.ExtBut.refl _ _).push _).push _) ⟨_, Heap.get?_push_size _ rfl, rfl⟩
end
theorem draws_rev {prog : Program} {w : World} {A : Around} (hh : A.handled = none) (it l : Addr) (hne : l ≠ it) (items : Array Value) :
    Draws prog w A it [it, l] items.size (fun i v => items[items.size - 1 - i]? = some v)
      (fun i h => i ≤ items.size ∧ h.IsRevIter it l ((items.size : Int) - 1 - (i : Int)) ∧ h.IsList l items) where
  live := fun _ _ st => let ⟨o, ho, _⟩ := st.2.1; ⟨o, ho⟩
  frame := fun _ _ _ st k => ⟨st.1, st.2.1.at fun o e => k it (by simp) o e, st.2.2.at fun o e => k l (by simp) o e⟩
  item := fun i s Q E hi st hQ => by
    obtain ⟨_, hit, hl⟩ := st
    rw [show (items.size : Int) - 1 - (i : Int) = ((items.size - 1 - i : Nat) : Int) by omega] at hit
    have hx : items[items.size - 1 - i]? = some (items[items.size - 1 - i]'(by omega)) := Array.getElem?_eq_getElem (by omega)
    refine next_rev hit hl hx fun h' hit' sb => hQ _ h' s.toks hx ⟨hi, ?_, hl.extBut sb.extBut hne⟩ sb
    rw [show (items.size : Int) - 1 - ((i + 1 : Nat) : Int) = ((items.size - 1 - i : Nat) : Int) - 1 by omega]
    exact hit'
  done := fun s Q E st hE => by
    obtain ⟨_, hit, _⟩ := st
    rw [show (items.size : Int) - 1 - (items.size : Int) = -1 by omega] at hit
    exact next_rev_end hh hit hE

/-- what may be iterated as it is: iter(v) is v -/
structure Self (v : Value) (H : Heap → Prop) : Prop where
  iter : ∀ (prog : Program) (w : World) (A : Around) (E : Value → Shared → Prop) (s : Shared) (Q : Value → Shared → Prop), H s.heap → Q v s → wpAny (model prog w) A (pyIter v) Q E s
theorem self_rev (it l : Addr) (i : Int) : Self (.ref it) fun h => h.IsRevIter it l i := ⟨fun _ _ _ _ _ _ h q => wpAny_pyIter_revIter h q⟩
set_option maxHeartbeats 4000000 in
theorem new_enum {v : Value} {H : Heap → Prop} (B : Self v H) (k : Int) (t : Tok) (hfit : Builtin.SmallTypes.fitsIndex k = true) :
    Meets (Builtin.«enumerate.__new__» ⟨[.type "enumerate", v], [(Str.ofString "start", .int k t)]⟩) (fun _ R s => H s.heap ∧
      R (.ok (.ret (.ref s.heap.objs.size))) { s with heap := s.heap.push { cls := .type "enumerate", data := .fields #[.none, .bool false, v, rawInt k, .none, .none] } }) := by
  refine .of_wp fun prog w A R s h => ?_
  obtain ⟨hp, g, d, tk, os⟩ := s
  obtain ⟨h1, h⟩ := h
  have hsub := sub_enumerate
  have hnf : (!Builtin.SmallTypes.fitsIndex k) = false := by rw [hfit] ; rfl
  have q1 : ∀ {A' : Around} {E : Value → Shared → Prop} {Q : Value → Shared → Prop}, Q v ⟨hp, g, d, tk, os⟩ → wpAny (model prog w) A' (pyIter v) Q E ⟨hp, g, d, tk, os⟩ := fun q => B.iter prog w _ _ _ _ h1 q
  have a1 : (Str.ofString "start" == ("start" : Str)) = true := by decide +kernel
  have a2 : (Str.ofString "start" != ("start" : Str)) = false := by decide +kernel
  have a3 : (Str.ofString "start" != ("iterable" : Str)) = true := by decide +kernel
  have a4 : (("start" : Str) == Str.ofString "start") = true := by decide +kernel
  have a5 : (("iterable" : Str) == Str.ofString "start") = false := by decide +kernel
  wp_walk using q1
  refine wpAny_stack_any fun st => wpAny_pure ?_
  split
  · rename_i c _ _ _ _ _
    cases (c == Value.type "enumerate")
    · wp_walk using q1
      exact ⟨_, rfl, h⟩
    · wp_walk using q1
      exact ⟨_, rfl, h⟩
  · wp_walk using q1
    exact ⟨_, rfl, h⟩
theorem call_enum {prog : Program} {w : World} {A : Around} {E : Value → Shared → Prop} {s : Shared} {v : Value} {H : Heap → Prop} {k : Int} {t : Tok} {Q : Value → Shared → Prop} (B : Self v H) (h1 : H s.heap)
    (b0 : -(2 ^ 63) ≤ k) (b1 : k < 2 ^ 63) (h : Q (.ref s.heap.objs.size) { s with heap := s.heap.push { cls := .type "enumerate", data := .fields #[.none, .bool false, v, rawInt k, .none, .none] } }) :
    wpAny (model prog w) A (call (.type "enumerate") [v] [(Str.ofString "start", .int k t)]) Q E s := by
  refine callType_newKw F.called_enumerate (by decide) (F.typeCall_enumerate_start _ _) (F.newCall_enumerate_start _ _) (fun obj => F.args_object_init_start obj _ _) F.entry_enumerate_new (new_enum B k t (fits_start b0 b1)) ⟨h1, ?_⟩
  exact ⟨⟨_, Heap.get?_push_size _ rfl, rfl⟩, h⟩
end VE
namespace VE
open PySem PySem.Spec PyProof.Rows L2
/-- k, k + 1, .. with the list at a (n items, which the loop leaves there) from its end, in new pairs -/
def Iter' (K : PySem.W.Frag) (a : Addr) (n : Nat) (k : Int) : It :=
  ⟨fun i H => i < n ∧ ∃ xs : List V, SqL K H a xs ∧ xs.length = n, fun i H v H' => ∃ T x, v = .ref T ∧ H T = none ∧ H' = upd H T (.tup [.int (k + (i : Nat)), x]) ∧ ∀ xs, SqL K H a xs → xs[n - 1 - i]? = some x,
    fun i H => n ≤ i ∧ ∃ xs : List V, SqL K H a xs ∧ xs.length = n⟩
theorem turn_enumRev {P : Program} {w : World} {K : PySem.W.Frag} {elts : List Expr} {kk : Nat} {tpos : Pos} (a e it : Addr) (n : Nat) (k : Int) (hai : a ≠ it) (hei : e ≠ it) (hea : e ≠ a) :
    Turn P w K (.Tuple elts kk tpos) (Iter' K a n k) [e, it] e (fun i h => (∃ old, IsEnum h e it (k + (i : Nat)) old) ∧ i ≤ n ∧ h.IsRevIter it a ((n : Int) - 1 - (i : Nat))) where
  mem := by simp
  obj := fun i h st b hb => by
    obtain ⟨⟨old, he⟩, _, o, ho, hc, hd⟩ := st
    have e' : b = e ∨ b = it := by simpa using hb
    rcases e' with z | z
    · rw [z]; exact ⟨_, he, fun v q => nomatch q⟩
    · rw [z]; exact ⟨o, ho, fun v q => by rw [hd] at q; cases q⟩
  keep := fun i h h' st kp => let ⟨⟨old, he⟩, hn, hi⟩ := st; ⟨⟨old, kp e (by simp) _ he⟩, hn, hi.at fun o q => kp it (by simp) o q⟩
  item := by
    intro X hP hw hK hc i pins s σ H E I hf st hg
    subst hP hw hK
    obtain ⟨⟨old, he⟩, hin, hit⟩ := st
    obtain ⟨hlt, xs, hq, hl⟩ := hg
    obtain ⟨its, rv, p, hz⟩ := I.list hq
    have hn : its.toArray.size = n := by rw [List.size_toArray, ← rv.length]; exact hl
    have hh : X.A.in1.handled = none := I.ok.hd hc
    have hel : e < s.heap.objs.size := Heap.lt_size he
    have hil : it < s.heap.objs.size := by obtain ⟨_, q, _⟩ := hit; exact Heap.lt_size q
    have D := draws_rev (prog := X.prog) (w := X.w) (A := X.A.in1) hh it a hai its.toArray
    rw [hn] at D
    refine wpAny_pyNext_enum_itemC D he ⟨hin, hit, p.isList⟩ hlt hei (by simp [hei, hea]) fun u h' tk hP ho hs' hT hsz hkp => ?_
    obtain ⟨_, hit', _⟩ := hs'
    have hx : xs[n - 1 - i]? = some (xs[n - 1 - i]'(by omega)) := List.getElem?_eq_getElem (by omega)
    obtain ⟨u', hu', ru⟩ := rv.get hx
    have hP' : its[n - 1 - i]? = some u := by simpa using hP
    have euu : u' = u := by rw [hP'] at hu'; exact (Option.some.inj hu').symm
    subst euu
    refine ⟨_, rfl, wpAny_letOwnedTupleGo_enum (s := { s with heap := h', toks := tk + 1 }) ho fun h'' he' sb => ?_⟩
    have hT2 : h''.get? s.heap.objs.size = some { cls := .type "tuple", data := .seq #[.int (k + (i : Nat)) tk, u'] } := (sb.2 _ (Nat.ne_of_gt hel)).trans hT
    have new : ObjOk X.prog X.w (upd H s.heap.objs.size (.tup [.int (k + (i : Nat)), xs[n - 1 - i]'(by omega)])) h'' s.heap.objs.size (.tup [.int (k + (i : Nat)), xs[n - 1 - i]'(by omega)]) :=
      ⟨by show 2 ≤ sizeLine; decide, [.int (k + (i : Nat)) tk, u'], .cons ⟨_, rfl⟩ (.cons ru .nil), ⟨_, hT2, rfl, _, rfl⟩⟩
    have I1 : Inv X pins σ (upd H s.heap.objs.size (.tup [.int (k + (i : Nat)), xs[n - 1 - i]'(by omega)])) { s with heap := h'', toks := tk + 1 } :=
      I.turnedNew (ch := [e, it]) (fun b ob hb q => (sb.2 b (fun z => hb (by simp [z]))).trans (hkp b ob (fun z => hb (by simp [z])) (fun z => hb (by simp [z])) q)) hf (Nat.le_refl _) new
    refine ⟨.ref s.heap.objs.size, _, I1, rfl, ⟨_, _, rfl, I.hok.fresh (Nat.le_refl _), rfl, fun ys hy => by rw [I.list_inj hy hq]; exact hx⟩, ⟨⟨u', ?_⟩, hlt, hit'.at fun o q => (sb.2 it (Ne.symm hei)).trans q⟩, fun b hb => ?_⟩
    · have e1 : k + ((i + 1 : Nat) : Int) = k + (i : Int) + 1 := by omega
      rw [e1]; exact he'
    · have hb' : b < s.heap.objs.size := by
        have e' : b = e ∨ b = it := by simpa using hb
        rcases e' with z | z
        · rw [z]; exact hel
        · rw [z]; exact hil
      rw [upd_ne (Nat.ne_of_lt hb')]
      exact (hf b hb).1
  done := by
    intro X hP hw hK hc i pins s σ H E I hf st hg
    subst hP hw hK
    obtain ⟨⟨old, he⟩, hin, hit⟩ := st
    obtain ⟨hge, xs, hq, hl⟩ := hg
    obtain ⟨its, rv, p, hz⟩ := I.list hq
    have hn : its.toArray.size = n := by rw [List.size_toArray, ← rv.length]; exact hl
    have hh : X.A.in1.handled = none := I.ok.hd hc
    obtain ⟨f0, f1, f2, f3, f4, f5⟩ := hf it (by simp)
    have D := draws_rev (prog := X.prog) (w := X.w) (A := X.A.in1) hh it a hai its.toArray
    rw [hn] at D
    have ei : i = n := by omega
    subst ei
    exact wpAny_pyNext_enum_endD D he ⟨Nat.le_refl _, hit, p.isList⟩ fun h' eb => ⟨rfl, I.turned (t' := s.toks) (fun b o hb q => eb b o hb q) f0 f1 f3 f4 f5⟩
  self := fun A i s Q E st h => let ⟨⟨_, he⟩, _⟩ := st; wpAny_pyIter_enum he h
theorem walk_enumRev {K : PySem.W.Frag} {a : Addr} {xs : List V} {k : Int} : Walk (Iter' K a xs.length k) xs.length (fun H => SqL K H a xs) (YPair (fun i => some (.int (k + (i : Nat)))) (fun i => xs[xs.length - 1 - i]?)) := by
  refine ⟨fun i _ hi q => ⟨hi, xs, q, rfl⟩, fun _ q => ⟨Nat.le_refl _, xs, q, rfl⟩, fun i H v H' _ q y => ?_⟩
  obtain ⟨T, x, h1, h2, h3, h4⟩ := y
  exact ⟨T, .int (k + (i : Nat)), x, h1, h2, h3, rfl, h4 xs q⟩
def iEnumRev (K : PySem.W.Frag) (ta : TA) (k : Int) : TI := fun σ H R => ta σ H fun vs H1 => ∃ (a : Addr) (xs : List V), vs = [.ref a] ∧ SqL K H1 a xs ∧ R (Iter' K a xs.length k) H1
section
variable {M : Model} {A : Around} {E : Value → Shared → Prop} {s : Shared} {env : Env}
theorem callWith_typeKw {pos : Pos} {T : String} {e : Expr} {rest : List Expr} {kws : List Keyword} {Q : Value → Shared → Prop} (hall : (backToKw pos (keywordEach kws env)).all (·.1.isSome) = true)
    (h : wpAny M A (spliced (backTo pos (starEach (e :: rest) env))) (fun vs s₁ => wpAny M A (evalAll ((backToKw pos (keywordEach kws env)).map (·.2)))
      (fun ks s₂ => wpAny M A (call (.type T) vs (((backToKw pos (keywordEach kws env)).filterMap (·.1)).zip ks)) Q E s₂) E s₁) E s)
    (hplain : ((backTo pos (starEach (e :: rest) env)).any (·.1) || (backToKw pos (keywordEach kws env)).any (·.1.isNone)) = false) (he : starEach (e :: rest) env = (false, eval e env) :: starEach rest env) :
    wpAny M A (callWith pos (.type T) [] (backTo pos (starEach (e :: rest) env)) (backToKw pos (keywordEach kws env))) Q E s := by
  unfold callWith
  refine wpAny_bind (wpAny_holding (wpAny_mono (evalArgs_kw2 (f := .type T) (Q := fun a s₁ => wpAny M A (call (.type T) a.pos a.kw) Q E s₁) hall h he) (fun a s₁ h₁ => wpAny_bind (wpAny_standAt ?_)) fun _ _ x => x))
  simp only [hplain]
  refine wpAny_bind (wpAny_pure ?_)
  exact wpAny_bind (wpAny_mono h₁ (fun r s₂ hr => wpAny_bind (wpAny_holding (wpAny_point (wpAny_pure hr)))) fun _ _ x => x)
theorem Call_kws {func : Expr} {args : List Expr} {kws : List Keyword} {pos : Pos} {Q : Value → Shared → Prop}
    (h : wpAny M A (eval func env) (fun f s₁ => wpAny M A (callWith pos f [] (backTo pos (starEach args env)) (backToKw pos (keywordEach kws env))) Q E s₁) E s)
    (he : eval (.Call func args kws pos) env = (do callWith pos (← eval func env) [] (backTo pos (starEach args env)) (backToKw pos (keywordEach kws env))) := by rfl) :
    wpAny M A (eval (.Call func args kws pos) env) Q E s := by
  rw [he]; exact wpAny_bind h
end
theorem pi_enumRev {X : Cx} {e : Expr} {ta : TA} {p p2 pos pos2 kp jp tpos : Pos} {j : Nat} {k : Int} {elts : List Expr} {kk : Nat} (hk0 : -(2 ^ 63) ≤ k) (hk1 : k < 2 ^ 63) (hg : Gl X "enumerate") (hm : X.mg "enumerate" = none) (hg2 : Gl X "reversed") (hm2 : X.mg "reversed" = none) (ha : PA X [e] ta)
    (hs : starEach [e] X.env = [(false, eval e X.env)] := by rfl)
    (hs2 : starEach [.Call (.Name "reversed" p2) [e] [] pos2] X.env = (false, eval (.Call (.Name "reversed" p2) [e] [] pos2) X.env) :: starEach [] X.env := by rfl)
    (hst : ∀ q, (backTo q (starEach [.Call (.Name "reversed" p2) [e] [] pos2] X.env)).any (·.1) = false := by exact fun _ => rfl)
    (hbs : eval (.Call (.Name "reversed" p2) [e] [] pos2) X.env = (do callWith pos2 (← eval (.Name "reversed" p2) X.env) [] (backTo pos2 (starEach [e] X.env)) (backToKw pos2 (keywordEach [] X.env))) := by rfl) :
    PI X (.Tuple elts kk tpos) (.Call (.Name "enumerate" p) [.Call (.Name "reversed" p2) [e] [] pos2] [⟨some "start", .Constant (.int k) j jp, kp⟩] pos) (iEnumRev X.K ta k) := by
  refine ⟨fun pins s σ H R I h => ?_⟩
  refine Call_kws (ld_blt I hg hm boot_enumerate (callWith_typeKw rfl (args_cons ?_ hs2) (by rw [hst]; rfl) hs2))
  refine Call_ (ld_blt I hg2 hm2 PyProof.Rows.boot_reversed (PyProof.Rows.callWith_type1 (thn (ha.run pos2 pins s σ H _ I h) fun us s1 ⟨vs, H1, I1, r1, q1⟩ => ?_) hs rfl)) hbs
  obtain ⟨a, xs, ex, hq, q⟩ := q1
  subst ex
  cases r1 with
  | cons r rr =>
    cases rr
    cases r
    obtain ⟨its, rv, p', hz⟩ := I1.list hq
    have hl := rv.length
    have hal : a < s1.heap.objs.size := by obtain ⟨_, _, z, _⟩ := p'; exact Heap.lt_size z
    refine call_reversed_list p'.isList (args_nil (kws_cons (wpAny_Constant_int (kws_nil ?_))))
    have sz1 : (s1.heap.push { cls := .type "list_reverseiterator", data := .fields #[.ref a, rawInt (((its.toArray.size : Nat) : Int) - 1)] }).objs.size = s1.heap.objs.size + 1 := Heap.size_push ..
    have hit0 : (s1.heap.push { cls := .type "list_reverseiterator", data := .fields #[.ref a, rawInt (((its.toArray.size : Nat) : Int) - 1)] }).IsRevIter s1.heap.objs.size a (((its.toArray.size : Nat) : Int) - 1) := ⟨_, Heap.get?_push_size _ rfl, rfl, rfl⟩
    refine call_enum (self_rev s1.heap.objs.size a (((its.toArray.size : Nat) : Int) - 1)) hit0 hk0 hk1 ?_
    have he : IsEnum ((s1.heap.push { cls := .type "list_reverseiterator", data := .fields #[.ref a, rawInt (((its.toArray.size : Nat) : Int) - 1)] }).push { cls := .type "enumerate", data := .fields #[.none, .bool false, .ref s1.heap.objs.size, rawInt k, .none, .none] }) (s1.heap.objs.size + 1) s1.heap.objs.size k .none := by
      have := Heap.get?_push_size (s1.heap.push { cls := .type "list_reverseiterator", data := .fields #[.ref a, rawInt (((its.toArray.size : Nat) : Int) - 1)] }) (o := { cls := .type "enumerate", data := .fields #[.none, .bool false, .ref s1.heap.objs.size, rawInt k, .none, .none] }) rfl
      rw [sz1] at this; exact this
    show wpAny _ _ (pyIter (.ref (s1.heap.push { cls := .type "list_reverseiterator", data := .fields #[.ref a, rawInt (((its.toArray.size : Nat) : Int) - 1)] }).objs.size)) _ _ _
    rw [sz1]
    refine wpAny_pyIter_enum he ?_
    have hit1 := hit0.at (h' := (s1.heap.push { cls := .type "list_reverseiterator", data := .fields #[.ref a, rawInt (((its.toArray.size : Nat) : Int) - 1)] }).push { cls := .type "enumerate", data := .fields #[.none, .bool false, .ref s1.heap.objs.size, rawInt k, .none, .none] }) fun o q => Heap.get?_push_of_some _ q
    refine ⟨s1.heap.objs.size + 1, [s1.heap.objs.size + 1, s1.heap.objs.size], _, _, H1, rfl, ?_, turn_enumRev a (s1.heap.objs.size + 1) s1.heap.objs.size xs.length k (Nat.ne_of_lt hal) (Nat.succ_ne_self _) (Nat.ne_of_gt (Nat.lt_succ_of_lt hal)), ⟨⟨.none, ?_⟩, Nat.zero_le _, ?_⟩, fun b hb => ?_, q⟩
    · exact I1.kept fun b ob q => Heap.get?_push_of_some _ (Heap.get?_push_of_some _ q)
    · rw [show k + ((0 : Nat) : Int) = k by omega]; exact he
    · rw [show (xs.length : Int) - 1 - ((0 : Nat) : Int) = ((its.toArray.size : Nat) : Int) - 1 by rw [List.size_toArray]; omega]; exact hit1
    · have e' : b = s1.heap.objs.size + 1 ∨ b = s1.heap.objs.size := by simpa using hb
      have hle : s1.heap.objs.size ≤ b := by
        rcases e' with z | z
        · rw [z]; exact Nat.le_add_right _ _
        · rw [z]; exact Nat.le_refl _
      exact I1.fpOk hle (I1.hok.fresh hle)
end VE

/-! A method called with keywords. -/
namespace VP
open PySem PySem.Spec PyProof.Rows L2
/-- o.m(e, .., k = v, ..) -/
def tMethKw (C : Addr) (m : Str) (n j : Nat) (sp : Sp) (gV : List V → List V → List V) (E : XK) (ta : TE) (t tk : TA) : TE := fun σ H Q =>
  ta σ H fun x H1 => ∃ a dx fs, x = .ref a ∧ H1 a = some (.ins C dx fs) ∧ fs.lookup m = none ∧
    t σ H1 fun vs H2 => tk σ H2 fun zs H3 => vs.length = n ∧ zs.length = j ∧ sp (gV (x :: vs) zs) H3 Q E
theorem pe_methKw {X : Cx} {CX : CXT} {k n : Nat} {f C : Addr} {fd : FuncData} {ps ks : List Str} {sp : Sp} {E : XK} {m : Str} {pos apos : Pos} {o e : Expr} {es : List Expr} {kws : List Keyword} {ta : TE} {t tk : TA}
    {g : List Value → List Value → List Value} {gV : List V → List V → List V} {pl : Sem Bool}
    (he : PE X o ta) (c : Cls X.K C) (hm : Meth X.K C m f) (F : FnOk X.prog X.w X.K X.mg X.base CX k f fd ps sp) (hr : Room k X.A)
    (hb : KBn X.K fd ps (n + 1) ks g gV) (hx : Passes CX X E) (ha : PA X (e :: es) t) (hkw : PK X kws tk)
    (hall : (backToKw pos (keywordEach kws X.env)).all (·.1.isSome) = true := by rfl) (hks : (backToKw pos (keywordEach kws X.env)).filterMap (·.1) = ks := by rfl)
    (hst : starEach (e :: es) X.env = (false, eval e X.env) :: starEach es X.env := by rfl)
    (hpl : ((backTo pos (starEach (e :: es) X.env)).any (·.1) || (backToKw pos (keywordEach kws X.env)).any (·.1.isNone)) = false := by rfl)
    (ht : eval (.Call (.Attribute o m apos) (e :: es) kws pos) X.env = (do
      let ov ← eval o X.env
      standAt apos.atName
      let (f, first) ← holding [ov] (getMethod ov m pl)
      callWith pos f first (backTo pos (starEach (e :: es) X.env)) (backToKw pos (keywordEach kws X.env))) := by rfl) :
    PE X (.Call (.Attribute o m apos) (e :: es) kws pos) (tMethKw C m n ks.length sp gV E ta t tk) := by
  constructor
  intro pins s σ H Q I h
  refine PySem.W.methodCall_KW (pl := pl) (thn (he.run pins s σ H _ I h) ?_) ht
  rintro u s1 ⟨x, H1, I1, rx, a, dx, fs, ex, ea, l, q⟩
  subst ex
  obtain rfl : u = Value.ref a := rx
  refine getmeth_ok I1 ea c hm l ?_
  refine PySem.W.callWith_KW (first := [.ref a]) (h₀ := X.base) I.ok.mod.kin hm.kp hall (thn (ha.run pos pins s1 σ H1 _ I1 q) ?_) hpl hst
  rintro us s2 ⟨vs, H2, I2, r, q2⟩
  refine thn (hkw.run pos pins s2 σ H2 _ I2 q2) ?_
  rintro ws s3 ⟨zs, H3, I3, rz, l1, l2, q3⟩
  refine ⟨I3.kIn, ?_⟩
  rw [hks]
  have r1 : Vals (V.ref a :: vs) (Value.ref a :: us) := .cons rfl r
  have rel := hb.rel r1 rz
  have len : (Value.ref a :: us).length = n + 1 := by rw [List.length_cons, ← r.length, l1]
  have bind := hb.to s3 (Value.ref a :: us) ws I3.kIn len (rz.length.symm.trans l2)
  show wpAny _ _ (call (.ref f) (Value.ref a :: us) (ks.zip ws)) _ _ _
  refine wpAny_call (codeAny_mono (F.run X.A X.stack s3 H3 ⟨Value.ref a :: us, ks.zip ws⟩ _ _ Q E hr I3.env0 bind rel q3) ?_)
  intro res s' hq
  match res, hq with
  | .error e, hq => exact hx pins σ H3 s3 e s' I3 hq
  | .ok (.ret u), hq => exact I3.after hq
  | .ok .next, hq => exact False.elim hq
  | .ok .brk, hq => exact False.elim hq
  | .ok .cont, hq => exact False.elim hq
end VP

/-! == and != by an own __eq__ whatever stands on the right, repr by an own __repr__, None in an f-string. -/
namespace VN
open PySem PySem.Spec PyProof.Rows L2

section
variable {prog : Program} {w : World} {A : Around} {E : Value → Shared → Prop} {s : Shared} {K : PySem.W.Frag} {x C L f : Addr} {h₀ : Heap} {m : Str → Option Value} {ox : Obj} {od : Option Obj} {b tb : Value}
theorem bound_builtin {M : Model} {name : Str} {id : String} {args : List Value} {Q : Option Value → Shared → Prop} (X : K.In s.heap) (I : PySem.W.InstAt s.heap x ox C od) (hs : PySem.W.findIn K (.ref C) name = some (some (.builtin id)))
    (hb : ∀ self, bindSpecial (.builtin id) self = pure (.builtin id, [self]))
    (h : wpAny M A (call (.builtin id) (.ref x :: args)) (fun v => Q (some v)) E s) : wpAny M A (callSpecialIfBound? (.ref x) name args) Q E s := by
  simp only [callSpecialIfBound?, bindSpecialIfBound?]
  refine wpAny_holding (wpAny_bind (wpAny_bind (wpAny_bind (I.type.here ((PySem.W.looks_findIn X hs).here ?_)))))
  refine wpAny_bind (wpAny_askSetting (wpAny_ite ?_))
  have fin : wpAny M A (call (.builtin id) ([.ref x] ++ args) >>= fun v => pure (some v)) Q E s := wpAny_bind (wpAny_mono h (fun v s' h' => wpAny_pure h') fun _ _ h' => h')
  split
  · exact wpAny_bind ((PySem.W.Looks.of_pure (hb _)).here (wpAny_pure (by exact fin)))
  · exact wpAny_tryCatch (wpAny_bind ((PySem.W.Looks.of_pure (hb _)).here (wpAny_pure (by exact fin))))
open Builtin in
theorem obj_ne {Q : Value → Shared → Prop} (hu : A.in1.units < cLine) (X : K.In s.heap) (I : PySem.W.InstAt s.heap x ox C od) (hm : PySem.W.mroIn K C (.type "object") = some true)
    (hs : PySem.W.findIn K (.ref C) "__eq__" = some (some (.ref f))) (hf : PySem.W.isFn K (.ref f) = true)
    (h : wpAny (model prog w) A.in1 (call (.ref f) [.ref x, b]) (fun v s' => ∃ r, v = .bool r ∧ Q (.bool (!r)) s') E s) : wpAny (model prog w) A (call (.builtin "object.__ne__") [.ref x, b]) Q E s := by
  refine wpAny_call (codeAny_call_builtin PySem.F.slot_zip_ne.plain PySem.F.cmpEntry_ne (PySem.W.check_slot (i := "object.__ne__") (owner := "object") (n := "__ne__") PySem.F.cmpKind_ne PySem.F.cmpSplit_ne (I.type.andThen (PySem.W.looks_mroIn X hm)) (PySem.F.cmpArgs_ne _ _) ?_))
  unfold Builtin.«object.__ne__»
  refine wpAny_bind (m := slotArgs "__ne__" 1 _) (wpAny_pure ?_)
  refine wpAny_bind (m := cRoomFor _ _) (wpAny_cRoomFor hu ?_)
  refine wpAny_bind (m := callSpecialIfBound? (.ref x) (Str.ofString "__eq__") _) (PySem.W.ifBound_K X I hs hf (wpAny_mono h (fun r s' hq => ?_) fun _ _ y => y))
  obtain ⟨r, rfl, hq⟩ := hq
  exact wpAny_bind (wpAny_truthy_bool (wpAny_pure hq))
theorem ne_K {Q : Value → Shared → Prop} (hu : A.units + 1 < cLine) (F : PyProof.Rows.Fr h₀ L s.heap m) (X₀ : K.In h₀) (I : PySem.W.InstAt s.heap x ox C od) (hb : PySem.W.Looks (model prog w) s.heap (typeOf b) tb) (hn : PySem.W.notFirst K C tb = true)
    (hne : PySem.W.findIn K (.ref C) "__ne__" = some (some (.builtin "object.__ne__"))) (hm : PySem.W.mroIn K C (.type "object") = some true)
    (hs : PySem.W.findIn K (.ref C) "__eq__" = some (some (.ref f))) (hf : PySem.W.isFn K (.ref f) = true)
    (h : wpAny (model prog w) A.in1 (call (.ref f) [.ref x, b]) (fun v s' => ∃ r, v = .bool r ∧ Q (.bool (!r)) s') E s) : wpAny (model prog w) A (richCompare .NotEq (.ref x) b) Q E s := by
  have X := X₀.keeps F.keep
  have hu1 : A.in1.units < cLine := by show A.units + 1 < _; exact hu
  have one : wpAny (model prog w) A (tryCompare (.ref x) (cmpInfo .NotEq).2.1 b) (fun r s' => ∃ v, r = some v ∧ Q v s') E s := by
    unfold tryCompare
    refine wpAny_bind (bound_builtin X I hne PySem.F.slot_zip_ne.bind (obj_ne hu1 X I hm hs hf (wpAny_mono h (fun v s' hv => ?_) fun _ _ e => e)))
    obtain ⟨r, rfl, q⟩ := hv
    exact ⟨r, rfl, wpAny_pure ⟨_, rfl, q⟩⟩
  unfold richCompare
  simp only [oneThing_ref]
  refine wpAny_holding (wpAny_bind (wpAny_cRoomFor (by omega) ?_))
  refine wpAny_bind (I.type.here (wpAny_bind (hb.here ?_)))
  split
  · rename_i q
    have e : PySem.W.subIn K tb (.ref C) = some false := by
      rcases Bool.or_eq_true_iff.mp hn with e | e
      · rw [beq_iff_eq.mp e] at q; simp at q
      · exact beq_iff_eq.mp e
    refine wpAny_bind ((PySem.W.looks_subIn X e).here ?_)
    simp only [Bool.false_eq_true, if_false]
    refine wpAny_bind (wpAny_mono one (fun r s' z => ?_) fun _ _ e => e)
    obtain ⟨v, rfl, hq⟩ := z
    exact wpAny_pure hq
  · refine wpAny_bind (wpAny_pure ?_)
    simp only [Bool.false_eq_true, if_false]
    refine wpAny_bind (wpAny_mono one (fun r s' z => ?_) fun _ _ e => e)
    obtain ⟨v, rfl, hq⟩ := z
    exact wpAny_pure hq
end

/-- what of the text is true of an own class that is only a class: its instances' type, isinstance, != -/
structure IsC (K : PySem.W.Frag) (C : Addr) : Prop where
  ic : PySem.W.isClsIn K C = true
  ty : PySem.W.typeIn K (.ref C) = some (.type "type")
  gc : PySem.W.findIn K (.ref C) "__class__" = some (some (.builtin "object.__class__"))
  gn : PySem.W.specialIn K (.builtin "object.__class__") "__get__" = some (some (.builtin "getset_descriptor.__get__"))
  tk : PySem.W.takesIn K (.builtin "object.__class__") = some true
  ob : PySem.W.mroIn K C (.type "object") = some true
  ne : PySem.W.findIn K (.ref C) "__ne__" = some (some (.builtin "object.__ne__"))
/-- the built-in classes of the values that occur -/
def kinds : List String := ["NoneType", "bool", "int", "str", "list", "tuple", "dict"]
def allTy (l : List Value) : Bool := l.all fun v => match v with | .type _ => true | _ => false
theorem kinds_mro : kinds.all (fun n => (PySem.fastBuiltinMro n).any allTy) = true := by decide +kernel
theorem sub_ty {K : PySem.W.Frag} {C : Addr} {n : String} (h : n ∈ kinds) : PySem.W.subIn K (.type n) (.ref C) = some false := by
  have k := List.all_eq_true.mp kinds_mro n h
  show Option.map (fun x => List.contains x (Value.ref C)) (PySem.fastBuiltinMro n) = some false
  cases e : PySem.fastBuiltinMro n with
  | none => rw [e] at k; cases k
  | some l =>
    rw [e] at k
    have k : allTy l = true := k
    show some (List.contains l (Value.ref C)) = some false
    congr 1
    rw [List.contains_eq_any_beq, List.any_eq_false]
    intro y hy c
    have e2 := eq_of_beq c
    have := List.all_eq_true.mp k y hy
    rw [← e2] at this
    cases this
theorem notFirst_ty {K : PySem.W.Frag} {C : Addr} {n : String} (h : n ∈ kinds) : PySem.W.notFirst K C (.type n) = true := by
  unfold PySem.W.notFirst
  rw [sub_ty h]
  simp
theorem notFirst_own {K : PySem.W.Frag} {C : Addr} : PySem.W.notFirst K C (.ref C) = true := by
  unfold PySem.W.notFirst
  simp
theorem kit_self {K : PySem.W.Frag} {C : Addr} : PySem.W.kitOne K (.ref C) (.ref C) = some true := by
  unfold PySem.W.kitOne
  rw [if_pos (by simp)]
theorem kit_no {K : PySem.W.Frag} {C : Addr} {n : String} (c : IsC K C) (h : n ∈ kinds) : PySem.W.kitOne K (.type n) (.ref C) = some false := by
  have hc : (PySem.W.clsIn K C).isSome = true := c.ic
  unfold PySem.W.kitOne
  rw [if_neg (by simp)]
  unfold PySem.W.kitCls
  show (if ((PySem.W.clsIn K C).isSome && PySem.W.typeIn K (.ref C) == some (.type "type")) = true then PySem.W.subIn K (.type n) (.ref C) else none) = some false
  rw [hc, c.ty, if_pos (by simp), sub_ty h]
theorem IsC.typ {K : PySem.W.Frag} {C a dx : Addr} {H : Hp} {fs : List (Str × V)} (c : IsC K C) (cl : Cls K C) (e : H a = some (.ins C dx fs)) : TyX K H (.ref a) (.ref C) := .base (.ins e cl c.gc c.gn c.tk c.ob)
def rOwn (K : PySem.W.Frag) (C : Addr) (sp : Sp) (E : XK) : R2 := fun x y H Q => ∃ a dx fs t, x = .ref a ∧ H a = some (.ins C dx fs) ∧ TyX K H y t ∧ PySem.W.notFirst K C t = true ∧ sp [x, y] H (fun v H' => ∃ b, v = .bl b ∧ Q (.bl b) H') E
def rOwnN (K : PySem.W.Frag) (C : Addr) (sp : Sp) (E : XK) : R2 := fun x y H Q => ∃ a dx fs t, x = .ref a ∧ H a = some (.ins C dx fs) ∧ TyX K H y t ∧ PySem.W.notFirst K C t = true ∧ sp [x, y] H (fun v H' => ∃ b, v = .bl b ∧ Q (.bl (!b)) H') E
def rReprOwn (C : Addr) (sp : Sp) (E : XK) : List V → Hp → VK → Prop := fun xs H Q => ∃ a dx fs, xs = [.ref a] ∧ H a = some (.ins C dx fs) ∧ sp [.ref a] H (fun v H' => ∃ y, v = .str y ∧ Q (.str y) H') E
section
variable {X : Cx} {CX : CXT} {k : Nat} {f C : Addr} {fd : FuncData} {ps : List Str} {sp : Sp} {E : XK}
theorem op_eqOwn (F : FnOk X.prog X.w X.K X.mg X.base CX k f fd ps sp) (hr : Room k X.A) (o : Meth X.K C "__eq__" f) (c : IsC X.K C) (hb : Binds X.K fd ps []) (hx : Passes CX X E) : OpR X (compareOp .Eq) (rOwn X.K C sp E) := by
  intro pins s σ H x y v u Q I rx ry h
  obtain ⟨a, dx, fs, t, rfl, ea, ty, nf, hsp⟩ := h
  obtain rfl : v = Value.ref a := rx
  obtain ⟨mA, J, _⟩ := ins_get I.hok ea
  obtain ⟨od, J, _⟩ := J.look
  obtain ⟨m, hF⟩ := I.fr
  obtain ⟨P, Z, p, _⟩ := kit_of I ry ty
  show wpAny (model X.prog X.w) X.A (richCompare .Eq (.ref a) u) (EP X pins σ Q) X.xe s
  refine PySem.W.cmp_K (op := .Eq) (tb := t) hr.units0 hF I.ok.mod.kin J (Z.ty _ _ I.kIn p) nf o.at_ o.fn ?_
  have hl := F.len _ _ _ _ hsp
  have r2 : Vals [V.ref a, y] [Value.ref a, u] := .cons rfl (.cons ry .nil)
  refine wpAny_call (codeAny_mono (F.run X.A X.stack s H ⟨[.ref a, u], []⟩ [.ref a, u] [.ref a, y] _ E hr I.env0 (by
    have := hb s [.ref a, u] I.kIn (by simpa using hl)
    simpa using this) r2 hsp) fun r s' hq => ?_)
  cases r with
  | error e => exact hx pins σ H s e s' I hq
  | ok fl =>
    cases fl with
    | ret w =>
      obtain ⟨z, H', I', rz, b, ez, q⟩ := I.after hq
      subst ez
      cases rz
      exact ⟨.bl b, H', I', rfl, q⟩
    | next => exact False.elim hq
    | brk => exact False.elim hq
    | cont => exact False.elim hq
theorem op_neOwn (F : FnOk X.prog X.w X.K X.mg X.base CX k f fd ps sp) (hr : Room (k + 1) X.A) (o : Meth X.K C "__eq__" f) (c : IsC X.K C) (hb : Binds X.K fd ps []) (hx : Passes CX X E) : OpR X (compareOp .NotEq) (rOwnN X.K C sp E) := by
  intro pins s σ H x y v u Q I rx ry h
  obtain ⟨a, dx, fs, t, rfl, ea, ty, nf, hsp⟩ := h
  obtain rfl : v = Value.ref a := rx
  obtain ⟨mA, J, _⟩ := ins_get I.hok ea
  obtain ⟨od, J, _⟩ := J.look
  obtain ⟨m, hF⟩ := I.fr
  obtain ⟨P, Z, p, _⟩ := kit_of I ry ty
  show wpAny (model X.prog X.w) X.A (richCompare .NotEq (.ref a) u) (EP X pins σ Q) X.xe s
  refine ne_K (tb := t) (by have := hr.un; omega) hF I.ok.mod.kin J (Z.ty _ _ I.kIn p) nf c.ne c.ob o.at_ o.fn ?_
  have hl := F.len _ _ _ _ hsp
  have r2 : Vals [V.ref a, y] [Value.ref a, u] := .cons rfl (.cons ry .nil)
  refine wpAny_call (codeAny_mono (F.run X.A.in1 X.stack s H ⟨[.ref a, u], []⟩ [.ref a, u] [.ref a, y] _ E hr.in1 I.env0.in1 (by
    have := hb s [.ref a, u] I.kIn (by simpa using hl)
    simpa using this) r2 hsp) fun r s' hq => ?_)
  cases r with
  | error e => exact hx pins σ H s e s' I hq
  | ok fl =>
    cases fl with
    | ret w =>
      obtain ⟨z, H', I', rz, b, ez, q⟩ := I.after hq
      subst ez
      cases rz
      exact ⟨b, rfl, .bl (!b), H', I', rfl, q⟩
    | next => exact False.elim hq
    | brk => exact False.elim hq
    | cont => exact False.elim hq
theorem call_reprOwn (F : FnOk X.prog X.w X.K X.mg X.base CX k f fd ps sp) (hr : Room (k + 1) X.A) (o : Meth X.K C "__repr__" f) (hb : Binds X.K fd ps []) (hx : Passes CX X E) :
    CallR X (.builtin "repr") (rReprOwn C sp E) := by
  intro pins s σ H xs us Q I r h
  obtain ⟨a, dx, fs, rfl, ea, hsp⟩ := h
  obtain ⟨u, rfl, ru⟩ := vals1 r
  obtain rfl : u = Value.ref a := ru
  obtain ⟨mA, J, _⟩ := ins_get I.hok ea
  obtain ⟨od, J, _⟩ := J.look
  obtain ⟨m, hF⟩ := I.fr
  refine PySem.W.repr_K hr.in1.units0 hF I.ok.mod.kin J o.at_ o.fn ?_
  have hl := F.len _ _ _ _ hsp
  refine wpAny_call (codeAny_mono (F.run X.A.in1 X.stack s H ⟨[.ref a], []⟩ [.ref a] [.ref a] _ E hr.in1 I.env0.in1 (by
    have := hb s [.ref a] I.kIn (by simpa using hl)
    simpa using this) (.cons rfl .nil) hsp) fun r s' hq => ?_)
  cases r with
  | error e => exact hx pins σ H s e s' I hq
  | ok fl =>
    cases fl with
    | ret w =>
      obtain ⟨z, H', I', rz, y, ez, q⟩ := I.after hq
      subst ez
      obtain ⟨t, rfl⟩ := rz
      exact ⟨.str y, H', I', ⟨t, rfl⟩, q⟩
    | next => exact False.elim hq
    | brk => exact False.elim hq
    | cont => exact False.elim hq
theorem units1 {k : Nat} {A : Around} (hr : Room k A) : A.units + 1 < cLine := by
  have := hr.un
  omega
/-- {x}: a text, an int or None -/
def tFmtN (te : TE) : TE := fun σ H Q => te σ H fun x H1 => (∃ y : Str, x = .str y ∧ y.length ≤ sizeLine ∧ Q (.str y) H1) ∨ (∃ i : Int, x = .int i ∧ i.natAbs.log2 < 1920 ∧ Q (.str (toString i)) H1) ∨ (x = .non ∧ Q (.str "None") H1)
theorem pe_fmtN {e : Expr} {te : TE} {pos : Pos} (he : PE X e te) : PE X (.FormattedValue e (-1) none pos) (tFmtN te) := by
  refine ⟨fun pins s σ H Q I h => ?_⟩
  refine wpAny_FormattedValue_plain (thn (he.run pins s σ H _ I h) fun v s1 hv => ?_)
  obtain ⟨x, H1, I1, r1, q⟩ := hv
  rcases q with ⟨y, rfl, hz, q⟩ | ⟨i, rfl, hz, q⟩ | ⟨rfl, q⟩
  · obtain ⟨t, rfl⟩ := r1
    exact wpAny_formatField_str ⟨.str y, H1, I1, ⟨t, rfl⟩, q⟩ ⟨.str y, H1, I1.tok _, ⟨_, rfl⟩, q⟩ hz
  · obtain ⟨t, rfl⟩ := r1
    exact wpAny_formatField_int hz ⟨.str (toString i), H1, I1.tok _, ⟨_, rfl⟩, q⟩
  · cases r1
    exact wpAny_formatField_none ⟨.str "None", H1, I1.tok _, ⟨_, rfl⟩, q⟩
/-- str(None), str(int) -/
def rStrIN : List V → Hp → VK → Prop := fun xs H Q => (∃ i : Int, xs = [.int i] ∧ i.natAbs.log2 < 1920 ∧ Q (.str (toString i)) H) ∨ (xs = [.non] ∧ Q (.str "None") H)
theorem call_strIN : CallR X (.type "str") rStrIN := by
  intro pins s σ H xs us Q I r h
  rcases h with ⟨i, rfl, hz, q⟩ | ⟨rfl, q⟩
  · obtain ⟨u, rfl, t, rfl⟩ := vals1 r
    exact PySem.P.str_of_int hz ⟨.str _, H, I.tok _, ⟨_, rfl⟩, q⟩
  · obtain ⟨u, rfl, ru⟩ := vals1 r
    cases ru
    exact PySem.P.str_of_none ⟨.str _, H, I.tok _, ⟨_, rfl⟩, q⟩
end
end VN

/-! Own errors over any built-in base, with an __init__ that is walked as a def: made, raised, asked. -/
namespace VX
open PySem PySem.Spec PyProof.Rows L2
/-- a built-in base of errors -/
structure Bs (B newId initId : String) (bmB : List Value) : Prop where
  bs : ExcBaseFacts B newId initId bmB
  st : StoreFacts B bmB "object.__setattr__" "object"
theorem bsV : Bs "ValueError" "ValueError.__new__" "ValueError.__init__" [.type "ValueError", .type "Exception", .type "BaseException", .type "object"] := ⟨F.excBase_ValueError, F.store_ValueError⟩
theorem bsR : Bs "RuntimeError" "RuntimeError.__new__" "RuntimeError.__init__" [.type "RuntimeError", .type "Exception", .type "BaseException", .type "object"] := ⟨F.excBase_RuntimeError, F.store_RuntimeError⟩
theorem bsL : Bs "LookupError" "LookupError.__new__" "LookupError.__init__" [.type "LookupError", .type "Exception", .type "BaseException", .type "object"] := ⟨F.excBase_LookupError, F.store_LookupError⟩
theorem bsA : Bs "ArithmeticError" "ArithmeticError.__new__" "ArithmeticError.__init__" [.type "ArithmeticError", .type "Exception", .type "BaseException", .type "object"] := ⟨F.excBase_ArithmeticError, F.store_ArithmeticError⟩
/-- what the written part says of an own class of errors -/
structure Own (K : PySem.W.Frag) (C : Addr) : Prop where
  base : ∃ B newId initId bmB, Bs B newId initId bmB ∧ PySem.W.excInitIn K C bmB newId = true ∧ PySem.W.excOver K C bmB = true
  hasD : PySem.W.hasDictIn K C = true
  setA : PySem.W.findIn K (.ref C) "__setattr__" = some (some (.builtin "object.__setattr__"))
  isE : PySem.W.subIn K (.ref C) (.type "BaseException") = some true
  isT : PySem.W.typeIn K (.ref C) = some (.type "type")
  keep : PySem.W.keepIn K (.ref C) = true

section
variable {prog : Program} {w : World} {A : Around} {R : Result → Shared → Prop} {hp : Heap} {g : Array GenState} {d : Drawn} {t : Nat} {os : OsState} {K : PySem.W.Frag} {x C : Addr} {f : Str} {tk : Tok} {v : Value} {fv : Array Value}
open Builtin Builtin.ObjectAttr PySem.W PySem.Calls
theorem own_cls (O : Own K C) : ∃ cd, clsIn K C = some cd ∧ cd.hasDict = true := any_some O.hasD
/-- the first field: the dict is laid -/
theorem st_first (O : Own K C) (X : K.In hp) (hx : hp.get? x = some { cls := .ref C, data := .fields fv }) (no : findIn K (.ref C) f = some none)
    (q : ∀ h2 tk2 dj, (∀ b o, b ≠ x → hp.get? b = some o → h2.get? b = some o) → hp.objs.size ≤ dj → dj ≠ x → h2.get? x = some { cls := .ref C, dict := some dj, data := .fields fv } →
      h2.Ns1 dj (fun y => if y = f then some v else none) → R (.ok (.ret .none)) ⟨h2, g, d, tk2, os⟩) :
    codeAny (model prog w) A (.call (.builtin "object.__setattr__") ⟨[.ref x, .str f tk, v], []⟩) R ⟨hp, g, d, t, os⟩ := by
  obtain ⟨B, nI, iI, bmB, S, _, ov⟩ := O.base
  obtain ⟨cd, hc, hh⟩ := own_cls O
  have J : InstAt hp x { cls := .ref C, data := .fields fv } C none := ⟨hx, rfl, rfl, trivial⟩
  have far : x ≠ hp.objs.size := Nat.ne_of_lt (Heap.lt_size hx)
  have look : Looks (model prog w) hp (classData C) cd := looks_clsIn X hc
  refine osa_openX (r := none) S.st X J ov (by unfold takerIn; rw [no]; rfl) fun b => ?_
  obtain ⟨nm, bs, mro, ns, qn, hd, sn, sb, ab, col, del⟩ := cd
  dsimp only at hh
  subst hh
  show wpAny _ _ (storeInOwnDict (.ref x) (.ref C) (.str f tk) f v b) _ _ _
  unfold storeInOwnDict ownDictForStores
  repeat (first | with_reducible refine HandSPX.store_in_new ?_ ?_ | with_reducible refine wpAny_loadPart_at hx ?_ | with_reducible refine look.at ?_ | wp_step)
  · exact ⟨_, #[], _, (Heap.get?_update_ne _ _ _ _ far.symm).trans (Heap.get?_push_at rfl rfl), rfl, fun e he => absurd he (by simp), fun _ => rfl⟩
  · intro h2 tk2 ns2 same
    have there : (hp.push { cls := .type "dict", data := .dict #[] }).get? x = some { cls := .ref C, data := .fields fv } := Heap.get?_push_of_some _ hx
    exact q h2 tk2 hp.objs.size
      (fun b o nb e => (same.2 b (Nat.ne_of_lt (Heap.lt_size e))).trans ((Heap.get?_update_ne _ _ _ _ nb).trans (Heap.get?_push_of_some _ e)))
      (Nat.le_refl _) far.symm ((same.2 x far).trans (Heap.get?_update_self _ there rfl)) ns2
/-- a further field -/
theorem st_more {dj : Addr} {m0 : Str → Option Value} {nl : List Str} (O : Own K C) (X : K.In hp) (hx : hp.get? x = some { cls := .ref C, dict := some dj, data := .fields fv }) (hn : hp.Ns1 dj m0) (hw : Within m0 nl) (hz : nl.length ≤ 1000)
    (no : findIn K (.ref C) f = some none)
    (q : ∀ h2 tk2, (∀ b o, b ≠ dj → hp.get? b = some o → h2.get? b = some o) → h2.Ns1 dj (fun y => if y = f then some v else m0 y) → R (.ok (.ret .none)) ⟨h2, g, d, tk2, os⟩) :
    codeAny (model prog w) A (.call (.builtin "object.__setattr__") ⟨[.ref x, .str f tk, v], []⟩) R ⟨hp, g, d, t, os⟩ := by
  obtain ⟨B, nI, iI, bmB, S, _, ov⟩ := O.base
  obtain ⟨cd, hc, hh⟩ := own_cls O
  obtain ⟨od, _, _, hod, _, _⟩ := hn.count hw
  have J : InstAt hp x { cls := .ref C, dict := some dj, data := .fields fv } C (some od) := ⟨hx, rfl, rfl, hod⟩
  have look : Looks (model prog w) hp (classData C) cd := looks_clsIn X hc
  refine osa_openX (r := none) S.st X J ov (by unfold takerIn; rw [no]; rfl) fun b => ?_
  obtain ⟨nm, bs, mro, ns, qn, hd, sn, sb, ab, col, del⟩ := cd
  dsimp only at hh
  subst hh
  show wpAny _ _ (storeInOwnDict (.ref x) (.ref C) (.str f tk) f v b) _ _ _
  unfold storeInOwnDict ownDictForStores
  repeat (first | with_reducible refine OEX.store_in_old hn hw hz ?_ | with_reducible refine wpAny_loadPart_at hx ?_ | with_reducible refine look.at ?_ | wp_step)
  exact fun h2 tk2 ns2 same => q h2 tk2 (fun b o nb e => (same.2 b nb).trans e) ns2
end

section
variable {X : Cx} {pins : List (Addr × Obj)} {σ : L2.St} {H : Hp} {s : Shared} {a C dj : Addr} {f : Str} {y : V} {u : Value} {fs : List (Str × V)} {Q : Unit → Shared → Prop} {E : Value → Shared → Prop} {A : Around}
/-- self.f = y on a new error -/
theorem put_first (O : Own X.K C) (I : Inv X pins σ H s) (e : H a = some (exo a C none)) (no : PySem.W.findIn X.K (.ref C) f = some none) (ry : RelV y u)
    (k : ∀ dj s2, H dj = none → dj ≠ a → Inv X pins σ (upd (upd H dj (exd dj [(f, y)])) a (exo a C (some dj))) s2 → Q () s2) : wpAny (model X.prog X.w) A (setAttr (.ref a) f u) Q E s := by
  obtain ⟨t1, ho⟩ := exo_at I.hok e
  obtain ⟨hp, g, d, t, os⟩ := s
  refine PySem.W.set_plain I.kIn (od := none) ⟨ho, rfl, rfl, trivial⟩ O.setA (st_first O I.kIn ho no fun h2 tk2 dj kp big nda hx hn => ?_)
  have free : H dj = none := I.hok.fresh big
  have far : ∀ {b : Addr} {o : Obj}, hp.get? b = some o → b ≠ dj := fun q => Nat.ne_of_lt (Nat.lt_of_lt_of_le (Heap.lt_size q) big)
  have nota : ∀ {b : Addr}, H b = none → b ≠ a := fun n z => by rw [z, e] at n; cases n
  have same : ∀ b u0, b ≠ a → H b = some u0 → upd (upd H dj (exd dj [(f, y)])) a (exo a C (some dj)) b = some u0 := fun b u0 nb q => by rw [upd_ne nb, upd_ne (ne_of_none q free)]; exact q
  refine k dj _ free nda (I.un (t' := tk2) ⟨fun b o q n _ _ => kp b o (nota n) q, fun b o q n _ _ => ⟨o.slots, kp b o (nota n) q⟩,
    fun b o q n _ => by rw [upd_ne (nota n), upd_ne (far q)]; exact n,
    fun b o q _ => if z : b = a then ⟨_, z ▸ hx⟩ else ⟨o, kp b o z q⟩,
    fun b xs q => same b _ (at_ne e q exo_tup) q, fun b o v q => same b _ (at_ne e q exo_frz) q, fun b ps q => ⟨#[], by rw [same b _ (at_ne e q exo_tbl) q]; simp⟩⟩ fun b o q => ?_)
  by_cases z : b = a
  · subst z; rw [upd_same] at q; cases q; exact exo_ok hx
  · rw [upd_ne z] at q
    by_cases z2 : b = dj
    · subst z2; rw [upd_same] at q; cases q
      exact exd_ok hn (relO_put (fs := []) ry fun _ => True.intro)
    · rw [upd_ne z2] at q
      refine (I.hok b o q).stay (fun c v hc w => kp c v ?_ w) (fun c hc => same c _ (at_ne e hc exo_own) hc) fun c xs hc => same c _ (at_ne e hc exo_tup) hc
      rcases hc with hc | hc
      · rw [hc]; exact z
      · exact at_ne e hc exo_own
/-- self.f = y, a further field -/
theorem put_more (O : Own X.K C) (I : Inv X pins σ H s) (e : H a = some (exo a C (some dj))) (ed : H dj = some (exd dj fs)) (hl : fs.length ≤ 900) (no : PySem.W.findIn X.K (.ref C) f = some none) (ry : RelV y u)
    (k : ∀ s2, Inv X pins σ (upd H dj (exd dj ((f, y) :: fs))) s2 → Q () s2) : wpAny (model X.prog X.w) A (setAttr (.ref a) f u) Q E s := by
  obtain ⟨t1, ho⟩ := exo_at I.hok e
  obtain ⟨mA, hn, rel⟩ := exd_at I.hok ed
  have hw := within_of rel
  obtain ⟨hp, g, d, t, os⟩ := s
  obtain ⟨od, _, _, hod, _, _⟩ := hn.count hw
  refine PySem.W.set_plain I.kIn (od := some od) ⟨ho, rfl, rfl, hod⟩ O.setA (st_more O I.kIn ho hn hw (by rw [List.length_map]; omega) no fun h2 tk2 kp hn2 => ?_)
  have hd : ∃ o, h2.get? dj = some o := by obtain ⟨o, _, _, z, _⟩ := hn2; exact ⟨o, z⟩
  exact k _ (I.write (t' := tk2) (x := dj) (e := dj) (by rw [ed]; exact True.intro) (.inl rfl) kp hd (exd_ok hn2 (relO_put ry rel)))
end

/-- self.f = e in an error's __init__ -/
def tPut (K : PySem.W.Frag) (f : Str) (to te : TE) : TS := fun D σ H => te σ H fun y H1 => to σ H1 fun x H2 => ∃ a C : Addr, x = .ref a ∧ Own K C ∧ PySem.W.findIn K (.ref C) f = some none ∧
  ((H2 a = some (exo a C none) ∧ ∀ dj, H2 dj = none → dj ≠ a → D.nx σ (upd (upd H2 dj (exd dj [(f, y)])) a (exo a C (some dj)))) ∨
    ∃ (dj : Addr) (fs : List (Str × V)), H2 a = some (exo a C (some dj)) ∧ H2 dj = some (exd dj fs) ∧ fs.length ≤ 900 ∧ D.nx σ (upd H2 dj (exd dj ((f, y) :: fs))))
/-- C(e, ..), by C's own __init__ -/
def tNew (C : Addr) (sp : Sp) (ta : TA) : L2.St → Hp → XK → Prop := fun σ H Q => ta σ H fun vs H1 => vs.length ≤ 1000 ∧ ∀ a, H1 a = none → sp (.ref a :: vs) (upd H1 a (exo a C none))
  (fun v H2 => v = .non ∧ ∃ (d : Addr) (fs : List (Str × V)), H2 a = some (exo a C (some d)) ∧ H2 d = some (exd d fs) ∧ H1 d = none ∧ Q (.ref C) (some d) (upd (del H2 a) d (.xd fs))) (fun _ _ _ => False)
section
variable {X : Cx} {o e : Expr} {es : List Expr} {to te : TE} {ta : TA} {f : Str} {p p' pos : Pos}
theorem ps_put (ho : PE X o to) (he : PE X e te) (hs : swapsWith e (some (.Attribute o f p')) pos.line X.env = pure false := by rfl) : PS X (.Assign [.Attribute o f p'] e pos) (tPut X.K f to te) := by
  refine ⟨fun pins s σ H D I h => plainObj_wpAny_Assign_Attribute (thn (he.run pins s σ H _ I h) ?_) hs⟩
  rintro v s1 ⟨y, H1, I1, r1, q1⟩
  refine thn (ho.run pins s1 σ H1 _ I1 q1) ?_
  rintro u s2 ⟨x, H2, I2, r2, a, C, rfl, O, no, q⟩
  obtain rfl : u = Value.ref a := r2
  rcases q with ⟨ea, q⟩ | ⟨dj, fs, ea, ed, hl, q⟩
  · exact put_first O I2 ea no r1 fun dj s3 n ne J => ⟨σ, _, J, q dj n ne⟩
  · exact put_more O I2 ea ed hl no r1 fun s3 J => ⟨σ, _, J, q⟩
theorem pmk_new {CX : CXT} {x : Str} {C fI : Addr} {k : Nat} {fd : FuncData} {ps : List Str} {sp : Sp} (O : Own X.K C) (iC : PySem.W.findIn X.K (.ref C) "__init__" = some (some (.ref fI))) (tI : PySem.W.typeIn X.K (.ref fI) = some (.type "function"))
    (Fi : FnOk X.prog X.w X.K X.mg X.base CX k fI fd ps sp) (hr : Room (k + 1) X.A) (hb : Binds X.K fd ps []) (hx : Passes CX X (fun _ _ _ => False)) (hg : Gl X x) (hm : X.mg x = some (.ref C)) (ha : PA X (e :: es) ta)
    (hdb : (x == ("__debug__" : Str)) = false := by decide) (he : starEach (e :: es) X.env = (false, eval e X.env) :: starEach es X.env := by rfl) (hpl : (backTo pos (starEach es X.env)).any (·.1) = false := by rfl) :
    PMk X (.Call (.Name x p) (e :: es) [] pos) (tNew C sp ta) := by
  intro pins s σ H Q I h
  obtain ⟨B, nI, iI, bmB, S, ini, _⟩ := O.base
  refine wpAny_Call_Name_kw (ld_glob I hg hm ?_ hdb)
  refine PySem.W.callWith_K (h₀ := X.base) I.ok.mod.kin O.keep (thn (ha.run pos pins s σ H _ I h) ?_) he hpl
  rintro us ⟨hp, g, dr, tk, os⟩ ⟨vs, H1, I1, r1, hz, q1⟩
  refine ⟨I1.kIn, ?_⟩
  show wpAny _ _ (call (.ref C) us) _ _ _
  obtain ⟨nm, N, qn, bs, bm, hdct, sn, sub, ab, col, dd, k0, k1, k2, k3, k5, hC, tail⟩ := PySem.W.excInit_of I1.kIn ini
  have up : hp.objs.size ≤ hp.objs.size + 1 := Nat.le_succ _
  have want := q1 (hp.objs.size + 1) (I1.hok.fresh up)
  have kept : ∀ b o, hp.get? b = some o → ((hp.push (PySem.W.kdv_tup us)).push (HandSPX.excO C hp.objs.size)).get? b = some o := fun b o z => Heap.get?_push_of_some _ (Heap.get?_push_of_some _ z)
  have new : ((hp.push (PySem.W.kdv_tup us)).push (HandSPX.excO C hp.objs.size)).get? (hp.objs.size + 1) = some (HandSPX.excO C hp.objs.size) := by heap_get
  have J : Inv X pins σ (upd H1 (hp.objs.size + 1) (exo (hp.objs.size + 1) C none)) ⟨(hp.push (PySem.W.kdv_tup us)).push (HandSPX.excO C hp.objs.size), g, dr, tk, os⟩ := I1.laid (t' := tk) kept up (exo_ok new)
  have rel : Vals (V.ref (hp.objs.size + 1) :: vs) (Value.ref (hp.objs.size + 1) :: us) := .cons rfl r1
  have len : (Value.ref (hp.objs.size + 1) :: us).length = ps.length := rel.length.symm.trans (Fi.len _ _ _ _ want)
  have bind := hb _ (Value.ref (hp.objs.size + 1) :: us) J.kIn (by rw [List.append_nil]; exact len)
  rw [List.append_nil] at bind
  refine wpAny_call (HandSPX.call_own S.bs tail hC (PySem.W.looks_findIn I1.kIn iC) (fun self => PySem.W.bind_fn I1.kIn self tI) (by rw [← Paired.length r1, sizeLine_eq]; omega)
    (codeAny_mono (Fi.run _ X.stack _ _ ⟨Value.ref (hp.objs.size + 1) :: us, []⟩ _ _ _ (fun _ _ _ => False) (hr.make C us []) (J.env0.make C us []) bind rel want) ?_))
  intro r s' w
  match r, w with
  | .error er, w => exact hx pins σ _ _ er s' J w
  | .ok .next, w => exact False.elim w
  | .ok .brk, w => exact False.elim w
  | .ok .cont, w => exact False.elim w
  | .ok (.ret u), w =>
    obtain ⟨v, H2, os2, bare2, un2, hok2, rv, rfl, d, fs, ea, ed, free, q2⟩ := w
    obtain ⟨h2, g2, d2, t2, os'⟩ := s'
    exact ⟨rv, mk_end (raises_own O.isE O.isT) I1 up kept un2 hok2 os2 bare2 ea ed free q2⟩
end

/-! ### what is asked of a caught error -/
structure Asked (K : PySem.W.Frag) (D : Addr) : Prop where
  cl : (PySem.W.clsIn K D).isSome = true
  ga : PySem.W.findIn K (.ref D) "__getattribute__" = some (some (.builtin "BaseException.__getattribute__"))
  gt : PySem.W.findIn K (.ref D) "__getattr__" = some none
  sb : PySem.W.subIn K (.ref D) (.type "BaseException") = some true
  cc : PySem.W.findIn K (.ref D) "__class__" = some (some (.builtin "object.__class__"))
  gn : PySem.W.specialIn K (.builtin "object.__class__") "__get__" = some (some (.builtin "getset_descriptor.__get__"))
  tk : PySem.W.takesIn K (.builtin "object.__class__") = some true
  mr : PySem.W.mroIn K D (.type "object") = some true
theorem isC {K : PySem.W.Frag} {C : Addr} (h : PySem.W.hasDictIn K C = true) : (PySem.W.clsIn K C).isSome = true := by
  obtain ⟨cd, e, _⟩ := PySem.W.any_some h
  rw [e]
  rfl
/-- isinstance(e, c), isinstance(e, (c, ..)) -/
def rAsk (K : PySem.W.Frag) (a : Addr) (cls : Value) (d : Option Addr) (D : Addr) : List V → Hp → VK → Prop := fun xs H Q => cls = .ref D ∧ ∃ (dj : Addr) (fs : List (Str × V)) (c : V) (b : Bool), d = some dj ∧ H dj = some (.xd fs) ∧ xs = [.ref a, c] ∧
  ((∃ cv, (∀ u, RelV c u → u = cv) ∧ PySem.W.kitOne K (.ref D) cv = some b) ∨ ∃ (tp : Addr) (cs : List V) (us : List Value), c = .ref tp ∧ H tp = some (.tup cs) ∧ (∀ ws, Vals cs ws → ws = us) ∧ PySem.W.kitAny K (.ref D) us = some b) ∧ Q (.bl b) H
theorem call_ask {X : Cx} {a D : Addr} {oe : Obj} {cls : Value} {d : Option Addr} {pn : List (Addr × Obj)} (C : Asked X.K D) (hz : Zc cls d oe) (hf : ∃ vs, oe.data = .fields vs) : CallR (X.suite a ((a, oe) :: pn)) (.builtin "isinstance") (rAsk X.K a cls d D) := by
  intro pins s σ H xs us Q I r h
  obtain ⟨rfl, dj, fs, c, b, rfl, hd, rfl, ask, q⟩ := h
  obtain ⟨u1, u2, rfl, r1, r2⟩ := vals2 r
  obtain rfl : u1 = Value.ref a := r1
  obtain ⟨there, _⟩ := I.pin (a, oe) (List.mem_append.mpr (.inl List.mem_cons_self))
  obtain ⟨vs, hv⟩ := hf
  have low : ObjOk X.prog X.w H s.heap dj (.xd fs) := I.hok dj _ hd
  obtain ⟨mA, ⟨od, es, ep, ho, _⟩, _⟩ := low
  have J : PySem.W.InstAt s.heap a oe D (some od) := ⟨there, hz.1, by unfold PySem.W.notCls; rw [hv] <;> rfl, by rw [hz.2]; exact ho⟩
  have Z := PySem.W.kitx_exc (x := a) (ox := oe) (od := some od) C.cl C.ga C.gt C.sb C.cc C.gn C.tk C.mr
  have fin : ∀ tk : Nat, EP (X.suite a ((a, oe) :: pn)) pins σ Q (.bool b) { s with toks := tk } := fun tk => ⟨.bl b, H, I.kept (t' := tk) fun _ _ z => z, rfl, q⟩
  rcases ask with ⟨cv, hc, e⟩ | ⟨tp, cs, ws, rfl, ht, hc, e⟩
  · rw [hc u2 r2]
    exact PySem.W.kia_one Z I.kIn J e (fun z => nomatch z) fin
  · obtain rfl : u2 = Value.ref tp := r2
    have tup : ObjOk X.prog X.w H s.heap tp (.tup cs) := I.hok tp _ ht
    obtain ⟨_, its, rv, o, h1, h2, n, h3⟩ := tup
    rw [← hc its rv] at e
    obtain ⟨oc, oda, dt, sl⟩ := o
    simp only at h2 h3
    subst h2 h3
    exact PySem.W.kia_tup Z I.kIn J h1 e (fun z => nomatch z) fin
end VX

/-! repr of data with dicts in it. -/
namespace VQ
open PySem PySem.Spec PyProof.Rows L2
def kD : Key → PyData
  | .inl i => .int i
  | .inr x => .str x
mutual
inductive Dm (K : PySem.W.Frag) (H : Hp) : V → PyData → Prop
  | flat {v : V} {d : PyData} : Dp K H v d → Dm K H v d
  | lst {a : Addr} {xs : List V} {ds : List PyData} : SqL K H a xs → DmAll K H xs ds → Dm K H (.ref a) (.list ds)
  | tup {a : Addr} {xs : List V} {ds : List PyData} : SqT K H a xs → DmAll K H xs ds → Dm K H (.ref a) (.tuple ds)
  | dct {a : Addr} {kvs : List (Key × V)} {ds : List PyData} : H a = some (.dK kvs) → DmAll K H (kvs.map (·.2)) ds → Dm K H (.ref a) (.dict ((kvs.map fun e => kD e.1).zip ds))
inductive DmAll (K : PySem.W.Frag) (H : Hp) : List V → List PyData → Prop
  | nil : DmAll K H [] []
  | cons {v : V} {vs : List V} {d : PyData} {ds : List PyData} : Dm K H v d → DmAll K H vs ds → DmAll K H (v :: vs) (d :: ds)
end
theorem DmAll.length {K : PySem.W.Frag} {H : Hp} : ∀ {vs : List V} {ds : List PyData}, DmAll K H vs ds → vs.length = ds.length
  | _, _, .nil => rfl
  | _, _, .cons _ h => by simp [h.length]
section
variable {X : Cx} {pins : List (Addr × Obj)} {σ : L2.St} {H : Hp} {s : Shared}
/-- what a thing shows, one level below -/
def Sh (P : Program) (w : World) (h : Heap) (u : Value) (d : PyData) : Prop :=
  (∃ as, Reads h u d as) ∧ (d.showable = true → d.shown.length ≤ sizeLine → ∃ bs, ReadAtMost h d.depth bs ∧ ReprK P w bs h d.depth u d.shown)
def ShAll (P : Program) (w : World) (h : Heap) (us : List Value) (ds : List PyData) : Prop :=
  (∃ as, ReadsAll h us ds as) ∧ (PyData.showableAll ds = true → (∀ t ∈ PyData.shownAll ds, t.length ≤ sizeLine) → ∃ bs, ReadAtMost h (PyData.depthAll ds) bs ∧ ReprAllK P w bs h (PyData.depthAll ds) us (PyData.shownAll ds))
theorem ShAll.nil {P : Program} {w : World} {h : Heap} : ShAll P w h [] [] :=
  ⟨⟨_, .nil⟩, fun _ _ => ⟨[], (fun _ h => nomatch h), by simp only [PyData.shownAll]; exact .nil⟩⟩
theorem ShAll.cons {P : Program} {w : World} {h : Heap} {u : Value} {us : List Value} {d : PyData} {ds : List PyData} (a : Sh P w h u d) (b : ShAll P w h us ds) : ShAll P w h (u :: us) (d :: ds) := by
  obtain ⟨⟨as, ra⟩, fa⟩ := a
  obtain ⟨⟨bs, rb⟩, fb⟩ := b
  refine ⟨⟨_, .cons ra rb⟩, fun hs hz => ?_⟩
  have hs' : d.showable = true ∧ PyData.showableAll ds = true := by simpa [PyData.showableAll] using hs
  obtain ⟨b1, m1, k1⟩ := fa hs'.1 (hz _ (by simp only [PyData.shownAll]; exact List.mem_cons_self ..))
  obtain ⟨b2, m2, k2⟩ := fb hs'.2 (fun t ht => hz t (by simp only [PyData.shownAll]; exact List.mem_cons_of_mem _ ht))
  have l1 : d.depth ≤ PyData.depthAll (d :: ds) := by simp only [PyData.depthAll]; omega
  have l2 : PyData.depthAll ds ≤ PyData.depthAll (d :: ds) := by simp only [PyData.depthAll]; omega
  refine ⟨b1 ++ b2, (m1.mono l1).append (m2.mono l2), ?_⟩
  have q1 : ReprK P w (b1 ++ b2) h (PyData.depthAll (d :: ds)) u d.shown := (k1.more fun b hb => List.mem_append_left _ hb).level_le l1
  have q2 : ReprAllK P w (b1 ++ b2) h (PyData.depthAll (d :: ds)) us (PyData.shownAll ds) := k2.more_le (fun b hb => List.mem_append_right _ hb) l2
  rw [show PyData.shownAll (d :: ds) = d.shown :: PyData.shownAll ds by simp only [PyData.shownAll]]
  exact .cons q1 q2
/-- the list, the tuple, the dict: what its repr needs -/
theorem list_parts {P : Program} {w : World} {h : Heap} {us : List Value} {ds : List PyData} {a : Addr} {o : Obj} {n : Nat} (h1 : h.get? a = some o) (h2 : o.cls = .type "list") (h3 : o.data = .seq us.toArray n) (b : ShAll P w h us ds)
    (hs : (PyData.list ds).showable = true) (hz : (PyData.list ds).shown.length ≤ sizeLine) :
    ∃ bs, a ∉ bs ∧ ReadAtMost h (PyData.depthAll ds) bs ∧ ReprAllK P w bs h (PyData.depthAll ds) us (PyData.shownAll ds) := by
  have hz' : (listText (PyData.shownAll ds)).length ≤ sizeLine := by simpa only [PyData.shown] using hz
  obtain ⟨⟨as, ra⟩, f⟩ := b
  obtain ⟨bs, hb, hk⟩ := f (by simpa [PyData.showable] using hs) (fun t ht => Nat.le_trans (listText_mem_le ht) hz')
  exact ⟨bs, not_mem_of_deeper (Reads.list h1 h2 h3 (by simpa using ra)) (by simp only [PyData.depth]; omega) hb, hb, hk⟩
theorem tup_parts {P : Program} {w : World} {h : Heap} {us : List Value} {ds : List PyData} {a : Addr} {o : Obj} {n : Nat} (h1 : h.get? a = some o) (h2 : o.cls = .type "tuple") (h3 : o.data = .seq us.toArray n) (b : ShAll P w h us ds)
    (hs : (PyData.tuple ds).showable = true) (hz : (PyData.tuple ds).shown.length ≤ sizeLine) :
    ∃ bs, a ∉ bs ∧ ReadAtMost h (PyData.depthAll ds) bs ∧ ReprAllK P w bs h (PyData.depthAll ds) us (PyData.shownAll ds) := by
  have hz' : (tupleText (PyData.shownAll ds)).length ≤ sizeLine := by simpa only [PyData.shown] using hz
  obtain ⟨⟨as, ra⟩, f⟩ := b
  obtain ⟨bs, hb, hk⟩ := f (by simpa [PyData.showable] using hs) (fun t ht => Nat.le_trans (tupleText_mem_le ht) hz')
  exact ⟨bs, not_mem_of_deeper (Reads.tuple h1 h2 h3 (by simpa using ra)) (by simp only [PyData.depth]; omega) hb, hb, hk⟩
theorem dct_parts {P : Program} {w : World} {h : Heap} {es : Array DictEntry} {kvs : List (PyData × PyData)} {a : Addr} {o : Obj} {n : Nat} (h1 : h.get? a = some o) (h2 : o.cls = .type "dict") (h3 : o.data = .dict es n)
    (b : ShAll P w h (es.toList.map (·.key)) (kvs.map (·.1))) (c : ShAll P w h (es.toList.map (·.val)) (kvs.map (·.2))) (hs : (PyData.dict kvs).showable = true) (hz : (PyData.dict kvs).shown.length ≤ sizeLine) :
    ∃ bs, a ∉ bs ∧ ReadAtMost h (PyData.depthKv kvs) bs ∧ ReprEntriesK P w bs h (PyData.depthKv kvs) es.toList (PyData.shownKv kvs) := by
  have hz' : (dictText (PyData.shownKv kvs)).length ≤ sizeLine := by simpa only [PyData.shown] using hz
  obtain ⟨⟨as, ra⟩, f⟩ := b
  obtain ⟨⟨cs, rc⟩, g⟩ := c
  obtain ⟨s1, s2⟩ := PyData.showableKv_split kvs (by simpa [PyData.showable] using hs)
  obtain ⟨b1, m1, k1⟩ := f s1 (fun t ht => let ⟨p, hp, hl⟩ := PyData.shownKv_key_le kvs t ht; Nat.le_trans hl (Nat.le_trans (dictText_mem_le hp) hz'))
  obtain ⟨b2, m2, k2⟩ := g s2 (fun t ht => let ⟨p, hp, hl⟩ := PyData.shownKv_val_le kvs t ht; Nat.le_trans hl (Nat.le_trans (dictText_mem_le hp) hz'))
  have hb : ReadAtMost h (PyData.depthKv kvs) (b1 ++ b2) := (m1.mono (PyData.depthAll_keys_le kvs)).append (m2.mono (PyData.depthAll_vals_le kvs))
  refine ⟨b1 ++ b2, not_mem_of_deeper (Reads.dict h1 h2 h3 ra rc) (by simp only [PyData.depth]; omega) hb, hb, ?_⟩
  rw [PyData.shownKv_eq]
  exact ReprEntriesK.of_two es.toList _ _ (k1.more_le (fun b hb => List.mem_append_left _ hb) (PyData.depthAll_keys_le kvs)) (k2.more_le (fun b hb => List.mem_append_right _ hb) (PyData.depthAll_vals_le kvs))
theorem sh_list {P : Program} {w : World} {h : Heap} {us : List Value} {ds : List PyData} {a : Addr} {o : Obj} {n : Nat} (h1 : h.get? a = some o) (h2 : o.cls = .type "list") (h3 : o.data = .seq us.toArray n) (b : ShAll P w h us ds) : Sh P w h (.ref a) (.list ds) := by
  have r : ∃ as, Reads h (.ref a) (.list ds) as := by obtain ⟨⟨as, ra⟩, _⟩ := b; exact ⟨_, .list h1 h2 h3 (by simpa using ra)⟩
  refine ⟨r, fun hs hz => ?_⟩
  obtain ⟨as, r⟩ := r
  obtain ⟨bs, hna, hb, hk⟩ := list_parts h1 h2 h3 b hs hz
  refine ⟨a :: bs, ReadAtMost.cons r (by simp only [PyData.depth]; omega) hb, ?_⟩
  simp only [PyData.depth, PyData.shown]
  cases us with
  | nil =>
    have e : ds = [] := by cases ds with
      | nil => rfl
      | cons _ _ => have := hk.length_eq; simp [PyData.shownAll] at this
    subst e
    simp only [PyData.shownAll, listText_nil]
    exact ReprK.listEmpty h1 h2 h3
  | cons x l => exact ReprK.list h1 h2 h3 hna (by simpa using hk.length_eq) (fun i y e => hk.item i y (by simpa using e))
theorem sh_tup {P : Program} {w : World} {h : Heap} {us : List Value} {ds : List PyData} {a : Addr} {o : Obj} {n : Nat} (h1 : h.get? a = some o) (h2 : o.cls = .type "tuple") (h3 : o.data = .seq us.toArray n) (b : ShAll P w h us ds) : Sh P w h (.ref a) (.tuple ds) := by
  have r : ∃ as, Reads h (.ref a) (.tuple ds) as := by obtain ⟨⟨as, ra⟩, _⟩ := b; exact ⟨_, .tuple h1 h2 h3 (by simpa using ra)⟩
  refine ⟨r, fun hs hz => ?_⟩
  obtain ⟨as, r⟩ := r
  obtain ⟨bs, hna, hb, hk⟩ := tup_parts h1 h2 h3 b hs hz
  refine ⟨a :: bs, ReadAtMost.cons r (by simp only [PyData.depth]; omega) hb, ?_⟩
  simp only [PyData.depth, PyData.shown]
  exact ReprK.tuple h1 h2 h3 hna (by simpa using hk)
theorem sh_dct {P : Program} {w : World} {h : Heap} {es : Array DictEntry} {kvs : List (PyData × PyData)} {a : Addr} {o : Obj} {n : Nat} (h1 : h.get? a = some o) (h2 : o.cls = .type "dict") (h3 : o.data = .dict es n) (ns : (a == sysModules) = false)
    (b : ShAll P w h (es.toList.map (·.key)) (kvs.map (·.1))) (c : ShAll P w h (es.toList.map (·.val)) (kvs.map (·.2))) : Sh P w h (.ref a) (.dict kvs) := by
  have r : ∃ as, Reads h (.ref a) (.dict kvs) as := by obtain ⟨⟨_, ra⟩, _⟩ := b; obtain ⟨⟨_, rc⟩, _⟩ := c; exact ⟨_, .dict h1 h2 h3 ra rc⟩
  refine ⟨r, fun hs hz => ?_⟩
  obtain ⟨as, r⟩ := r
  obtain ⟨bs, hna, hb, hk⟩ := dct_parts h1 h2 h3 b c hs hz
  refine ⟨a :: bs, ReadAtMost.cons r (by simp only [PyData.depth]; omega) hb, ?_⟩
  simp only [PyData.depth, PyData.shown]
  exact ReprK.dict h1 h2 h3 ns hna hk
theorem sh_flat (I : Inv X pins σ H s) {v : V} {d : PyData} {u : Value} (h : Dp X.K H v d) (r : RelV v u) : Sh X.prog X.w s.heap u d := by
  obtain ⟨as, rd⟩ := Dp.reads I d v u h r
  have nd := (VG.dp_noDict X.K H).1 d v h
  exact ⟨⟨as, rd⟩, fun hs hz => ReprK.of_reads rd hs (fun e => by rw [nd] at e; cases e) hz⟩
theorem sh_keys {P : Program} {w : World} {h : Heap} : ∀ {es : List DictEntry} {vs : List (Key × Value)}, Pairs (mixKind P w) es vs → ShAll P w h (es.map (·.key)) (vs.map fun e => kD e.1)
  | _, _, .nil => .nil
  | _, _, .cons (e := e) (kv := kv) h1 _ t => by
    refine ShAll.cons ?_ (sh_keys t)
    rcases keyIs_shape (show keyIs kv.1 e.key = true from h1) with ⟨i, t, e1, e2⟩ | ⟨x, t, e1, e2⟩
    · show Sh P w h e.key (kD kv.1)
      rw [e1, e2]
      exact ⟨⟨_, Reads.int i t⟩, fun hs hz => ReprK.of_reads (Reads.int i t) hs (fun e => by cases e) hz⟩
    · show Sh P w h e.key (kD kv.1)
      rw [e1, e2]
      exact ⟨⟨_, Reads.str x t⟩, fun hs hz => ReprK.of_reads (Reads.str x t) hs (fun e => by cases e) hz⟩
theorem pairs_val {P : Program} {w : World} : ∀ {es : List DictEntry} {vs : List (Key × Value)}, Pairs (mixKind P w) es vs → es.map (·.val) = vs.map (·.2)
  | _, _, .nil => rfl
  | _, _, .cons _ h2 t => by rw [List.map_cons, List.map_cons, h2, pairs_val t]
theorem kv_keys : ∀ {kvs : List (Key × V)} {vs : List (Key × Value)}, KV kvs vs → kvs.map (fun e => kD e.1) = vs.map (fun e => kD e.1)
  | _, _, .nil => rfl
  | _, _, .cons h t => by rw [List.map_cons, List.map_cons, h.1, kv_keys t]
theorem kv_vals : ∀ {kvs : List (Key × V)} {vs : List (Key × Value)}, KV kvs vs → Vals (kvs.map (·.2)) (vs.map (·.2))
  | _, _, .nil => .nil
  | _, _, .cons h t => .cons h.2 (kv_vals t)
mutual
theorem Dm.sh (I : Inv X pins σ H s) : ∀ {v : V} {d : PyData} {u : Value}, Dm X.K H v d → RelV v u → Sh X.prog X.w s.heap u d
  | _, _, _, .flat h, r => sh_flat I h r
  | _, _, _, .lst hs ha, r => by
    cases r
    obtain ⟨its, rv, ⟨o, n, ho, hc, _, hd⟩, _⟩ := I.list hs
    exact sh_list ho hc hd (DmAll.sh I ha rv)
  | _, _, _, .tup hs ha, r => by
    cases r
    obtain ⟨its, rv, ⟨o, ho, hc, n, hd⟩, _⟩ := I.tuple hs
    exact sh_tup ho hc hd (DmAll.sh I ha rv)
  | _, _, _, .dct (kvs := kvs) (ds := ds) he ha, r => by
    cases r
    obtain ⟨_, ns, vs, kv, o, es, ep, e1, e2, e3, e4, e5, e6⟩ := (show ObjOk X.prog X.w H s.heap _ (.dK kvs) from I.hok _ _ he)
    have hl : (kvs.map (·.2)).length = ds.length := ha.length
    rw [List.length_map] at hl
    have z1 : ((kvs.map fun e => kD e.1).zip ds).map (·.1) = kvs.map fun e => kD e.1 := by
      rw [List.map_fst_zip]; rw [List.length_map]; omega
    have z2 : ((kvs.map fun e => kD e.1).zip ds).map (·.2) = ds := by
      rw [List.map_snd_zip]; rw [List.length_map]; omega
    refine sh_dct e1 e2.1 e3 ns ?_ ?_
    · rw [z1, kv_keys kv]; exact sh_keys e5
    · rw [z2, pairs_val e5]; exact DmAll.sh I ha (kv_vals kv)
theorem DmAll.sh (I : Inv X pins σ H s) : ∀ {vs : List V} {ds : List PyData} {us : List Value}, DmAll X.K H vs ds → Vals vs us → ShAll X.prog X.w s.heap us ds
  | _, _, _, .nil, r => by cases r; exact .nil
  | _, _, _, .cons h hs, r => by
    cases r with
    | cons r rs => exact .cons (Dm.sh I h r) (DmAll.sh I hs rs)
end
end
def rReprM (K : PySem.W.Frag) : List V → Hp → VK → Prop := fun xs H Q =>
  ∃ v d, xs = [v] ∧ Dm K H v d ∧ d.showable = true ∧ d.depth ≤ 60 ∧ d.shown.length ≤ sizeLine ∧ Q (.str d.shown) H
theorem call_reprM {X : Cx} (hg : X.A.guards = some []) (hu : X.A.units + 64 < cLine) : CallR X (.builtin "repr") (rReprM X.K) := by
  intro pins s σ H xs us Q I r h
  obtain ⟨v, d, rfl, hd, hs, hdep, hz, q⟩ := h
  have keep : ∀ (h' : Heap) (t' : Nat), (∀ b o, s.heap.get? b = some o → h'.get? b = some o) → Inv X pins σ H { s with heap := h', toks := t' } :=
    fun h' t' k => I.kept (t' := t') k
  cases hd with
  | flat hd => exact VG.call_repr hg hu pins s σ H _ us Q I r ⟨v, d, rfl, hd, hs, hdep, hz, q⟩
  | lst hl ha =>
    obtain ⟨u, rfl, rv⟩ := vals1 r
    cases rv
    rename_i a xs ds
    obtain ⟨its, rv, ⟨o, n, ho, hc, hp, hd⟩, _⟩ := I.list hl
    obtain ⟨bs, hna, hb, hk⟩ := list_parts ho hc hd (DmAll.sh I ha rv) hs hz
    refine call_repr_slot (by omega) (show s.TypeIs (.ref a) "list" from ⟨o, ho, hc⟩) F.slot_list_repr.toG ?_
    simp only [PyData.depth] at hdep
    simp only [PyData.shown] at q hz
    cases its with
    | nil =>
      have e : ds = [] := by cases ds with
        | nil => rfl
        | cons _ _ => have := hk.length_eq; simp [PyData.shownAll] at this
      subst e
      simp only [PyData.shownAll, listText_nil] at q
      exact call_list_repr_empty ⟨o, ho, hc⟩ ho hd ⟨_, _, rfl, .str _, H, keep s.heap _ fun _ _ e => e, ⟨_, rfl⟩, q⟩
    | cons x l => exact call_list_reprK ho hc hd hna (by simpa using hk.length_eq) (fun i y e => hk.item i y (by simpa using e)) hg (fun b _ => Clear.nil b) (by show X.A.units + 1 + _ < cLine; omega) (fun _ _ e => e) (fun h' u tk k => ⟨_, _, rfl, .str _, H, keep h' tk k, ⟨_, rfl⟩, q⟩) hz
  | tup hl ha =>
    obtain ⟨u, rfl, rv⟩ := vals1 r
    cases rv
    rename_i a xs ds
    obtain ⟨its, rv, ⟨o, ho, hc, n, hd⟩, _⟩ := I.tuple hl
    obtain ⟨bs, hna, hb, hk⟩ := tup_parts ho hc hd (DmAll.sh I ha rv) hs hz
    refine call_repr_slot (by omega) (show s.TypeIs (.ref a) "tuple" from ⟨o, ho, hc⟩) F.slot_tuple_repr ?_
    simp only [PyData.depth] at hdep
    simp only [PyData.shown] at q hz
    exact call_tuple_reprK ho hc hd hna (by simpa using hk) hg (fun b _ => Clear.nil b) (by show X.A.units + 1 + _ < cLine; omega) (fun _ _ e => e) (fun h' u tk k => ⟨_, _, rfl, .str _, H, keep h' tk k, ⟨_, rfl⟩, q⟩) hz
  | dct he ha =>
    obtain ⟨u, rfl, rv⟩ := vals1 r
    have sh := Dm.sh I (.dct he ha) rv
    cases rv
    rename_i a kvs ds
    obtain ⟨_, ns, vs, kv, o, es, ep, e1, e2, e3, e4, e5, e6⟩ := (show ObjOk X.prog X.w H s.heap _ (.dK kvs) from I.hok _ _ he)
    have hl : (kvs.map (·.2)).length = ds.length := ha.length
    rw [List.length_map] at hl
    have z1 : ((kvs.map fun e => kD e.1).zip ds).map (·.1) = kvs.map fun e => kD e.1 := by
      rw [List.map_fst_zip]; rw [List.length_map]; omega
    have z2 : ((kvs.map fun e => kD e.1).zip ds).map (·.2) = ds := by
      rw [List.map_snd_zip]; rw [List.length_map]; omega
    obtain ⟨bs, hna, hb, hk⟩ := dct_parts e1 e2.1 e3 (by rw [z1, kv_keys kv]; exact sh_keys e5) (by rw [z2, pairs_val e5]; exact DmAll.sh I ha (kv_vals kv)) hs hz
    refine call_repr_slot (by omega) (show s.TypeIs (.ref a) "dict" from ⟨o, e1, e2.1⟩) F.slot_dict_repr ?_
    simp only [PyData.depth] at hdep
    simp only [PyData.shown] at q hz
    exact call_dict_reprK e1 e2.1 e3 ns hna hk hg (fun b _ => Clear.nil b) (by show X.A.units + 1 + _ < cLine; omega) (fun _ _ e => e) (fun h' u tk k => ⟨_, _, rfl, .str _, H, keep h' tk k, ⟨_, rfl⟩, q⟩) hz
end VQ

/-! Own errors as values: made by position and by name, their fields read, asked by isinstance. -/
namespace VEv
open PySem PySem.Spec PyProof.Rows L2
section
open Builtin PySem.HandSPX
variable {prog : Program} {w : World} {M : Model} {A : Around} {E : Value → Shared → Prop} {R : Result → Shared → Prop} {hp : Heap} {g : Array GenState} {d : Drawn} {t : Nat} {os : OsState}
variable {name qn : Str} {C N fI : Addr} {bases tail bmB : List Value} {hd : Bool} {sl : List Str} {sub : List Value} {ab : Bool} {col : Option Bool} {dd : Option Addr} {x0 x1 x2 x3 x5 : Option Value} {B nI iI : String} {us : List Value} {kw : List (Str × Value)}
theorem new_check (F : ExcBaseFacts B nI iI bmB) (tl : ∀ S : String, tail.contains (.type S) = bmB.contains (.type S)) {Q : Unit → Shared → Prop}
    (lies : hp.get? C = some (excClassObj name qn C N bases tail hd sl sub ab col dd x0 x1 x2 x3 x5 nI)) (q : Q () ⟨hp, g, d, t, os⟩) : wpAny M A (checkBuiltinCall nI ⟨.ref C :: us, kw⟩) Q E ⟨hp, g, d, t, os⟩ := by
  have inB : (Value.ref C :: tail).contains (.type B) = true := by rw [List.contains_cons, tl, F.hasB, Bool.or_true]
  have star := F.noStar
  simp only [checkBuiltinCall, F.newKind, F.newSplit, F.newRow]
  repeat (first | refine wpAny_loadPart_at lies ?_ | (refine wpAny_isSubtype_exc lies ?_; rw [inB]) | refine wpAny_staticBase_exc lies ?_ | refine wpAny_madeBy_exc lies ?_ | simp only [bne_self_eq_false, Bool.false_eq_true, if_false] | wp_step)
  exact q
theorem new_done (F : ExcBaseFacts B nI iI bmB) (tl : ∀ S : String, tail.contains (.type S) = bmB.contains (.type S))
    (lies : hp.get? C = some (excClassObj name qn C N bases tail hd sl sub ab col dd x0 x1 x2 x3 x5 nI)) (fits : us.length ≤ sizeLine)
    (q : R (.ok (.ret (.ref (hp.objs.size + 1)))) ⟨(hp.push (W.kdv_tup us)).push (excO C hp.objs.size), g, d, t, os⟩) :
    codeAny (model prog w) A (.builtin nI ⟨.ref C :: us, kw⟩) R ⟨hp, g, d, t, os⟩ := by
  have ends := F.ends
  have inB : (Value.ref C :: tail).contains (.type B) = true := by rw [List.contains_cons, tl, F.hasB, Bool.or_true]
  have inA : (Value.ref C :: tail).contains (.type "AttributeError") = false := by rw [List.contains_cons, tl, F.noAttr]; rfl
  have inN : (Value.ref C :: tail).contains (.type "NameError") = false := by rw [List.contains_cons, tl, F.noName]; rfl
  refine codeAny_builtinAt F.entry (by
    unfold Builtin.«BaseException.__new__»
    refine PySem.wpAt_bind (by
      show PySem.wpAt _ _ _ (stack >>= _) _ _ _
      refine PySem.wpAt_bind (PySem.wpAt_stack fun p below => PySem.wpAt_of_wpAny ?_)
      wp_walk
      refine PySem.wpAt_of_wpAny ?_
      rw [F.owner]
      repeat (first | with_reducible refine wpAny_madeHere_exc F.canon lies ?_ | with_reducible refine wpAny_loadPart_at lies ?_ | (with_reducible refine wpAny_isSubtype_exc lies ?_; first | rw [inB] | rw [inA] | rw [inN]) | wp_step)
      show R _ _
      rw [Heap.size_push]
      exact q))
theorem called (F : ExcBaseFacts B nI iI bmB) (tl : ∀ S : String, tail.contains (.type S) = bmB.contains (.type S)) {Q : Fin → Shared → Prop}
    (lies : hp.get? C = some (excClassObj name qn C N bases tail hd sl sub ab col dd x0 x1 x2 x3 x5 nI))
    (ini : W.Looks (model prog w) hp (typeLookup (.ref C) "__init__") (some (.ref fI))) (bnd : ∀ self, W.Looks (model prog w) hp (bindSpecial (.ref fI) self) (.ref fI, [self])) (fits : us.length ≤ sizeLine)
    (q : codeAny (model prog w) A (.call (.ref fI) ⟨.ref (hp.objs.size + 1) :: us, kw⟩)
      (fun r s' => match r with | .ok (.ret v) => v = .none ∧ Q (.done (.ret (.ref (hp.objs.size + 1)))) s' | .ok _ => False | .error e => E e s')
      ⟨(hp.push (W.kdv_tup us)).push (excO C hp.objs.size), g, d, t, os⟩) :
    wpAny (model prog w) A (Builtin.«type.__call__» ⟨.ref C :: us, kw⟩) Q E ⟨hp, g, d, t, os⟩ := by
  repeat (first | with_reducible refine wpAny_loadPart_at lies ?_ | with_reducible refine wpAny_madeBy_exc lies ?_ | wp_step)
  refine codeAny_call_builtin_code (Code.quiet_builtin _ F.quiet) (new_check F tl lies (new_done F tl lies fits ?_))
  show wpAny _ _ _ _ _ _
  have stays : ∀ b o, hp.get? b = some o → ((hp.push (W.kdv_tup us)).push (excO C hp.objs.size)).get? b = some o := fun b o e => Heap.get?_push_of_some _ (Heap.get?_push_of_some _ e)
  have lies2 := stays _ _ lies
  have here : ((hp.push (W.kdv_tup us)).push (excO C hp.objs.size)).get? (hp.objs.size + 1) = some (excO C hp.objs.size) := by heap_get
  have self : (Value.ref C :: tail).contains (.ref C) = true := by simp
  have ini2 := ini.keeps stays
  have bnd2 := (bnd (.ref (hp.objs.size + 1))).keeps stays
  unfold isInstance
  repeat (first | with_reducible refine wpAny_loadPart_at here ?_ | (with_reducible refine wpAny_isSubtype_exc lies2 ?_; rw [self]) | wp_step)
  show wpAny _ _ (typeLookup (.ref C) _) _ _ _
  refine ini2.at (wpAny_holding (wpAny_bind (bnd2.at (wpAny_bind (wpAny_call (codeAny_mono q fun r s' z => ?_))))))
  rcases r with e | (v | _ | _ | _) <;> first | exact z | exact z.elim | skip
  obtain ⟨rfl, z⟩ := z
  first
    | exact wpAny_pure (wpAny_pure z)
    | (wp_walk; exact z)
theorem call_check (lies : hp.get? C = some (excClassObj name qn C N bases tail hd sl sub ab col dd x0 x1 x2 x3 x5 nI)) {Q : Unit → Shared → Prop} (q : Q () ⟨hp, g, d, t, os⟩) :
    wpAny M A (checkBuiltinCall "type.__call__" ⟨.ref C :: us, kw⟩) Q E ⟨hp, g, d, t, os⟩ := by
  have sb := tc_sub
  have ty : (⟨hp, g, d, t, os⟩ : Shared).TypeIs (.ref C) "type" := ⟨_, lies, rfl⟩
  simp only [checkBuiltinCall, tc_kind, tc_split]
  repeat (any_goals (first | assumption | with_reducible refine wpAny_loadPart_at lies ?_ | with_reducible refine wpAny_onRaise ?_ | with_reducible refine wpAny_map ?_ | wp_step))
theorem call_cls (F : ExcBaseFacts B nI iI bmB) (tl : ∀ S : String, tail.contains (.type S) = bmB.contains (.type S))
    (lies : hp.get? C = some (excClassObj name qn C N bases tail hd sl sub ab col dd x0 x1 x2 x3 x5 nI))
    (ini : W.Looks (model prog w) hp (typeLookup (.ref C) "__init__") (some (.ref fI))) (bnd : ∀ self, W.Looks (model prog w) hp (bindSpecial (.ref fI) self) (.ref fI, [self])) (fits : us.length ≤ sizeLine)
    (q : codeAny (model prog w) (A.under (.builtin "type.__call__" ⟨.ref C :: us, kw⟩)) (.call (.ref fI) ⟨.ref (hp.objs.size + 1) :: us, kw⟩) (W.InitBack (hp.objs.size + 1) R)
      ⟨(hp.push (W.kdv_tup us)).push (excO C hp.objs.size), g, d, t, os⟩) :
    codeAny (model prog w) A (.call (.ref C) ⟨us, kw⟩) R ⟨hp, g, d, t, os⟩ := by
  have lk := tc_lookup
  have bd := tc_bind (.ref C)
  have ty : (⟨hp, g, d, t, os⟩ : Shared).TypeIs (.ref C) "type" := ⟨_, lies, rfl⟩
  refine codeAny_of_tree (by
    show wpAny _ _ (callAny (.ref C) _) _ _ _
    repeat (any_goals (first | assumption | with_reducible refine wpAny_loadPart_at lies ?_ | wp_step))
    refine ⟨rfl, ?_⟩
    refine codeAny_call_builtin_at (Code.quiet_builtin _ (by decide +kernel)) entry_typeCall (call_check lies (called F tl lies ini bnd fits ?_))
    refine codeAny_mono q fun r s' z => ?_
    rcases r with e | (v | _ | _ | _) <;> exact z)
end
section
variable {X : Cx} {CX : CXT} {k n : Nat} {f C : Addr} {fd : FuncData} {ps ks : List Str} {sp : Sp} {x : Str} {p pos : Pos} {e : Expr} {es : List Expr} {kws : List Keyword} {t tk : TA} {g : List Value → List Value → List Value} {gV : List V → List V → List V}
/-- an own class of errors, called: the new error stays a value -/
theorem run_new {pins : List (Addr × Obj)} {σ : L2.St} {H : Hp} {s : Shared} {Q : VK} {us ws : List Value} {vs zs : List V} (O : VX.Own X.K C) (iC : PySem.W.findIn X.K (.ref C) "__init__" = some (some (.ref f))) (tI : PySem.W.typeIn X.K (.ref f) = some (.type "function"))
    (F : FnOk X.prog X.w X.K X.mg X.base CX k f fd ps sp) (hr : Room (k + 1) X.A) (hb : KBn X.K fd ps (n + 1) ks g gV) (hx : Passes CX X (fun _ _ _ => False)) (I : Inv X pins σ H s) (r : Vals vs us) (rz : Vals zs ws) (l1 : vs.length = n) (l2 : zs.length = ks.length) (lz : vs.length ≤ 1000)
    (h : ∀ a, H a = none → sp (gV (.ref a :: vs) zs) (upd H a (exo a C none)) (fun v H2 => v = .non ∧ Q (.ref a) H2) (fun _ _ _ => False)) :
    wpAny (model X.prog X.w) X.A (call (.ref C) us (ks.zip ws)) (EP X pins σ Q) X.xe s := by
  obtain ⟨B, nI, iI, bmB, S, ini, _⟩ := O.base
  obtain ⟨hp, g0, dr, tk, os⟩ := s
  obtain ⟨nm, N, qn, bs, bm, hdct, sn, sub, ab, col, dd, k0, k1, k2, k3, k5, hC, tail⟩ := PySem.W.excInit_of I.kIn ini
  have up : hp.objs.size ≤ hp.objs.size + 1 := Nat.le_succ _
  have want := h (hp.objs.size + 1) (I.hok.fresh up)
  have kept : ∀ b o, hp.get? b = some o → ((hp.push (PySem.W.kdv_tup us)).push (HandSPX.excO C hp.objs.size)).get? b = some o := fun b o z => Heap.get?_push_of_some _ (Heap.get?_push_of_some _ z)
  have new : ((hp.push (PySem.W.kdv_tup us)).push (HandSPX.excO C hp.objs.size)).get? (hp.objs.size + 1) = some (HandSPX.excO C hp.objs.size) := by heap_get
  have J : Inv X pins σ (upd H (hp.objs.size + 1) (exo (hp.objs.size + 1) C none)) ⟨(hp.push (PySem.W.kdv_tup us)).push (HandSPX.excO C hp.objs.size), g0, dr, tk, os⟩ := I.laid (t' := tk) kept up (exo_ok new)
  have ra : Vals (V.ref (hp.objs.size + 1) :: vs) (Value.ref (hp.objs.size + 1) :: us) := .cons rfl r
  have n1 : (Value.ref (hp.objs.size + 1) :: us).length = n + 1 := by rw [List.length_cons, ← r.length, l1]
  refine wpAny_call (call_cls S.bs tail hC (PySem.W.looks_findIn I.kIn iC) (fun self => PySem.W.bind_fn I.kIn self tI) (by rw [← r.length, sizeLine_eq]; omega)
    (codeAny_mono (F.run _ X.stack _ _ ⟨Value.ref (hp.objs.size + 1) :: us, ks.zip ws⟩ _ _ _ (fun _ _ _ => False) (hr.make C us (ks.zip ws)) (J.env0.make C us (ks.zip ws)) (hb.to _ _ ws J.kIn n1 (rz.length.symm.trans l2)) (hb.rel ra rz) want) ?_))
  intro r s' hq'
  match r, hq' with
  | .error er, w => exact hx pins σ _ _ er s' J w
  | .ok .next, w => exact False.elim w
  | .ok .brk, w => exact False.elim w
  | .ok .cont, w => exact False.elim w
  | .ok (.ret u), w =>
    obtain ⟨v, H', I3, rv, ev, q3⟩ := J.after w
    subst ev
    exact ⟨rv, ⟨V.ref (hp.objs.size + 1), H', I3, rfl, q3⟩⟩
/-- the value C(e, .., k = v, ..) -/
def tNewK (C : Addr) (n m : Nat) (sp : Sp) (gV : List V → List V → List V) (t tk : TA) : TE := fun σ H Q => t σ H fun vs H1 => tk σ H1 fun zs H2 => vs.length = n ∧ zs.length = m ∧ vs.length ≤ 1000 ∧ ∀ a, H2 a = none →
  sp (gV (.ref a :: vs) zs) (upd H2 a (exo a C none)) (fun v H3 => v = .non ∧ Q (.ref a) H3) (fun _ _ _ => False)
theorem pe_newK0 (O : VX.Own X.K C) (iC : PySem.W.findIn X.K (.ref C) "__init__" = some (some (.ref f))) (tI : PySem.W.typeIn X.K (.ref f) = some (.type "function"))
    (F : FnOk X.prog X.w X.K X.mg X.base CX k f fd ps sp) (hr : Room (k + 1) X.A) (hg : Gl X x) (hm : X.mg x = some (.ref C)) (hb : KBn X.K fd ps 1 ks g gV) (hx : Passes CX X (fun _ _ _ => False)) (hkw : PK X kws tk)
    (hall : (backToKw pos (keywordEach kws X.env)).all (·.1.isSome) = true := by rfl) (hks : (backToKw pos (keywordEach kws X.env)).filterMap (·.1) = ks := by rfl) (hdb : (x == ("__debug__" : Str)) = false := by decide)
    (hpl : ((backTo pos (starEach [] X.env)).any (·.1) || (backToKw pos (keywordEach kws X.env)).any (·.1.isNone)) = false := by rfl) :
    PE X (.Call (.Name x p) [] kws pos) (tNewK C 0 ks.length sp gV tNil tk) := by
  refine ⟨fun pins s σ H Q I h => ?_⟩
  refine wpAny_Call_Name_kw (ld_glob I hg hm ?_ hdb)
  refine PySem.W.callWith_KW0 (h₀ := X.base) I.ok.mod.kin O.keep hall ?_ hpl
  refine thn (hkw.run pos pins s σ H _ I h) fun ws s2 ⟨zs, H2, I2, rz, l1, l2, lz, q2⟩ => ⟨I2.kIn, ?_⟩
  rw [hks]
  exact run_new (us := []) (vs := []) O iC tI F hr hb hx I2 .nil rz rfl l2 lz q2
/-- the value C(e, ..) -/
def tNewV (C : Addr) (sp : Sp) (t : TA) : TE := fun σ H Q => t σ H fun vs H1 => vs.length ≤ 1000 ∧ ∀ a, H1 a = none →
  sp (.ref a :: vs) (upd H1 a (exo a C none)) (fun v H3 => v = .non ∧ Q (.ref a) H3) (fun _ _ _ => False)
theorem kb_none (F : FnOk X.prog X.w X.K X.mg X.base CX k f fd ps sp) (hb : Binds X.K fd ps []) {m : Nat} (hm : ps.length = m) : KBn X.K fd ps m [] (fun us _ => us) (fun vs _ => vs) :=
  ⟨fun s us ws X l _ => by
    have z := hb s us X (by rw [List.append_nil, l, hm])
    rw [List.append_nil] at z
    exact z, fun r _ => r⟩
theorem pe_newV (O : VX.Own X.K C) (iC : PySem.W.findIn X.K (.ref C) "__init__" = some (some (.ref f))) (tI : PySem.W.typeIn X.K (.ref f) = some (.type "function"))
    (F : FnOk X.prog X.w X.K X.mg X.base CX k f fd ps sp) (hr : Room (k + 1) X.A) (hg : Gl X x) (hm : X.mg x = some (.ref C)) (hb : Binds X.K fd ps []) (hx : Passes CX X (fun _ _ _ => False)) (ha : PA X (e :: es) t) (hdb : (x == ("__debug__" : Str)) = false := by decide)
    (he : starEach (e :: es) X.env = (false, eval e X.env) :: starEach es X.env := by rfl) (hpl : (backTo pos (starEach es X.env)).any (·.1) = false := by rfl) :
    PE X (.Call (.Name x p) (e :: es) [] pos) (tNewV C sp t) := by
  refine ⟨fun pins s σ H Q I h => ?_⟩
  refine wpAny_Call_Name_kw (ld_glob I hg hm ?_ hdb)
  refine PySem.W.callWith_K (h₀ := X.base) I.ok.mod.kin O.keep (thn (ha.run pos pins s σ H _ I h) ?_) he hpl
  rintro us s1 ⟨vs, H1, I1, r1, lz, q1⟩
  refine ⟨I1.kIn, ?_⟩
  have len : ps.length = vs.length + 1 := by
    have z := q1 (s1.heap.objs.size + 1) (I1.hok.fresh (Nat.le_succ _))
    exact (F.len _ _ _ _ z).symm
  exact run_new (zs := []) (ws := []) O iC tI F hr (kb_none F hb len) hx I1 r1 .nil rfl rfl lz q1
/-- the value C(e) of a class without an __init__ -/
def tNewB (C : Addr) (t : TE) : TE := fun σ H Q => t σ H fun _ H1 => ∀ a, H1 a = none → Q (.ref a) (upd H1 a (exo a C none))
theorem pe_newB {B nI iI : String} {bmB : List Value} {te : TE} (F : ExcBaseFacts B nI iI bmB) (q : PySem.W.excIn X.K C bmB nI = true) (kC : PySem.W.keepIn X.K (.ref C) = true) (hg : Gl X x) (hm : X.mg x = some (.ref C)) (he : PE X e te)
    (hs : starEach [e] X.env = (false, eval e X.env) :: starEach [] X.env := by rfl) (hdb : (x == ("__debug__" : Str)) = false := by decide) :
    PE X (.Call (.Name x p) [e] [] pos) (tNewB C te) := by
  refine ⟨fun pins s σ H Q I h => ?_⟩
  refine wpAny_Call_Name_kw (ld_glob I hg hm ?_ hdb)
  refine PySem.W.callWith_K (h₀ := X.base) I.ok.mod.kin kC ?_ hs (by rfl)
  rw [hs]
  show wpAny _ _ (spliced ((false, eval e X.env) :: backTo pos (starEach [] X.env))) _ _ s
  refine Calls.spliced_cons (thn (he.run pins s σ H _ I h) fun u s1 ⟨v, H1, I1, r1, q1⟩ => ?_)
  refine Calls.spliced_nil ⟨I1.kIn, ?_⟩
  show wpAny _ _ (call (.ref C) [u]) _ _ _
  obtain ⟨bm, N, nm, qn, bs, hdct, sn, sub, ab, col, dd, k0, k1, k2, k3, k5, mN, hC, hN, hni, T⟩ := exc_obj I1.kIn q
  refine wpAny_call_exc_subT F T hC hN hni (fun h' a hm => ?_) (by show 1 ≤ sizeLine; rw [sizeLine_eq]; omega)
  have hn : H1 a = none := I1.hok.gone hm.new
  obtain ⟨t, ht, _, _⟩ := hm.there
  exact ⟨.ref a, upd H1 a (exo a C none), I1.laidN hm.keeps hm.new hn (exo_ok ht), rfl, q1 a hn⟩
/-- what lies at an error -/
def ErAt (H : Hp) (a D : Addr) : Prop := H a = some (exo a D none) ∨ ∃ (dj : Addr) (fs : List (Str × V)), H a = some (exo a D (some dj)) ∧ H dj = some (exd dj fs)
theorem er_inst {pins : List (Addr × Obj)} {σ : L2.St} {H : Hp} {s : Shared} {a D : Addr} (I : Inv X pins σ H s) (h : ErAt H a D) : ∃ oe od, PySem.W.InstAt s.heap a oe D od := by
  rcases h with h | ⟨dj, fs, h, hd⟩
  · obtain ⟨t1, ho⟩ := exo_at I.hok h
    exact ⟨_, none, ho, rfl, rfl, trivial⟩
  · obtain ⟨t1, ho⟩ := exo_at I.hok h
    obtain ⟨mA, ⟨od, es, ep, hod, _⟩, _⟩ := exd_at I.hok hd
    exact ⟨_, some od, ho, rfl, rfl, hod⟩
/-- isinstance(e, c), isinstance(e, (c, ..)), e an error that is a value -/
def rAskV (K : PySem.W.Frag) : List V → Hp → VK → Prop := fun xs H Q => ∃ (a D : Addr) (c : V) (b : Bool), xs = [.ref a, c] ∧ VX.Asked K D ∧ ErAt H a D ∧
  ((∃ cv, (∀ u, RelV c u → u = cv) ∧ PySem.W.kitOne K (.ref D) cv = some b) ∨ ∃ (tp : Addr) (cs : List V) (us : List Value), c = .ref tp ∧ H tp = some (.tup cs) ∧ (∀ ws, Vals cs ws → ws = us) ∧ PySem.W.kitAny K (.ref D) us = some b) ∧ Q (.bl b) H
theorem call_askV : CallR X (.builtin "isinstance") (rAskV X.K) := by
  intro pins s σ H xs us Q I r h
  obtain ⟨a, D, c, b, rfl, C, er, ask, q⟩ := h
  obtain ⟨u1, u2, rfl, r1, r2⟩ := vals2 r
  obtain rfl : u1 = Value.ref a := r1
  obtain ⟨oe, od, J⟩ := er_inst I er
  have Z := PySem.W.kitx_exc (x := a) (ox := oe) (od := od) C.cl C.ga C.gt C.sb C.cc C.gn C.tk C.mr
  have fin : ∀ tk : Nat, EP X pins σ Q (.bool b) { s with toks := tk } := fun tk => ⟨.bl b, H, I.kept (t' := tk) fun _ _ z => z, rfl, q⟩
  rcases ask with ⟨cv, hc, e⟩ | ⟨tp, cs, ws, rfl, ht, hc, e⟩
  · rw [hc u2 r2]
    exact PySem.W.kia_one Z I.kIn J e (fun z => nomatch z) fin
  · obtain rfl : u2 = Value.ref tp := r2
    have tup : ObjOk X.prog X.w H s.heap tp (.tup cs) := I.hok tp _ ht
    obtain ⟨_, its, rv, o, h1, h2, n, h3⟩ := tup
    rw [← hc its rv] at e
    obtain ⟨oc, oda, dt, sl⟩ := o
    simp only at h2 h3
    subst h2 h3
    exact PySem.W.kia_tup Z I.kIn J h1 e (fun z => nomatch z) fin
/-- e.f, e an error that is a value -/
def tFldV (K : PySem.W.Frag) (f : Str) (te : TE) : TE := fun σ H Q => te σ H fun x H1 => ∃ (a D dj : Addr) (fs : List (Str × V)) (v : V), x = .ref a ∧ XfC K D ∧ PySem.W.findIn K (.ref D) f = some none ∧ H1 a = some (exo a D (some dj)) ∧ H1 dj = some (exd dj fs) ∧ fs.lookup f = some v ∧ Q v H1
theorem pe_fldV {te : TE} {fn : Str} (he : PE X e te) (hb : attributeBase e fn X.env (eval e X.env) = eval e X.env := by rfl) : PE X (.Attribute e fn pos) (tFldV X.K fn te) := by
  refine ⟨fun pins s σ H Q I h => attr_of hb (thn (he.run pins s σ H _ I h) fun u s1 hh => ?_)⟩
  obtain ⟨x, H1, I1, rx, a, D, dj, fs, v, ex, T, no, ea, ed, l, q⟩ := hh
  subst ex
  obtain rfl : u = Value.ref a := rx
  obtain ⟨t1, ho⟩ := exo_at I1.hok ea
  obtain ⟨mA, hns, hr⟩ := exd_at I1.hok ed
  obtain ⟨od, hod, hl⟩ := lookIn_ns hns
  obtain ⟨u, hu, ru⟩ := RelO.some_of (v := v) (o := mA fn) (by rw [← l]; exact hr fn)
  have J : PySem.W.InstAt s1.heap a _ D (some od) := ⟨ho, rfl, rfl, hod⟩
  exact HandSPX.exc_get I1.kIn J T.ga T.gg T.exC (PySem.W.findObj_own T.hdC no rfl (by rw [hl, hu])) (handed_of ru) ⟨v, H1, I1.tok _, ru, q⟩
end
end VEv

/-! zip of a str and a list. -/
namespace VZs
open PySem PySem.Spec PyProof.Rows L2
abbrev p1 (h : Heap) (x : Str) (t : Tok) : Heap := h.push { cls := .type "str_ascii_iterator", data := .fields #[.str x t, .int 0 0] }
abbrev p2 (h : Heap) (x : Str) (t : Tok) (b : Addr) : Heap := (p1 h x t).push { cls := .type "list_iterator", data := .fields #[.ref b, .int 0 0] }
abbrev p3 (h : Heap) (x : Str) (t : Tok) (b : Addr) : Heap := (p2 h x t b).push { cls := .type "tuple", data := .seq #[.ref h.objs.size, .ref (p1 h x t).objs.size] }
abbrev p4 (h : Heap) (x : Str) (t : Tok) (b : Addr) : Heap := (p3 h x t b).push { cls := .type "tuple", data := .seq #[.none, .none] }
abbrev p5 (h : Heap) (x : Str) (t : Tok) (b : Addr) : Heap := (p4 h x t b).push { cls := .type "zip", data := .fields #[.none, .bool false, .bool false, .ref (p2 h x t b).objs.size, .ref (p3 h x t b).objs.size] }
theorem new_zs (x : Str) (t : Tok) (b : Addr) (ys : Array Value) (asc : x.cps.all (· < 128) = true) :
    Meets (Builtin.«zip.__new__» ⟨[.type "zip", .str x t, .ref b], []⟩) (fun _ R s => s.heap.IsList b ys ∧ R (.ok (.ret (.ref (p4 s.heap x t b).objs.size))) { s with heap := p5 s.heap x t b }) :=
  .of_wp fun prog w A R s z => by
    obtain ⟨h0, gs, dr, tk, os⟩ := s
    obtain ⟨lb, q⟩ := z
    have hsub := sub_zip
    have lb2 : Heap.IsList (Shared.heap ⟨h0.push { cls := .type "str_ascii_iterator", data := .fields #[.str x t, .int 0 0] }, gs, dr, tk, os⟩) b ys := Heap.IsList.push lb _
    wp_walk using wpAny_pyIter_ascii asc, wpAny_pyIter_list lb2
    exact ⟨_, rfl, q⟩
section
variable {prog : Program} {w : World} {A : Around} {E : Value → Shared → Prop} {s : Shared}
theorem call_zs {x : Str} {t : Tok} {b : Addr} {ys : Array Value} {Q : Value → Shared → Prop} (asc : x.cps.all (· < 128) = true) (lb : s.heap.IsList b ys)
    (q : ∀ h', IsZip h' (s.heap.objs.size + 4) (s.heap.objs.size + 2) (s.heap.objs.size + 3) .none → IsTupOf2 h' (s.heap.objs.size + 2) (.ref s.heap.objs.size) (.ref (s.heap.objs.size + 1)) →
      IsTupOf2 h' (s.heap.objs.size + 3) .none .none → h'.IsStrIter s.heap.objs.size "str_ascii_iterator" x t 0 → h'.IsListIter (s.heap.objs.size + 1) b 0 →
      (∀ c o, s.heap.get? c = some o → h'.get? c = some o) → Q (.ref (s.heap.objs.size + 4)) { s with heap := h' }) :
    wpAny (model prog w) A (call (.type "zip") [.str x t, .ref b]) Q E s := by
  refine callType_new F.called_zip (by decide) (F.typeCall_zip_2 _ _) (F.newCall_zip_2 _ _) (fun obj => F.args_object_init_3 obj _ _) F.entry_zip_new (new_zs x t b ys asc) ⟨lb, ?_⟩
  have n1 : (p1 s.heap x t).objs.size = s.heap.objs.size + 1 := Heap.size_push ..
  have n2 : (p2 s.heap x t b).objs.size = s.heap.objs.size + 2 := by rw [Heap.size_push, n1]
  have n3 : (p3 s.heap x t b).objs.size = s.heap.objs.size + 3 := by rw [Heap.size_push, n2]
  have n4 : (p4 s.heap x t b).objs.size = s.heap.objs.size + 4 := by rw [Heap.size_push, n3]
  have a5 : (p5 s.heap x t b).get? (p4 s.heap x t b).objs.size = some _ := Heap.get?_push_size _ rfl
  have a4 : (p5 s.heap x t b).get? (p3 s.heap x t b).objs.size = some _ := Heap.get?_push_of_some _ (Heap.get?_push_size _ rfl)
  have a3 : (p5 s.heap x t b).get? (p2 s.heap x t b).objs.size = some _ := Heap.get?_push_of_some _ (Heap.get?_push_of_some _ (Heap.get?_push_size _ rfl))
  have a2 : (p5 s.heap x t b).get? (p1 s.heap x t).objs.size = some _ := Heap.get?_push_of_some _ (Heap.get?_push_of_some _ (Heap.get?_push_of_some _ (Heap.get?_push_size _ rfl)))
  have a1 : (p5 s.heap x t b).get? s.heap.objs.size = some _ := Heap.get?_push_of_some _ (Heap.get?_push_of_some _ (Heap.get?_push_of_some _ (Heap.get?_push_of_some _ (Heap.get?_push_size _ rfl))))
  show _ ∧ _
  rw [n2, n3, n4] at a5
  rw [n1, n2] at a3
  rw [n3] at a4
  rw [n1] at a2
  rw [n4]
  exact ⟨⟨_, a5, rfl⟩, q _ a5 a3 a4 ⟨_, a1, rfl, rfl⟩ ⟨_, a2, rfl, rfl⟩ fun c o e =>
    Heap.get?_push_of_some _ (Heap.get?_push_of_some _ (Heap.get?_push_of_some _ (Heap.get?_push_of_some _ (Heap.get?_push_of_some _ e))))⟩
end
/-- the signs of x beside the items of the list at b -/
def ItS (K : PySem.W.Frag) (x : Str) (b : Addr) (ys : List V) : It :=
  ⟨fun i H => SqL K H b ys ∧ i < x.cps.size ∧ i < ys.length,
    fun i H v H' => ∃ T c y, v = .ref T ∧ H T = none ∧ H' = upd H T (.tup [.str ⟨#[c]⟩, y]) ∧ x.cps[i]? = some c ∧ ys[i]? = some y,
    fun i H => SqL K H b ys ∧ i ≤ x.cps.size ∧ i ≤ ys.length ∧ (i = x.cps.size ∨ i = ys.length)⟩
theorem turn_zs {P : Program} {w : World} {K : PySem.W.Frag} {elts : List Expr} {kk : Nat} {tpos : Pos} {x : Str} {t : Tok} {b z TI TO i1 i2 : Addr} {ys : List V} (S : ZipSep2 z TI TO i1 i2 [i1] [i2, b]) (nb : b ≠ i2) :
    Turn P w K (.Tuple elts kk tpos) (ItS K x b ys) [z, TI, TO, i1, i2] z (fun i h => IsZip h z TI TO .none ∧ IsTupOf2 h TI (.ref i1) (.ref i2) ∧ (∃ u v, IsTupOf2 h TO u v) ∧ h.IsStrIter i1 "str_ascii_iterator" x t i ∧ h.IsListIter i2 b i) where
  mem := by simp
  obj := fun i h st c hc => by
    obtain ⟨hz, hTI, ⟨u, v, hTO⟩, ⟨o1, e1, _, d1⟩, ⟨o2, e2, _, d2⟩⟩ := st
    have e' : c = z ∨ c = TI ∨ c = TO ∨ c = i1 ∨ c = i2 := by simpa using hc
    rcases e' with q | q | q | q | q <;> subst q
    · exact ⟨_, hz, fun v q => nomatch q⟩
    · exact ⟨_, hTI, fun v q => nomatch q⟩
    · exact ⟨_, hTO, fun v q => nomatch q⟩
    · exact ⟨o1, e1, fun v q => by rw [d1] at q; cases q⟩
    · exact ⟨o2, e2, fun v q => by rw [d2] at q; cases q⟩
  keep := fun i h h' st k => by
    obtain ⟨hz, hTI, ⟨u, v, hTO⟩, ⟨o1, e1, r1⟩, h2⟩ := st
    exact ⟨k z (by simp) _ hz, k TI (by simp) _ hTI, ⟨u, v, k TO (by simp) _ hTO⟩, ⟨o1, k i1 (by simp) _ e1, r1⟩, h2.at fun o q => k i2 (by simp) o q⟩
  item := by
    intro X hP hw hK hc i pins s σ H E I hf st hg
    subst hP hw hK
    obtain ⟨hz, hTI, ⟨u0, v0, hTO⟩, s1, s2⟩ := st
    obtain ⟨hq, l1, l2⟩ := hg
    obtain ⟨its, rv, pl, _⟩ := I.list hq
    have len := rv.length
    have hh : X.A.in1.handled = none := I.ok.hd hc
    refine wpAny_pyNext_zipD2_item S (Draws.strAscii hh i1 x t) (Draws.list hh i2 b nb its.toArray) hz hTI hTO s1 ⟨s2, pl.isList⟩ l1 (by simpa [← len] using l2) fun v1 v2 h' tk g1 g2 z' TO' s1' s2' hT hsz hk => ?_
    obtain ⟨c, tc, hc1, rfl⟩ := g1
    have hzl : z < s.heap.objs.size := Heap.lt_size hz
    refine ⟨_, rfl, wpAny_letOwnedTupleGo_zip (s := { s with heap := h', toks := tk }) z' fun h2 z2 sb => ?_⟩
    have hi : i < ys.length := l2
    obtain ⟨u2, hu2, ru2⟩ := rv.get (List.getElem?_eq_getElem hi)
    have ev : v2 = u2 := by
      have e : its.toArray[i]? = some v2 := g2
      have e2 : its.toArray[i]? = some u2 := by simpa using hu2
      rw [e] at e2
      exact Option.some.inj e2
    subst ev
    have hT2 : h2.get? s.heap.objs.size = some { cls := .type "tuple", data := .seq #[.str ⟨#[c]⟩ tc, v2] } := (sb.2 _ (Nat.ne_of_gt hzl)).trans hT
    have new : ObjOk X.prog X.w (upd H s.heap.objs.size (.tup [.str ⟨#[c]⟩, ys[i]])) h2 s.heap.objs.size (.tup [.str ⟨#[c]⟩, ys[i]]) :=
      ⟨by show 2 ≤ sizeLine; decide, [.str ⟨#[c]⟩ tc, v2], .cons ⟨tc, rfl⟩ (.cons ru2 .nil), ⟨_, hT2, rfl, _, rfl⟩⟩
    have I1 : Inv X pins σ (upd H s.heap.objs.size (.tup [.str ⟨#[c]⟩, ys[i]])) { s with heap := h2, toks := tk } :=
      I.turnedNew (t' := tk) (ch := [z, TI, TO, i1, i2]) (fun a o hb q => (sb.2 a (fun q' => hb (by simp [q']))).trans (hk a o (fun q' => hb (by simp [q'])) (fun q' => hb (by simp [q'])) (fun q' => hb (by simp [q'])) (fun q' => hb (by simp [q'])) q)) hf (Nat.le_refl _) new
    refine ⟨.ref s.heap.objs.size, _, I1, rfl, ⟨_, c, ys[i], rfl, I.hok.fresh (Nat.le_refl _), rfl, hc1, List.getElem?_eq_getElem hi⟩, ⟨z2, ?_, ⟨_, _, (sb.2 _ S.TOz).trans TO'⟩, ?_, ?_⟩, fun a ha => ?_⟩
    · exact (sb.2 _ S.TIz).trans (hk _ _ S.TIz S.TITO S.TIi1 S.TIi2 hTI)
    · obtain ⟨o, ho, r⟩ := s1'
      exact ⟨o, (sb.2 _ S.zi1.symm).trans ho, r⟩
    · exact s2'.1.at fun o q => (sb.2 _ S.zi2.symm).trans q
    · have hlt : a < s.heap.objs.size := by
        obtain ⟨o1, e1, _⟩ := s1
        obtain ⟨o2, e2, _⟩ := s2
        have e' : a = z ∨ a = TI ∨ a = TO ∨ a = i1 ∨ a = i2 := by simpa using ha
        rcases e' with q | q | q | q | q <;> subst q
        · exact hzl
        · exact Heap.lt_size hTI
        · exact Heap.lt_size hTO
        · exact Heap.lt_size e1
        · exact Heap.lt_size e2
      rw [upd_ne (Nat.ne_of_lt hlt)]
      exact (hf a ha).1
  done := by
    intro X hP hw hK hc i pins s σ H E I hf st hg
    subst hP hw hK
    obtain ⟨hz, hTI, ⟨u0, v0, hTO⟩, s1, s2⟩ := st
    obtain ⟨hq, l1, l2, le⟩ := hg
    obtain ⟨its, rv, pl, _⟩ := I.list hq
    have len := rv.length
    have hh : X.A.in1.handled = none := I.ok.hd hc
    exact wpAny_pyNext_zipD2_end S (Draws.strAscii hh i1 x t) (Draws.list hh i2 b nb its.toArray) hz hTI hTO s1 ⟨s2, pl.isList⟩ l1 (by simpa [← len] using l2) (by simpa [← len] using le) fun h' tk hk =>
      ⟨rfl, I.turnedL (t' := tk) (ch := [z, TI, TO, i1, i2]) (fun a o hb q => hk a o (fun q' => hb (by simp [q'])) (fun q' => hb (by simp [q'])) (fun q' => hb (by simp [q'])) (fun q' => hb (by simp [q'])) q) hf⟩
  self := fun A i s Q E st h => wpAny_pyIter_zip st.1 h
def iZipS (K : PySem.W.Frag) (ta : TA) : TI := fun σ H R => ta σ H fun vs H1 => ∃ x b ys, vs = [.str x, .ref b] ∧ x.cps.all (· < 128) = true ∧ SqL K H1 b ys ∧ R (ItS K x b ys) H1
theorem pi_zipS {X : Cx} {e e2 : Expr} {ta : TA} {p pos tpos : Pos} {elts : List Expr} {kk : Nat} (hg : Gl X "zip") (hm : X.mg "zip" = none) (ha : PA X [e, e2] ta)
    (st : starEach [e, e2] X.env = (false, eval e X.env) :: starEach [e2] X.env := by rfl) (pl : (backTo pos (starEach [e2] X.env)).any (·.1) = false := by rfl) :
    PI X (.Tuple elts kk tpos) (.Call (.Name "zip" p) [e, e2] [] pos) (iZipS X.K ta) := by
  refine ⟨fun pins s σ H R I h => Call_ (ld_blt I hg hm PyProof.Rows.boot_zip (PyProof.Rows.callWith_type1 (thn (ha.run pos pins s σ H _ I h) fun us s1 ⟨vs, H1, I1, r1, q1⟩ => ?_) st pl))⟩
  obtain ⟨x, b, ys, ex, asc, hq, q⟩ := q1
  subst ex
  obtain ⟨u1, u2, rfl, ⟨t, rfl⟩, r2⟩ := vals2 r1
  obtain rfl : u2 = Value.ref b := r2
  obtain ⟨its, rv, lb, _⟩ := I1.list hq
  have bl : b < s1.heap.objs.size := lb.lt
  refine call_zs asc lb.isList fun h' hz hTI hTO h1 h2 hk => wpAny_pyIter_zip hz ?_
  have I2 : Inv X pins σ H1 { s1 with heap := h' } := I1.kept (t' := s1.toks) hk
  refine ⟨s1.heap.objs.size + 4, [s1.heap.objs.size + 4, s1.heap.objs.size + 2, s1.heap.objs.size + 3, s1.heap.objs.size, s1.heap.objs.size + 1], _, _, H1, rfl, I2, turn_zs (x := x) (t := t) (b := b) (ys := ys) ?_ (Nat.ne_of_lt (Nat.lt_succ_of_lt bl)), ⟨hz, hTI, ⟨_, _, hTO⟩, h1, h2⟩, fun c hcm => ?_, q⟩
  · have e0 : ∀ k, (s1.heap.objs.size + k : Nat) ≠ b := fun k => Nat.ne_of_gt (Nat.lt_of_lt_of_le bl (Nat.le_add_right _ k))
    have e1 : s1.heap.objs.size ≠ b := e0 0
    constructor <;> simp [e0, e1]
  · have le : s1.heap.objs.size ≤ c := by
      simp only [List.mem_cons, List.not_mem_nil, or_false] at hcm
      rcases hcm with rfl | rfl | rfl | rfl | rfl
      all_goals first | exact Nat.le_refl _ | exact Nat.le_add_right _ _
    exact I1.fpOk le (I1.hok.fresh le)
end VZs

/-! sorted of a list of lists with one int each. -/
namespace VSl
open PySem PySem.Spec PyProof.Rows L2
abbrev adr : Value → Addr
  | .ref a => a
  | _ => 0
/-- sorted(xs), xs lists of one int: a new list of the same, upwards -/
def rSortedL1 (K : PySem.W.Frag) : List V → Hp → VK → Prop := fun vs H Q => ∃ (a : Addr) (ts : List (Addr × Int)), vs = [V.ref a] ∧ SqL K H a (ts.map fun t => V.ref t.1) ∧ (∀ t ∈ ts, H t.1 = some (.lst [.int t.2])) ∧ ts.length ≤ 1000 ∧
  ∀ (ts' : List (Addr × Int)) p, ts'.map (·.2) = (ts.map (·.2)).mergeSort (fun x y => decide (x ≤ y)) → (∀ t ∈ ts', H t.1 = some (.lst [.int t.2])) → H p = none → Q (.ref p) (upd H p (.lst (ts'.map fun t => V.ref t.1)))
section
variable {X : Cx}
theorem vals_of_pairs : ∀ {ts : List (Addr × Int)} {us : List Value}, Vals (ts.map fun t => V.ref t.1) us → us = ts.map fun t => Value.ref t.1
  | [], us, r => by
    rw [List.map_nil] at r
    cases r
    rfl
  | t :: ts, us, r => by
    rw [List.map_cons] at r
    cases r with
    | cons h q =>
      cases h
      rw [List.map_cons, ← vals_of_pairs q]
theorem pairs_vals : ∀ ts : List (Addr × Int), Vals (ts.map fun t => V.ref t.1) (ts.map fun t => Value.ref t.1)
  | [] => .nil
  | _ :: ts => .cons rfl (pairs_vals ts)
theorem each_of {α β : Type} {R : α → β → Prop} (f : γ → α) (g : γ → β) : ∀ (l : List γ), (∀ t ∈ l, R (f t) (g t)) → PySem.W.EachIs R (l.map f) (l.map g)
  | [], _ => .nil
  | t :: l, h => .cons (h t List.mem_cons_self) (each_of f g l fun u hu => h u (List.mem_cons_of_mem _ hu))
/-- what comes out, as pairs -/
theorem each_back {P : Addr → Int → Prop} : ∀ {out : List Value} {bs : List Int}, PySem.W.EachIs (fun v b => ∃ t, v = Value.ref t ∧ P t b) out bs → ∃ ts : List (Addr × Int), out = ts.map (fun t => Value.ref t.1) ∧ ts.map (·.2) = bs ∧ ∀ t ∈ ts, P t.1 t.2
  | _, _, .nil => ⟨[], rfl, rfl, fun t h => by cases h⟩
  | _, _, .cons ⟨t, e, p⟩ r => by
    obtain ⟨ts, h1, h2, h3⟩ := each_back r
    exact ⟨(t, _) :: ts, by rw [e, h1]; rfl, by rw [List.map_cons, h2], fun u hu => by
      rcases List.mem_cons.mp hu with rfl | hu
      · exact p
      · exact h3 u hu⟩
theorem cr_sortedL1 (hu : X.A.units + 64 < cLine) : CallR X (.builtin "sorted") (rSortedL1 X.K) := by
  intro pins s σ H vs us Q I r h
  obtain ⟨a, ts, rfl, hs, ht, hn, q⟩ := h
  obtain ⟨its, rv, hl, hz⟩ := I.list hs
  rw [Vals.ref1 r]
  have ei := vals_of_pairs rv
  subst ei
  have rd : ∀ t ∈ ts, ∃ as, Reads s.heap (Value.ref t.1) (.list ([t.2].map .int)) as := fun t hm => by
    exact Dp.reads I (.list [.int t.2]) (V.ref t.1) _ (.lst (SqL.of (ht t hm)) (.cons (.int t.2) .nil)) rfl
  refine PySem.W.sorted_data (R := fun v b => ∃ t, v = Value.ref t ∧ H t = some (.lst [.int b])) (enc := fun b : Int => .list ([b].map .int)) (bs := ts.map (·.2)) hl.isList
    (each_of _ _ ts fun t hm => ⟨t.1, rfl, ht t hm⟩) (each_of _ _ ts rd) (PySem.W.AllAlike.of fun b b' => rfl) (PySem.W.Sortable.others fun b => ⟨(fun q => nomatch q), fun _ q => nomatch q⟩) (by rw [List.length_map, sizeLine_eq]; omega) (fun b _ => by
      have e : (PyData.list ([b].map .int)).depth = 1 := rfl
      rw [e]; omega) fun out hlen e => ?_
  have le : (PySem.W.dataLe false fun b : Int => PyData.list ([b].map .int)) = fun x y => decide (x ≤ y) := by
    rw [PySem.W.dataLe_rows (fun b : Int => [b])]
    funext p q
    have z : ([p] ≤ [q]) ↔ p ≤ q := by
      rw [← List.not_lt, ← Int.not_lt]
      simp [List.cons_lt_cons_iff]
    exact decide_eq_decide.mpr z
  rw [le] at e
  obtain ⟨ts', h1, h2, h3⟩ := each_back e
  subst h1
  obtain ⟨ep, he'⟩ := PyProof.Rows.sortedAll_at s.heap (ts.map fun t => Value.ref t.1) (ts'.map fun t => Value.ref t.1).toArray
  have hl2 : (ts'.map fun t => V.ref t.1).length ≤ sizeLine := by
    rw [List.length_map] at hlen ⊢
    rw [List.length_map] at hlen
    rw [hlen, sizeLine_eq]
    omega
  exact ⟨.ref _, upd H (s.heap.objs.size + 1) (.lst (ts'.map fun t => V.ref t.1)), I.laid (t' := s.toks) (fun _ _ => PyProof.Rows.sortedAll_old) (Nat.le_succ _) ⟨hl2, _, ep, pairs_vals ts', he'⟩, rfl, q ts' _ h2 h3 (I.hok.fresh (Nat.le_succ _))⟩
end
end VSl

namespace VK
open PySem PySem.Spec PyProof.Rows L2
def top (i : Nat) : Stmt := PySem.Challenge.pw_dueways_k19_errors.main.body.getD i (.Pass ⟨0, 0, 0, 0⟩)
abbrev s_InvalidCurve_init : Stmt := inClass (top 2) 0
theorem sc_InvalidCurve_init : FnScope ["self", "problem", "position"] ["self", "problem", "position"] (defScope s_InvalidCurve_init) := ⟨rfl, rfl, rfl, by decide +kernel, rfl, by decide +kernel, by decide +kernel⟩
abbrev s_InvalidPiece_init : Stmt := inClass (top 3) 0
theorem sc_InvalidPiece_init : FnScope ["self", "position"] ["self", "position"] (defScope s_InvalidPiece_init) := ⟨rfl, rfl, rfl, by decide +kernel, rfl, by decide +kernel, by decide +kernel⟩
abbrev s_InvalidLength_init : Stmt := inClass (top 4) 0
theorem sc_InvalidLength_init : FnScope ["self", "value"] ["self", "value"] (defScope s_InvalidLength_init) := ⟨rfl, rfl, rfl, by decide +kernel, rfl, by decide +kernel, by decide +kernel⟩
abbrev s_InvalidCount_init : Stmt := inClass (top 5) 0
theorem sc_InvalidCount_init : FnScope ["self", "value"] ["self", "value"] (defScope s_InvalidCount_init) := ⟨rfl, rfl, rfl, by decide +kernel, rfl, by decide +kernel, by decide +kernel⟩
abbrev s_InvalidRecord_init : Stmt := inClass (top 6) 0
theorem sc_InvalidRecord_init : FnScope ["self", "position"] ["self", "position"] (defScope s_InvalidRecord_init) := ⟨rfl, rfl, rfl, by decide +kernel, rfl, by decide +kernel, by decide +kernel⟩
abbrev s_InvalidVisit_init : Stmt := inClass (top 7) 0
theorem sc_InvalidVisit_init : FnScope ["self", "problem"] ["self", "problem"] (defScope s_InvalidVisit_init) := ⟨rfl, rfl, rfl, by decide +kernel, rfl, by decide +kernel, by decide +kernel⟩
abbrev s_InvalidVisits_init : Stmt := inClass (top 8) 0
theorem sc_InvalidVisits_init : FnScope ["self", "position"] ["self", "position"] (defScope s_InvalidVisits_init) := ⟨rfl, rfl, rfl, by decide +kernel, rfl, by decide +kernel, by decide +kernel⟩
abbrev s_InvalidSupply_init : Stmt := inClass (top 9) 0
theorem sc_InvalidSupply_init : FnScope ["self", "position"] ["self", "position"] (defScope s_InvalidSupply_init) := ⟨rfl, rfl, rfl, by decide +kernel, rfl, by decide +kernel, by decide +kernel⟩
abbrev s_InvalidWindow_init : Stmt := inClass (top 10) 0
theorem sc_InvalidWindow_init : FnScope ["self", "value"] ["self", "value"] (defScope s_InvalidWindow_init) := ⟨rfl, rfl, rfl, by decide +kernel, rfl, by decide +kernel, by decide +kernel⟩
abbrev s_InvalidStation_init : Stmt := inClass (top 11) 0
theorem sc_InvalidStation_init : FnScope ["self", "problem"] ["self", "problem"] (defScope s_InvalidStation_init) := ⟨rfl, rfl, rfl, by decide +kernel, rfl, by decide +kernel, by decide +kernel⟩
abbrev s_InvalidNetwork_init : Stmt := inClass (top 12) 0
theorem sc_InvalidNetwork_init : FnScope ["self", "problem", "position"] ["self", "problem", "position"] (defScope s_InvalidNetwork_init) := ⟨rfl, rfl, rfl, by decide +kernel, rfl, by decide +kernel, by decide +kernel⟩
abbrev s_InvalidName_init : Stmt := inClass (top 13) 0
theorem sc_InvalidName_init : FnScope ["self", "value"] ["self", "value"] (defScope s_InvalidName_init) := ⟨rfl, rfl, rfl, by decide +kernel, rfl, by decide +kernel, by decide +kernel⟩
abbrev s_InvalidPath_init : Stmt := inClass (top 14) 0
theorem sc_InvalidPath_init : FnScope ["self", "position"] ["self", "position"] (defScope s_InvalidPath_init) := ⟨rfl, rfl, rfl, by decide +kernel, rfl, by decide +kernel, by decide +kernel⟩
abbrev s_InvalidSplit_init : Stmt := inClass (top 15) 0
theorem sc_InvalidSplit_init : FnScope ["self", "position"] ["self", "position"] (defScope s_InvalidSplit_init) := ⟨rfl, rfl, rfl, by decide +kernel, rfl, by decide +kernel, by decide +kernel⟩
abbrev s_InvalidTime_init : Stmt := inClass (top 16) 0
theorem sc_InvalidTime_init : FnScope ["self", "value"] ["self", "value"] (defScope s_InvalidTime_init) := ⟨rfl, rfl, rfl, by decide +kernel, rfl, by decide +kernel, by decide +kernel⟩
abbrev s_InvalidTick_init : Stmt := inClass (top 17) 0
theorem sc_InvalidTick_init : FnScope ["self", "value"] ["self", "value"] (defScope s_InvalidTick_init) := ⟨rfl, rfl, rfl, by decide +kernel, rfl, by decide +kernel, by decide +kernel⟩
abbrev s_InvalidFault_init : Stmt := inClass (top 18) 0
theorem sc_InvalidFault_init : FnScope ["self", "problem"] ["self", "problem"] (defScope s_InvalidFault_init) := ⟨rfl, rfl, rfl, by decide +kernel, rfl, by decide +kernel, by decide +kernel⟩
abbrev s_InvalidFaults_init : Stmt := inClass (top 19) 0
theorem sc_InvalidFaults_init : FnScope ["self", "position"] ["self", "position"] (defScope s_InvalidFaults_init) := ⟨rfl, rfl, rfl, by decide +kernel, rfl, by decide +kernel, by decide +kernel⟩
abbrev s_InvalidText_init : Stmt := inClass (top 23) 0
theorem sc_InvalidText_init : FnScope ["self", "line"] ["self", "line"] (defScope s_InvalidText_init) := ⟨rfl, rfl, rfl, by decide +kernel, rfl, by decide +kernel, by decide +kernel⟩
abbrev s_InvalidCommand_init : Stmt := inClass (top 24) 0
theorem sc_InvalidCommand_init : FnScope ["self", "value"] ["self", "value"] (defScope s_InvalidCommand_init) := ⟨rfl, rfl, rfl, by decide +kernel, rfl, by decide +kernel, by decide +kernel⟩
abbrev s_UnknownStation_init : Stmt := inClass (top 25) 0
theorem sc_UnknownStation_init : FnScope ["self", "value"] ["self", "value"] (defScope s_UnknownStation_init) := ⟨rfl, rfl, rfl, by decide +kernel, rfl, by decide +kernel, by decide +kernel⟩
abbrev s_UnknownStream_init : Stmt := inClass (top 26) 0
theorem sc_UnknownStream_init : FnScope ["self", "value"] ["self", "value"] (defScope s_UnknownStream_init) := ⟨rfl, rfl, rfl, by decide +kernel, rfl, by decide +kernel, by decide +kernel⟩
abbrev s_UnknownUnit_init : Stmt := inClass (top 27) 0
theorem sc_UnknownUnit_init : FnScope ["self", "value"] ["self", "value"] (defScope s_UnknownUnit_init) := ⟨rfl, rfl, rfl, by decide +kernel, rfl, by decide +kernel, by decide +kernel⟩
abbrev s_NoLink_init : Stmt := inClass (top 28) 0
theorem sc_NoLink_init : FnScope ["self", "source", "target"] ["self", "source", "target"] (defScope s_NoLink_init) := ⟨rfl, rfl, rfl, by decide +kernel, rfl, by decide +kernel, by decide +kernel⟩
abbrev s_NameTaken_init : Stmt := inClass (top 29) 0
theorem sc_NameTaken_init : FnScope ["self", "taken"] ["self", "taken"] (defScope s_NameTaken_init) := ⟨rfl, rfl, rfl, by decide +kernel, rfl, by decide +kernel, by decide +kernel⟩
abbrev s_NotGood_init : Stmt := inClass (top 30) 0
theorem sc_NotGood_init : FnScope ["self", "first", "second"] ["self", "first", "second"] (defScope s_NotGood_init) := ⟨rfl, rfl, rfl, by decide +kernel, rfl, by decide +kernel, by decide +kernel⟩
abbrev s_TooSlow_init : Stmt := inClass (top 31) 0
theorem sc_TooSlow_init : FnScope ["self", "total"] ["self", "total"] (defScope s_TooSlow_init) := ⟨rfl, rfl, rfl, by decide +kernel, rfl, by decide +kernel, by decide +kernel⟩
abbrev s_Refused_init : Stmt := inClass (top 32) 0
theorem sc_Refused_init : FnScope ["self", "refusal"] ["self", "refusal"] (defScope s_Refused_init) := ⟨rfl, rfl, rfl, by decide +kernel, rfl, by decide +kernel, by decide +kernel⟩
abbrev s_Overfull_init : Stmt := inClass (top 33) 0
theorem sc_Overfull_init : FnScope ["self", "at_station", "window"] ["self", "at_station", "window"] (defScope s_Overfull_init) := ⟨rfl, rfl, rfl, by decide +kernel, rfl, by decide +kernel, by decide +kernel⟩
abbrev s_NoSplits_init : Stmt := inClass (top 36) 0
theorem sc_NoSplits_init : FnScope ["self", "cases"] ["self", "cases"] (defScope s_NoSplits_init) := ⟨rfl, rfl, rfl, by decide +kernel, rfl, by decide +kernel, by decide +kernel⟩
abbrev s_Exposed_init : Stmt := inClass (top 37) 0
theorem sc_Exposed_init : FnScope ["self", "danger"] ["self", "danger"] (defScope s_Exposed_init) := ⟨rfl, rfl, rfl, by decide +kernel, rfl, by decide +kernel, by decide +kernel⟩
abbrev s_NotLate_init : Stmt := inClass (top 38) 0
theorem sc_NotLate_init : FnScope ["self", "value"] ["self", "value"] (defScope s_NotLate_init) := ⟨rfl, rfl, rfl, by decide +kernel, rfl, by decide +kernel, by decide +kernel⟩
abbrev s_RunFailed_init : Stmt := inClass (top 39) 0
theorem sc_RunFailed_init : FnScope ["self", "position", "results"] ["self", "position", "results"] (defScope s_RunFailed_init) := ⟨rfl, rfl, rfl, by decide +kernel, rfl, by decide +kernel, by decide +kernel⟩
abbrev s_TooLong_init : Stmt := inClass (top 40) 0
theorem sc_TooLong_init : FnScope ["self", "limit"] ["self", "limit"] (defScope s_TooLong_init) := ⟨rfl, rfl, rfl, by decide +kernel, rfl, by decide +kernel, by decide +kernel⟩
abbrev s_TooMany_init : Stmt := inClass (top 41) 0
theorem sc_TooMany_init : FnScope ["self", "limit"] ["self", "limit"] (defScope s_TooMany_init) := ⟨rfl, rfl, rfl, by decide +kernel, rfl, by decide +kernel, by decide +kernel⟩
abbrev s_l_rng : Stmt := top 43
theorem sc_l_rng : FnScope ["_law_script", "_law_k", "_law_cell"] ["_law_script", "_law_k"] (defScope s_l_rng) := ⟨rfl, rfl, rfl, by decide +kernel, rfl, by decide +kernel, by decide +kernel⟩
abbrev s_l_draw : Stmt := top 44
theorem sc_l_draw : FnScope ["_law_rng_here", "_law_many", "_law_digit"] ["_law_rng_here", "_law_many"] (defScope s_l_draw) := ⟨rfl, rfl, rfl, by decide +kernel, rfl, by decide +kernel, by decide +kernel⟩
abbrev s_l_thing : Stmt := top 46
theorem sc_l_thing : FnScope ["_law_rng_here", "_law_some"] ["_law_rng_here"] (defScope s_l_thing) := ⟨rfl, rfl, rfl, by decide +kernel, rfl, by decide +kernel, by decide +kernel⟩
abbrev s_l_ones : Stmt := top 47
theorem sc_l_ones : FnScope ["_law_thing_here", "_law_found"] ["_law_thing_here"] (defScope s_l_ones) := ⟨rfl, rfl, rfl, by decide +kernel, rfl, by decide +kernel, by decide +kernel⟩
abbrev s_l_ones_by_place : Stmt := top 48
theorem sc_l_ones_by_place : FnScope ["_law_thing_here", "_law_found"] ["_law_thing_here"] (defScope s_l_ones_by_place) := ⟨rfl, rfl, rfl, by decide +kernel, rfl, by decide +kernel, by decide +kernel⟩
abbrev s_l_told : Stmt := top 49
theorem sc_l_told : FnScope ["_law_e"] ["_law_e"] (defScope s_l_told) := ⟨rfl, rfl, rfl, by decide +kernel, rfl, by decide +kernel, by decide +kernel⟩
abbrev s_l_more : Stmt := top 50
theorem sc_l_more : FnScope ["_law_one", "_law_other", "_law_found"] ["_law_one", "_law_other"] (defScope s_l_more) := ⟨rfl, rfl, rfl, by decide +kernel, rfl, by decide +kernel, by decide +kernel⟩
abbrev s_l_parts : Stmt := top 51
theorem sc_l_parts : FnScope ["_law_e"] ["_law_e"] (defScope s_l_parts) := ⟨rfl, rfl, rfl, by decide +kernel, rfl, by decide +kernel, by decide +kernel⟩
abbrev s_l_classes : Stmt := top 52
theorem sc_l_classes : FnScope ["_law_e", "_law_found", "_law_k", "_law_here"] ["_law_e"] (defScope s_l_classes) := ⟨rfl, rfl, rfl, by decide +kernel, rfl, by decide +kernel, by decide +kernel⟩
abbrev s_l_base : Stmt := top 53
theorem sc_l_base : FnScope ["_law_e", "_law_found", "_law_low", "_law_word", "_law_here"] ["_law_e"] (defScope s_l_base) := ⟨rfl, rfl, rfl, by decide +kernel, rfl, by decide +kernel, by decide +kernel⟩
abbrev s_l_is_of : Stmt := top 54
theorem sc_l_is_of : FnScope ["_law_e", "_law_word"] ["_law_e", "_law_word"] (defScope s_l_is_of) := ⟨rfl, rfl, rfl, by decide +kernel, rfl, by decide +kernel, by decide +kernel⟩
abbrev s_l_right : Stmt := top 55
theorem sc_l_right : FnScope ["_law_rng_here", "_law_thing_here", "_law_other", "_law_ones_here", "_law_classes_here", "_law_e", "_law_word", "_law_twin", "_law_due", "_law_k"] ["_law_rng_here"] (defScope s_l_right) := ⟨rfl, rfl, rfl, by decide +kernel, rfl, by decide +kernel, by decide +kernel⟩
abbrev s_law : Stmt := top 56
theorem sc_law : FnScope ["_law_script", "_law_k"] ["_law_script"] (defScope s_law) := ⟨rfl, rfl, rfl, by decide +kernel, rfl, by decide +kernel, by decide +kernel⟩
structure Ad where
  InvalidCurve : Addr
  InvalidPiece : Addr
  InvalidLength : Addr
  InvalidCount : Addr
  InvalidRecord : Addr
  InvalidVisit : Addr
  InvalidVisits : Addr
  InvalidSupply : Addr
  InvalidWindow : Addr
  InvalidStation : Addr
  InvalidNetwork : Addr
  InvalidName : Addr
  InvalidPath : Addr
  InvalidSplit : Addr
  InvalidTime : Addr
  InvalidTick : Addr
  InvalidFault : Addr
  InvalidFaults : Addr
  InvalidHanded : Addr
  InvalidBook : Addr
  InvalidWeights : Addr
  InvalidText : Addr
  InvalidCommand : Addr
  UnknownStation : Addr
  UnknownStream : Addr
  UnknownUnit : Addr
  NoLink : Addr
  NameTaken : Addr
  NotGood : Addr
  TooSlow : Addr
  Refused : Addr
  Overfull : Addr
  NotPlain : Addr
  HasReserves : Addr
  NoSplits : Addr
  Exposed : Addr
  NotLate : Addr
  RunFailed : Addr
  TooLong : Addr
  TooMany : Addr
  DueError : Addr
  f_InvalidCurve_init : Addr
  d_InvalidCurve_init : FuncData
  f_InvalidPiece_init : Addr
  d_InvalidPiece_init : FuncData
  f_InvalidLength_init : Addr
  d_InvalidLength_init : FuncData
  f_InvalidCount_init : Addr
  d_InvalidCount_init : FuncData
  f_InvalidRecord_init : Addr
  d_InvalidRecord_init : FuncData
  f_InvalidVisit_init : Addr
  d_InvalidVisit_init : FuncData
  f_InvalidVisits_init : Addr
  d_InvalidVisits_init : FuncData
  f_InvalidSupply_init : Addr
  d_InvalidSupply_init : FuncData
  f_InvalidWindow_init : Addr
  d_InvalidWindow_init : FuncData
  f_InvalidStation_init : Addr
  d_InvalidStation_init : FuncData
  f_InvalidNetwork_init : Addr
  d_InvalidNetwork_init : FuncData
  f_InvalidName_init : Addr
  d_InvalidName_init : FuncData
  f_InvalidPath_init : Addr
  d_InvalidPath_init : FuncData
  f_InvalidSplit_init : Addr
  d_InvalidSplit_init : FuncData
  f_InvalidTime_init : Addr
  d_InvalidTime_init : FuncData
  f_InvalidTick_init : Addr
  d_InvalidTick_init : FuncData
  f_InvalidFault_init : Addr
  d_InvalidFault_init : FuncData
  f_InvalidFaults_init : Addr
  d_InvalidFaults_init : FuncData
  f_InvalidText_init : Addr
  d_InvalidText_init : FuncData
  f_InvalidCommand_init : Addr
  d_InvalidCommand_init : FuncData
  f_UnknownStation_init : Addr
  d_UnknownStation_init : FuncData
  f_UnknownStream_init : Addr
  d_UnknownStream_init : FuncData
  f_UnknownUnit_init : Addr
  d_UnknownUnit_init : FuncData
  f_NoLink_init : Addr
  d_NoLink_init : FuncData
  f_NameTaken_init : Addr
  d_NameTaken_init : FuncData
  f_NotGood_init : Addr
  d_NotGood_init : FuncData
  f_TooSlow_init : Addr
  d_TooSlow_init : FuncData
  f_Refused_init : Addr
  d_Refused_init : FuncData
  f_Overfull_init : Addr
  d_Overfull_init : FuncData
  f_NoSplits_init : Addr
  d_NoSplits_init : FuncData
  f_Exposed_init : Addr
  d_Exposed_init : FuncData
  f_NotLate_init : Addr
  d_NotLate_init : FuncData
  f_RunFailed_init : Addr
  d_RunFailed_init : FuncData
  f_TooLong_init : Addr
  d_TooLong_init : FuncData
  f_TooMany_init : Addr
  d_TooMany_init : FuncData
  f_l_rng : Addr
  d_l_rng : FuncData
  f_l_draw : Addr
  d_l_draw : FuncData
  f_l_thing : Addr
  d_l_thing : FuncData
  f_l_ones : Addr
  d_l_ones : FuncData
  f_l_ones_by_place : Addr
  d_l_ones_by_place : FuncData
  f_l_told : Addr
  d_l_told : FuncData
  f_l_more : Addr
  d_l_more : FuncData
  f_l_parts : Addr
  d_l_parts : FuncData
  f_l_classes : Addr
  d_l_classes : FuncData
  f_l_base : Addr
  d_l_base : FuncData
  f_l_is_of : Addr
  d_l_is_of : FuncData
  f_l_right : Addr
  d_l_right : FuncData
  f_law : Addr
  d_law : FuncData
/-- an own class of errors -/
structure EC (K : PySem.W.Frag) (mg : Str → Option Value) (x : Str) (C : Addr) (tail : List Value) : Prop where
  m : mg x = some (.ref C)
  as : VX.Asked K C
  xf : XfC K C
  mro : ∃ cd, PySem.W.clsIn K C = some cd ∧ cd.mro = .ref C :: tail
  ty : PySem.W.typeIn K (.ref C) = some (.type "type")
/-- one with an __init__ -/
structure EI (K : PySem.W.Frag) (C f : Addr) (fs : List Str) : Prop where
  O : VX.Own K C
  iC : PySem.W.findIn K (.ref C) "__init__" = some (some (.ref f))
  tI : PySem.W.typeIn K (.ref f) = some (.type "function")
  nf : ∀ x ∈ fs, PySem.W.findIn K (.ref C) x = some none
/-- one without -/
structure EB (K : PySem.W.Frag) (C : Addr) (nI : String) (bm : List Value) : Prop where
  q : PySem.W.excIn K C bm nI = true
  kC : PySem.W.keepIn K (.ref C) = true
theorem fs1 {K : PySem.W.Frag} {C : Addr} {x : Str} (h : PySem.W.findIn K (.ref C) x = some none) : ∀ y ∈ [x], PySem.W.findIn K (.ref C) y = some none := by
  intro y hy
  rw [List.mem_singleton] at hy
  rw [hy]; exact h
theorem fs2 {K : PySem.W.Frag} {C : Addr} {x z : Str} (h : PySem.W.findIn K (.ref C) x = some none) (h2 : PySem.W.findIn K (.ref C) z = some none) : ∀ y ∈ [x, z], PySem.W.findIn K (.ref C) y = some none := by
  intro y hy
  rcases List.mem_cons.mp hy with rfl | hy
  · exact h
  · rw [List.mem_singleton] at hy
    rw [hy]; exact h2
structure Txt (K : PySem.W.Frag) (mg : Str → Option Value) (A : Ad) : Prop where
  e_InvalidCurve : EC K mg "InvalidCurve" A.InvalidCurve [.ref A.DueError, .type "ValueError", .type "Exception", .type "BaseException", .type "object"]
  i_InvalidCurve : EI K A.InvalidCurve A.f_InvalidCurve_init ["problem", "position"]
  e_InvalidPiece : EC K mg "InvalidPiece" A.InvalidPiece [.ref A.DueError, .type "ValueError", .type "Exception", .type "BaseException", .type "object"]
  i_InvalidPiece : EI K A.InvalidPiece A.f_InvalidPiece_init ["position"]
  e_InvalidLength : EC K mg "InvalidLength" A.InvalidLength [.ref A.DueError, .type "ValueError", .type "Exception", .type "BaseException", .type "object"]
  i_InvalidLength : EI K A.InvalidLength A.f_InvalidLength_init ["value"]
  e_InvalidCount : EC K mg "InvalidCount" A.InvalidCount [.ref A.DueError, .type "ValueError", .type "Exception", .type "BaseException", .type "object"]
  i_InvalidCount : EI K A.InvalidCount A.f_InvalidCount_init ["value"]
  e_InvalidRecord : EC K mg "InvalidRecord" A.InvalidRecord [.ref A.DueError, .type "ValueError", .type "Exception", .type "BaseException", .type "object"]
  i_InvalidRecord : EI K A.InvalidRecord A.f_InvalidRecord_init ["position"]
  e_InvalidVisit : EC K mg "InvalidVisit" A.InvalidVisit [.ref A.DueError, .type "ValueError", .type "Exception", .type "BaseException", .type "object"]
  i_InvalidVisit : EI K A.InvalidVisit A.f_InvalidVisit_init ["problem"]
  e_InvalidVisits : EC K mg "InvalidVisits" A.InvalidVisits [.ref A.DueError, .type "ValueError", .type "Exception", .type "BaseException", .type "object"]
  i_InvalidVisits : EI K A.InvalidVisits A.f_InvalidVisits_init ["position"]
  e_InvalidSupply : EC K mg "InvalidSupply" A.InvalidSupply [.ref A.DueError, .type "ValueError", .type "Exception", .type "BaseException", .type "object"]
  i_InvalidSupply : EI K A.InvalidSupply A.f_InvalidSupply_init ["position"]
  e_InvalidWindow : EC K mg "InvalidWindow" A.InvalidWindow [.ref A.DueError, .type "ValueError", .type "Exception", .type "BaseException", .type "object"]
  i_InvalidWindow : EI K A.InvalidWindow A.f_InvalidWindow_init ["value"]
  e_InvalidStation : EC K mg "InvalidStation" A.InvalidStation [.ref A.DueError, .type "ValueError", .type "Exception", .type "BaseException", .type "object"]
  i_InvalidStation : EI K A.InvalidStation A.f_InvalidStation_init ["problem"]
  e_InvalidNetwork : EC K mg "InvalidNetwork" A.InvalidNetwork [.ref A.DueError, .type "ValueError", .type "Exception", .type "BaseException", .type "object"]
  i_InvalidNetwork : EI K A.InvalidNetwork A.f_InvalidNetwork_init ["problem", "position"]
  e_InvalidName : EC K mg "InvalidName" A.InvalidName [.ref A.DueError, .type "ValueError", .type "Exception", .type "BaseException", .type "object"]
  i_InvalidName : EI K A.InvalidName A.f_InvalidName_init ["value"]
  e_InvalidPath : EC K mg "InvalidPath" A.InvalidPath [.ref A.DueError, .type "ValueError", .type "Exception", .type "BaseException", .type "object"]
  i_InvalidPath : EI K A.InvalidPath A.f_InvalidPath_init ["position"]
  e_InvalidSplit : EC K mg "InvalidSplit" A.InvalidSplit [.ref A.DueError, .type "ValueError", .type "Exception", .type "BaseException", .type "object"]
  i_InvalidSplit : EI K A.InvalidSplit A.f_InvalidSplit_init ["position"]
  e_InvalidTime : EC K mg "InvalidTime" A.InvalidTime [.ref A.DueError, .type "ValueError", .type "Exception", .type "BaseException", .type "object"]
  i_InvalidTime : EI K A.InvalidTime A.f_InvalidTime_init ["value"]
  e_InvalidTick : EC K mg "InvalidTick" A.InvalidTick [.ref A.DueError, .type "ValueError", .type "Exception", .type "BaseException", .type "object"]
  i_InvalidTick : EI K A.InvalidTick A.f_InvalidTick_init ["value"]
  e_InvalidFault : EC K mg "InvalidFault" A.InvalidFault [.ref A.DueError, .type "ValueError", .type "Exception", .type "BaseException", .type "object"]
  i_InvalidFault : EI K A.InvalidFault A.f_InvalidFault_init ["problem"]
  e_InvalidFaults : EC K mg "InvalidFaults" A.InvalidFaults [.ref A.DueError, .type "ValueError", .type "Exception", .type "BaseException", .type "object"]
  i_InvalidFaults : EI K A.InvalidFaults A.f_InvalidFaults_init ["position"]
  e_InvalidHanded : EC K mg "InvalidHanded" A.InvalidHanded [.ref A.DueError, .type "ValueError", .type "Exception", .type "BaseException", .type "object"]
  b_InvalidHanded : EB K A.InvalidHanded "ValueError.__new__" [.type "ValueError", .type "Exception", .type "BaseException", .type "object"]
  e_InvalidBook : EC K mg "InvalidBook" A.InvalidBook [.ref A.DueError, .type "ValueError", .type "Exception", .type "BaseException", .type "object"]
  b_InvalidBook : EB K A.InvalidBook "ValueError.__new__" [.type "ValueError", .type "Exception", .type "BaseException", .type "object"]
  e_InvalidWeights : EC K mg "InvalidWeights" A.InvalidWeights [.ref A.DueError, .type "ValueError", .type "Exception", .type "BaseException", .type "object"]
  b_InvalidWeights : EB K A.InvalidWeights "ValueError.__new__" [.type "ValueError", .type "Exception", .type "BaseException", .type "object"]
  e_InvalidText : EC K mg "InvalidText" A.InvalidText [.ref A.DueError, .type "ValueError", .type "Exception", .type "BaseException", .type "object"]
  i_InvalidText : EI K A.InvalidText A.f_InvalidText_init ["line"]
  e_InvalidCommand : EC K mg "InvalidCommand" A.InvalidCommand [.ref A.DueError, .type "ValueError", .type "Exception", .type "BaseException", .type "object"]
  i_InvalidCommand : EI K A.InvalidCommand A.f_InvalidCommand_init ["value"]
  e_UnknownStation : EC K mg "UnknownStation" A.UnknownStation [.type "LookupError", .type "Exception", .type "BaseException", .type "object"]
  i_UnknownStation : EI K A.UnknownStation A.f_UnknownStation_init ["value"]
  e_UnknownStream : EC K mg "UnknownStream" A.UnknownStream [.type "LookupError", .type "Exception", .type "BaseException", .type "object"]
  i_UnknownStream : EI K A.UnknownStream A.f_UnknownStream_init ["value"]
  e_UnknownUnit : EC K mg "UnknownUnit" A.UnknownUnit [.type "LookupError", .type "Exception", .type "BaseException", .type "object"]
  i_UnknownUnit : EI K A.UnknownUnit A.f_UnknownUnit_init ["value"]
  e_NoLink : EC K mg "NoLink" A.NoLink [.type "LookupError", .type "Exception", .type "BaseException", .type "object"]
  i_NoLink : EI K A.NoLink A.f_NoLink_init ["source", "target"]
  e_NameTaken : EC K mg "NameTaken" A.NameTaken [.type "RuntimeError", .type "Exception", .type "BaseException", .type "object"]
  i_NameTaken : EI K A.NameTaken A.f_NameTaken_init ["taken"]
  e_NotGood : EC K mg "NotGood" A.NotGood [.type "RuntimeError", .type "Exception", .type "BaseException", .type "object"]
  i_NotGood : EI K A.NotGood A.f_NotGood_init ["first", "second"]
  e_TooSlow : EC K mg "TooSlow" A.TooSlow [.type "RuntimeError", .type "Exception", .type "BaseException", .type "object"]
  i_TooSlow : EI K A.TooSlow A.f_TooSlow_init ["total"]
  e_Refused : EC K mg "Refused" A.Refused [.type "RuntimeError", .type "Exception", .type "BaseException", .type "object"]
  i_Refused : EI K A.Refused A.f_Refused_init ["refusal"]
  e_Overfull : EC K mg "Overfull" A.Overfull [.type "RuntimeError", .type "Exception", .type "BaseException", .type "object"]
  i_Overfull : EI K A.Overfull A.f_Overfull_init ["at_station", "window"]
  e_NotPlain : EC K mg "NotPlain" A.NotPlain [.type "RuntimeError", .type "Exception", .type "BaseException", .type "object"]
  b_NotPlain : EB K A.NotPlain "RuntimeError.__new__" [.type "RuntimeError", .type "Exception", .type "BaseException", .type "object"]
  e_HasReserves : EC K mg "HasReserves" A.HasReserves [.type "RuntimeError", .type "Exception", .type "BaseException", .type "object"]
  b_HasReserves : EB K A.HasReserves "RuntimeError.__new__" [.type "RuntimeError", .type "Exception", .type "BaseException", .type "object"]
  e_NoSplits : EC K mg "NoSplits" A.NoSplits [.type "RuntimeError", .type "Exception", .type "BaseException", .type "object"]
  i_NoSplits : EI K A.NoSplits A.f_NoSplits_init ["cases"]
  e_Exposed : EC K mg "Exposed" A.Exposed [.type "RuntimeError", .type "Exception", .type "BaseException", .type "object"]
  i_Exposed : EI K A.Exposed A.f_Exposed_init ["danger"]
  e_NotLate : EC K mg "NotLate" A.NotLate [.type "RuntimeError", .type "Exception", .type "BaseException", .type "object"]
  i_NotLate : EI K A.NotLate A.f_NotLate_init ["value"]
  e_RunFailed : EC K mg "RunFailed" A.RunFailed [.type "RuntimeError", .type "Exception", .type "BaseException", .type "object"]
  i_RunFailed : EI K A.RunFailed A.f_RunFailed_init ["position", "results"]
  e_TooLong : EC K mg "TooLong" A.TooLong [.type "ArithmeticError", .type "Exception", .type "BaseException", .type "object"]
  i_TooLong : EI K A.TooLong A.f_TooLong_init ["limit"]
  e_TooMany : EC K mg "TooMany" A.TooMany [.type "ArithmeticError", .type "Exception", .type "BaseException", .type "object"]
  i_TooMany : EI K A.TooMany A.f_TooMany_init ["limit"]
  e_DueError : EC K mg "DueError" A.DueError [.type "ValueError", .type "Exception", .type "BaseException", .type "object"]
  b_DueError : EB K A.DueError "ValueError.__new__" [.type "ValueError", .type "Exception", .type "BaseException", .type "object"]
  ndup : [A.InvalidCurve, A.InvalidPiece, A.InvalidLength, A.InvalidCount, A.InvalidRecord, A.InvalidVisit, A.InvalidVisits, A.InvalidSupply, A.InvalidWindow, A.InvalidStation, A.InvalidNetwork, A.InvalidName, A.InvalidPath, A.InvalidSplit, A.InvalidTime, A.InvalidTick, A.InvalidFault, A.InvalidFaults, A.InvalidHanded, A.InvalidBook, A.InvalidWeights, A.InvalidText, A.InvalidCommand, A.UnknownStation, A.UnknownStream, A.UnknownUnit, A.NoLink, A.NameTaken, A.NotGood, A.TooSlow, A.Refused, A.Overfull, A.NotPlain, A.HasReserves, A.NoSplits, A.Exposed, A.NotLate, A.RunFailed, A.TooLong, A.TooMany, A.DueError].Nodup
  F_InvalidCurve_init : Fun K "__init__" "InvalidCurve.__init__" s_InvalidCurve_init A.f_InvalidCurve_init A.d_InvalidCurve_init
  b_InvalidCurve_init : Binds K A.d_InvalidCurve_init ["self", "problem", "position"] []
  F_InvalidPiece_init : Fun K "__init__" "InvalidPiece.__init__" s_InvalidPiece_init A.f_InvalidPiece_init A.d_InvalidPiece_init
  b_InvalidPiece_init : Binds K A.d_InvalidPiece_init ["self", "position"] []
  F_InvalidLength_init : Fun K "__init__" "InvalidLength.__init__" s_InvalidLength_init A.f_InvalidLength_init A.d_InvalidLength_init
  b_InvalidLength_init : Binds K A.d_InvalidLength_init ["self", "value"] []
  F_InvalidCount_init : Fun K "__init__" "InvalidCount.__init__" s_InvalidCount_init A.f_InvalidCount_init A.d_InvalidCount_init
  b_InvalidCount_init : Binds K A.d_InvalidCount_init ["self", "value"] []
  F_InvalidRecord_init : Fun K "__init__" "InvalidRecord.__init__" s_InvalidRecord_init A.f_InvalidRecord_init A.d_InvalidRecord_init
  b_InvalidRecord_init : Binds K A.d_InvalidRecord_init ["self", "position"] []
  F_InvalidVisit_init : Fun K "__init__" "InvalidVisit.__init__" s_InvalidVisit_init A.f_InvalidVisit_init A.d_InvalidVisit_init
  b_InvalidVisit_init : Binds K A.d_InvalidVisit_init ["self", "problem"] []
  F_InvalidVisits_init : Fun K "__init__" "InvalidVisits.__init__" s_InvalidVisits_init A.f_InvalidVisits_init A.d_InvalidVisits_init
  b_InvalidVisits_init : Binds K A.d_InvalidVisits_init ["self", "position"] []
  F_InvalidSupply_init : Fun K "__init__" "InvalidSupply.__init__" s_InvalidSupply_init A.f_InvalidSupply_init A.d_InvalidSupply_init
  b_InvalidSupply_init : Binds K A.d_InvalidSupply_init ["self", "position"] []
  F_InvalidWindow_init : Fun K "__init__" "InvalidWindow.__init__" s_InvalidWindow_init A.f_InvalidWindow_init A.d_InvalidWindow_init
  b_InvalidWindow_init : Binds K A.d_InvalidWindow_init ["self", "value"] []
  F_InvalidStation_init : Fun K "__init__" "InvalidStation.__init__" s_InvalidStation_init A.f_InvalidStation_init A.d_InvalidStation_init
  b_InvalidStation_init : Binds K A.d_InvalidStation_init ["self", "problem"] []
  F_InvalidNetwork_init : Fun K "__init__" "InvalidNetwork.__init__" s_InvalidNetwork_init A.f_InvalidNetwork_init A.d_InvalidNetwork_init
  b_InvalidNetwork_init : Binds K A.d_InvalidNetwork_init ["self", "problem", "position"] []
  F_InvalidName_init : Fun K "__init__" "InvalidName.__init__" s_InvalidName_init A.f_InvalidName_init A.d_InvalidName_init
  b_InvalidName_init : Binds K A.d_InvalidName_init ["self", "value"] []
  F_InvalidPath_init : Fun K "__init__" "InvalidPath.__init__" s_InvalidPath_init A.f_InvalidPath_init A.d_InvalidPath_init
  b_InvalidPath_init : Binds K A.d_InvalidPath_init ["self", "position"] []
  F_InvalidSplit_init : Fun K "__init__" "InvalidSplit.__init__" s_InvalidSplit_init A.f_InvalidSplit_init A.d_InvalidSplit_init
  b_InvalidSplit_init : Binds K A.d_InvalidSplit_init ["self", "position"] []
  F_InvalidTime_init : Fun K "__init__" "InvalidTime.__init__" s_InvalidTime_init A.f_InvalidTime_init A.d_InvalidTime_init
  b_InvalidTime_init : Binds K A.d_InvalidTime_init ["self", "value"] []
  F_InvalidTick_init : Fun K "__init__" "InvalidTick.__init__" s_InvalidTick_init A.f_InvalidTick_init A.d_InvalidTick_init
  b_InvalidTick_init : Binds K A.d_InvalidTick_init ["self", "value"] []
  F_InvalidFault_init : Fun K "__init__" "InvalidFault.__init__" s_InvalidFault_init A.f_InvalidFault_init A.d_InvalidFault_init
  b_InvalidFault_init : Binds K A.d_InvalidFault_init ["self", "problem"] []
  F_InvalidFaults_init : Fun K "__init__" "InvalidFaults.__init__" s_InvalidFaults_init A.f_InvalidFaults_init A.d_InvalidFaults_init
  b_InvalidFaults_init : Binds K A.d_InvalidFaults_init ["self", "position"] []
  F_InvalidText_init : Fun K "__init__" "InvalidText.__init__" s_InvalidText_init A.f_InvalidText_init A.d_InvalidText_init
  b_InvalidText_init : Binds K A.d_InvalidText_init ["self", "line"] []
  F_InvalidCommand_init : Fun K "__init__" "InvalidCommand.__init__" s_InvalidCommand_init A.f_InvalidCommand_init A.d_InvalidCommand_init
  b_InvalidCommand_init : Binds K A.d_InvalidCommand_init ["self", "value"] []
  F_UnknownStation_init : Fun K "__init__" "UnknownStation.__init__" s_UnknownStation_init A.f_UnknownStation_init A.d_UnknownStation_init
  b_UnknownStation_init : Binds K A.d_UnknownStation_init ["self", "value"] []
  F_UnknownStream_init : Fun K "__init__" "UnknownStream.__init__" s_UnknownStream_init A.f_UnknownStream_init A.d_UnknownStream_init
  b_UnknownStream_init : Binds K A.d_UnknownStream_init ["self", "value"] []
  F_UnknownUnit_init : Fun K "__init__" "UnknownUnit.__init__" s_UnknownUnit_init A.f_UnknownUnit_init A.d_UnknownUnit_init
  b_UnknownUnit_init : Binds K A.d_UnknownUnit_init ["self", "value"] []
  F_NoLink_init : Fun K "__init__" "NoLink.__init__" s_NoLink_init A.f_NoLink_init A.d_NoLink_init
  b_NoLink_init : Binds K A.d_NoLink_init ["self", "source", "target"] []
  F_NameTaken_init : Fun K "__init__" "NameTaken.__init__" s_NameTaken_init A.f_NameTaken_init A.d_NameTaken_init
  b_NameTaken_init : Binds K A.d_NameTaken_init ["self", "taken"] []
  F_NotGood_init : Fun K "__init__" "NotGood.__init__" s_NotGood_init A.f_NotGood_init A.d_NotGood_init
  b_NotGood_init : Binds K A.d_NotGood_init ["self", "first", "second"] []
  F_TooSlow_init : Fun K "__init__" "TooSlow.__init__" s_TooSlow_init A.f_TooSlow_init A.d_TooSlow_init
  b_TooSlow_init : Binds K A.d_TooSlow_init ["self", "total"] []
  F_Refused_init : Fun K "__init__" "Refused.__init__" s_Refused_init A.f_Refused_init A.d_Refused_init
  b_Refused_init : Binds K A.d_Refused_init ["self", "refusal"] []
  F_Overfull_init : Fun K "__init__" "Overfull.__init__" s_Overfull_init A.f_Overfull_init A.d_Overfull_init
  b_Overfull_init : Binds K A.d_Overfull_init ["self", "at_station", "window"] []
  F_NoSplits_init : Fun K "__init__" "NoSplits.__init__" s_NoSplits_init A.f_NoSplits_init A.d_NoSplits_init
  b_NoSplits_init : Binds K A.d_NoSplits_init ["self", "cases"] []
  F_Exposed_init : Fun K "__init__" "Exposed.__init__" s_Exposed_init A.f_Exposed_init A.d_Exposed_init
  b_Exposed_init : Binds K A.d_Exposed_init ["self", "danger"] []
  F_NotLate_init : Fun K "__init__" "NotLate.__init__" s_NotLate_init A.f_NotLate_init A.d_NotLate_init
  b_NotLate_init : Binds K A.d_NotLate_init ["self", "value"] []
  F_RunFailed_init : Fun K "__init__" "RunFailed.__init__" s_RunFailed_init A.f_RunFailed_init A.d_RunFailed_init
  b_RunFailed_init : Binds K A.d_RunFailed_init ["self", "position", "results"] []
  F_TooLong_init : Fun K "__init__" "TooLong.__init__" s_TooLong_init A.f_TooLong_init A.d_TooLong_init
  b_TooLong_init : Binds K A.d_TooLong_init ["self", "limit"] []
  F_TooMany_init : Fun K "__init__" "TooMany.__init__" s_TooMany_init A.f_TooMany_init A.d_TooMany_init
  b_TooMany_init : Binds K A.d_TooMany_init ["self", "limit"] []
  F_l_rng : Fun K "_law_rng" "_law_rng" s_l_rng A.f_l_rng A.d_l_rng
  m_l_rng : mg "_law_rng" = some (.ref A.f_l_rng)
  k_l_rng : PySem.W.keepIn K (.ref A.f_l_rng) = true
  b_l_rng : Binds K A.d_l_rng ["_law_script", "_law_k"] []
  F_l_draw : Fun K "_law_draw" "_law_draw" s_l_draw A.f_l_draw A.d_l_draw
  m_l_draw : mg "_law_draw" = some (.ref A.f_l_draw)
  k_l_draw : PySem.W.keepIn K (.ref A.f_l_draw) = true
  b_l_draw : Binds K A.d_l_draw ["_law_rng_here", "_law_many"] []
  F_l_thing : Fun K "_law_thing" "_law_thing" s_l_thing A.f_l_thing A.d_l_thing
  m_l_thing : mg "_law_thing" = some (.ref A.f_l_thing)
  k_l_thing : PySem.W.keepIn K (.ref A.f_l_thing) = true
  b_l_thing : Binds K A.d_l_thing ["_law_rng_here"] []
  F_l_ones : Fun K "_law_ones" "_law_ones" s_l_ones A.f_l_ones A.d_l_ones
  m_l_ones : mg "_law_ones" = some (.ref A.f_l_ones)
  k_l_ones : PySem.W.keepIn K (.ref A.f_l_ones) = true
  b_l_ones : Binds K A.d_l_ones ["_law_thing_here"] []
  F_l_ones_by_place : Fun K "_law_ones_by_place" "_law_ones_by_place" s_l_ones_by_place A.f_l_ones_by_place A.d_l_ones_by_place
  m_l_ones_by_place : mg "_law_ones_by_place" = some (.ref A.f_l_ones_by_place)
  k_l_ones_by_place : PySem.W.keepIn K (.ref A.f_l_ones_by_place) = true
  b_l_ones_by_place : Binds K A.d_l_ones_by_place ["_law_thing_here"] []
  F_l_told : Fun K "_law_told" "_law_told" s_l_told A.f_l_told A.d_l_told
  m_l_told : mg "_law_told" = some (.ref A.f_l_told)
  k_l_told : PySem.W.keepIn K (.ref A.f_l_told) = true
  b_l_told : Binds K A.d_l_told ["_law_e"] []
  F_l_more : Fun K "_law_more" "_law_more" s_l_more A.f_l_more A.d_l_more
  m_l_more : mg "_law_more" = some (.ref A.f_l_more)
  k_l_more : PySem.W.keepIn K (.ref A.f_l_more) = true
  b_l_more : Binds K A.d_l_more ["_law_one", "_law_other"] []
  F_l_parts : Fun K "_law_parts" "_law_parts" s_l_parts A.f_l_parts A.d_l_parts
  m_l_parts : mg "_law_parts" = some (.ref A.f_l_parts)
  k_l_parts : PySem.W.keepIn K (.ref A.f_l_parts) = true
  b_l_parts : Binds K A.d_l_parts ["_law_e"] []
  F_l_classes : Fun K "_law_classes" "_law_classes" s_l_classes A.f_l_classes A.d_l_classes
  m_l_classes : mg "_law_classes" = some (.ref A.f_l_classes)
  k_l_classes : PySem.W.keepIn K (.ref A.f_l_classes) = true
  b_l_classes : Binds K A.d_l_classes ["_law_e"] []
  F_l_base : Fun K "_law_base" "_law_base" s_l_base A.f_l_base A.d_l_base
  m_l_base : mg "_law_base" = some (.ref A.f_l_base)
  k_l_base : PySem.W.keepIn K (.ref A.f_l_base) = true
  b_l_base : Binds K A.d_l_base ["_law_e"] []
  F_l_is_of : Fun K "_law_is_of" "_law_is_of" s_l_is_of A.f_l_is_of A.d_l_is_of
  m_l_is_of : mg "_law_is_of" = some (.ref A.f_l_is_of)
  k_l_is_of : PySem.W.keepIn K (.ref A.f_l_is_of) = true
  b_l_is_of : Binds K A.d_l_is_of ["_law_e", "_law_word"] []
  F_l_right : Fun K "_law_right" "_law_right" s_l_right A.f_l_right A.d_l_right
  m_l_right : mg "_law_right" = some (.ref A.f_l_right)
  k_l_right : PySem.W.keepIn K (.ref A.f_l_right) = true
  b_l_right : Binds K A.d_l_right ["_law_rng_here"] []
  F_law : Fun K "law" "law" s_law A.f_law A.d_law
  m_law : mg "law" = some (.ref A.f_law)
  k_law : PySem.W.keepIn K (.ref A.f_law) = true
  b_law : Binds K A.d_law ["_law_script"] []
  ArithmeticError : mg "ArithmeticError" = none
  IndexError : mg "IndexError" = none
  KeyError : mg "KeyError" = none
  LookupError : mg "LookupError" = none
  OverflowError : mg "OverflowError" = none
  RuntimeError : mg "RuntimeError" = none
  ValueError : mg "ValueError" = none
  ZeroDivisionError : mg "ZeroDivisionError" = none
  abs : mg "abs" = none
  all : mg "all" = none
  divmod : mg "divmod" = none
  enumerate : mg "enumerate" = none
  int : mg "int" = none
  isinstance : mg "isinstance" = none
  len : mg "len" = none
  max : mg "max" = none
  min : mg "min" = none
  range : mg "range" = none
  repr : mg "repr" = none
  sorted : mg "sorted" = none
  zip : mg "zip" = none
end VK


namespace VK
open PySem PySem.Spec PyProof.Rows L2 VM
theorem getD_map {xs : List Int} {j : Nat} (h : j < xs.length) : (xs.map V.int)[j]? = some (.int (xs.getD j 0)) := by
  rw [List.getElem?_map, List.getD_eq_getElem?_getD, List.getElem?_eq_getElem h]
  rfl
theorem at_map {xs : List Int} {i : Int} (h0 : 0 ≤ i) (h : i < xs.length) : atI (xs.map V.int) i = some (.int (xs.getD i.toNat 0)) := by
  have e : i = ((i.toNat : Nat) : Int) := by omega
  rw [e]
  exact atI_nat (getD_map (by omega))
theorem at_back {xs : List Int} {i : Int} (h0 : i < 0) (h : -(xs.length : Int) ≤ i) : atI (xs.map V.int) i = some (.int (xs.getD (i + xs.length).toNat 0)) := by
  unfold atI ixN
  rw [if_neg (by omega), List.length_map, if_pos h]
  show (xs.map V.int)[_]? = _
  exact getD_map (by omega)
theorem deq_int {a b : Int} : decide (V.int a = V.int b) = decide (a = b) := by
  by_cases h : a = b
  · subst h; simp
  · rw [decide_eq_false h, decide_eq_false (fun q => h (V.int.inj q))]
/-- a test of two ints on equality -/
theorem ifEq {a b : Int} {X Y : Prop} (h1 : a = b → X) (h2 : a ≠ b → Y) : if decide (V.int a = V.int b) = true then X else Y := by
  rw [deq_int]
  exact ite2 (fun c => h1 (of_decide_eq_true c)) fun c => h2 fun e => c (decide_eq_true e)
theorem ifD {c X Y : Prop} [Decidable c] (h1 : c → X) (h2 : ¬ c → Y) : if decide c = true then X else Y :=
  ite2 (fun e => h1 (of_decide_eq_true e)) fun e => h2 fun q => e (decide_eq_true q)
theorem small {n : Nat} (h : n ≤ 16777215) : n < sizeLine := by rw [sizeLine_eq]; omega
/-- a new object leaves what was tracked -/
theorem Same.upd {H H' : Hp} {p : Addr} {o : HO} (e : Same H H') (h : H p = none) : Same H (upd H' p o) := fun b u q => by
  rw [upd_ne (ne_of_none q h)]; exact e b u q
end VK


namespace VK
open PySem PySem.Spec PyProof.Rows L2 VM
/-- the state of draws at r -/
def Rng (H : Hp) (r : Addr) : Prop := ∃ a b : Int, H r = some (.lst [.int a, .int b]) ∧ 0 ≤ a ∧ 0 ≤ b ∧ b < 2147483563
/-- all but the state of draws stands -/
structure Ext (r : Addr) (H H' : Hp) : Prop where
  keep : ∀ b o, b ≠ r → H b = some o → H' b = some o
  rng : Rng H' r
theorem Ext.refl {r : Addr} {H : Hp} (h : Rng H r) : Ext r H H := ⟨fun _ _ _ e => e, h⟩
theorem Ext.trans {r : Addr} {H H1 H2 : Hp} (a : Ext r H H1) (b : Ext r H1 H2) : Ext r H H2 := ⟨fun c o n e => b.keep c o n (a.keep c o n e), b.rng⟩
theorem Rng.same {r : Addr} {H H' : Hp} (h : Rng H r) (s : Same H H') : Rng H' r := by
  obtain ⟨a, b, e, h1, h2, h3⟩ := h
  exact ⟨a, b, s _ _ e, h1, h2, h3⟩
theorem Ext.of {r : Addr} {H H' : Hp} (h : Rng H r) (s : Same H H') : Ext r H H' := ⟨fun b o _ e => s b o e, h.same s⟩
theorem Ext.same {r : Addr} {H H1 H2 : Hp} (a : Ext r H H1) (s : Same H1 H2) : Ext r H H2 := a.trans (.of a.rng s)
theorem Ext.free {r : Addr} {H H' : Hp} {l : Addr} (e : Ext r H H') (h : H' l = none) : H l = none := by
  have n : l ≠ r := fun z => by
    obtain ⟨a, b, q, _⟩ := e.rng
    rw [z, q] at h; cases h
  cases q : H l with
  | none => rfl
  | some o => rw [e.keep l o n q] at h; cases h
theorem Ext.seq {K : PySem.W.Frag} {r : Addr} {H H' : Hp} {a : Addr} {xs : List V} (e : Ext r H H') (n : a ≠ r) (h : SqL K H a xs) : SqL K H' a xs := by
  rcases h with (h | ⟨o, h⟩) | h
  · exact .inl (.inl (e.keep _ _ n h))
  · exact .inl (.inr ⟨o, e.keep _ _ n h⟩)
  · exact .inr h
theorem Rng.ne {r l : Addr} {H : Hp} (h : Rng H r) (hl : H l = none) : l ≠ r := fun z => by
  obtain ⟨a, b, q, _⟩ := h
  rw [z, q] at hl; cases hl
def sp_l_rng (K : PySem.W.Frag) (_ : Ad) : Sp := fun vs H Q _ => ∃ (a : Addr) (ns : List Int) (k : Int), vs = [.ref a, .int k] ∧ SqL K H a (ns.map V.int) ∧ 0 ≤ k ∧ k ≤ 100 ∧
  ∀ H' p, Same H H' → H p = none → Rng H' p → Q (.ref p) H'
def sp_l_draw (_ : PySem.W.Frag) (_ : Ad) : Sp := fun vs H Q _ => ∃ (r : Addr) (m : Int), vs = [.ref r, .int m] ∧ Rng H r ∧ 0 < m ∧ m < 1073741824 ∧
  ∀ H' d, Ext r H H' → 0 ≤ d → d < m → Q (.int d) H'
section
variable {P : Program} {w : World} {K : PySem.W.Frag} {mg : Str → Option Value} {base : Heap} {A : Ad}
theorem ok_l_rng (T : Txt K mg A) : FnOk P w K mg base CX0 1 A.f_l_rng A.d_l_rng ["_law_script", "_law_k"] (sp_l_rng K A) := by
  refine T.F_l_rng.ok sc_l_rng (fun vs H Q E h => ?_) (fun cdv A0 outer s H vs Q E hr h => ?_)
  · obtain ⟨a, ns, k, rfl, hS, hk, hk2, q⟩ := h
    rfl
  · obtain ⟨a, ns, k, rfl, hS, hk, hk2, q⟩ := h
    refine ⟨_, (pss_cons (ps_set (i := 2) sc_l_rng.nd rfl (by first | exact Or.inl rfl | exact Or.inr rfl) (pe_op op_add (pe_op op_mul pe_int (pv 1)) pe_int))
    (pss_cons (ps_if (pt_cmpR op_lt (pv 1) (pe_callB (r := VG.rLen K) VG.call_len (by rfl) T.len (by decide +kernel) (pa_cons (pv 0) pa_nil)) (nomark _)) (pss_one (ps_set (i := 2) sc_l_rng.nd rfl (by first | exact Or.inl rfl | exact Or.inr rfl) (pe_ix (r := rIxL K) ix_list (pv 0) (pv 1) (fun _ _ => rfl)))) pss_nil)
    (pss_one (ps_ret (pe_lst (pa_cons (pe_callB (call_max2 rfl) (by rfl) T.max (by decide +kernel) (pa_cons pe_int (pa_cons (pe_op op_sub (pe_callB call_abs (by rfl) T.abs (by decide +kernel) (pa_cons (pv 2) pa_nil)) (pe_op op_pow pe_int pe_int)) pa_nil))) (pa_cons (pe_op op_add (pe_op op_mod (pe_op op_mul (pe_callTy call_int1 (by rfl) T.int (by decide +kernel) (pa_cons (pe_op op_add (pe_op op_mod (pe_callTy call_int1 (by rfl) T.int (by decide +kernel) (pa_cons (pe_callB call_abs (by rfl) T.abs (by decide +kernel) (pa_cons (pv 2) pa_nil)) pa_nil)) pe_int) pe_int) pa_nil)) (pe_op op_pow (pe_op op_add (pe_op op_mul pe_int (pv 1)) pe_int) pe_int)) pe_int) pe_int) pa_nil))))))), ?_⟩
    refine ⟨_, rfl, _, _, rfl, rfl, .inl ⟨by decide, by decide⟩, _, _, rfl, rfl, ?_⟩
    refine ⟨_, rfl, _, rfl, a, _, rfl, .inl hS, _, _, rfl, rfl, _, rfl, ?_⟩
    rw [List.length_map]
    have b1 : (2 * k + 5).natAbs < 2 ^ 64 := by omega
    refine ifD (fun c => ?_) (fun c => ?_)
    · refine ⟨_, rfl, _, rfl, a, _, _, _, rfl, rfl, hS, at_map hk c, ?_⟩
      generalize ns.getD k.toNat 0 = c0
      refine ⟨_, rfl, _, rfl, _, _, rfl, rfl, ⟨by decide, by decide, by decide⟩, _, _, rfl, rfl, _, _, rfl, ?_⟩
      have z1 := Int.emod_nonneg (if c0 < 0 then -c0 else c0) (show (2147483549 : Int) ≠ 0 by decide)
      have z2 := Int.emod_lt_of_pos (if c0 < 0 then -c0 else c0) (show (0 : Int) < 2147483549 by decide)
      refine ⟨_, rfl, _, rfl, .inl ⟨_, rfl, _, _, rfl, rfl, (by show (0 : Int) < 2147483549; decide), _, _, rfl, rfl, .inl ⟨_, rfl, _, rfl, _, _, rfl, rfl, .inl ⟨by decide, by decide⟩, _, _, rfl, rfl, _, _, rfl, rfl, ⟨by decide, by decide, b1⟩, _, _, rfl, rfl, .inl ⟨by omega, by omega⟩, _, _, rfl, rfl, (by show (0 : Int) < 2147483543; decide), _, _, rfl, rfl, (by show 2 ≤ sizeLine; decide), fun p hp => ?_⟩⟩⟩
      have z3 := Int.emod_nonneg (((if c0 < 0 then -c0 else c0) % 2147483549 + 1) * (2 * k + 5) ^ Int.toNat 3) (show (2147483543 : Int) ≠ 0 by decide)
      have z4 := Int.emod_lt_of_pos (((if c0 < 0 then -c0 else c0) % 2147483549 + 1) * (2 * k + 5) ^ Int.toNat 3) (show (0 : Int) < 2147483543 by decide)
      refine q _ p (Same.upd (Same.refl H) hp) hp ⟨_, _, upd_same, ?_, by omega, by omega⟩
      by_cases cc : (if c0 < 0 then -c0 else c0) - 10 ^ Int.toNat 18 > 0
      · rw [if_pos cc]; omega
      · rw [if_neg cc]; omega
    · refine ⟨_, rfl, _, rfl, _, _, rfl, rfl, ⟨by decide, by decide, by decide⟩, _, _, rfl, rfl, _, _, rfl, ?_⟩
      have z1 := Int.emod_nonneg (if (7 * k + 3) < 0 then -(7 * k + 3) else (7 * k + 3)) (show (2147483549 : Int) ≠ 0 by decide)
      have z2 := Int.emod_lt_of_pos (if (7 * k + 3) < 0 then -(7 * k + 3) else (7 * k + 3)) (show (0 : Int) < 2147483549 by decide)
      refine ⟨_, rfl, _, rfl, .inl ⟨_, rfl, _, _, rfl, rfl, (by show (0 : Int) < 2147483549; decide), _, _, rfl, rfl, .inl ⟨_, rfl, _, rfl, _, _, rfl, rfl, .inl ⟨by decide, by decide⟩, _, _, rfl, rfl, _, _, rfl, rfl, ⟨by decide, by decide, b1⟩, _, _, rfl, rfl, .inl ⟨by omega, by omega⟩, _, _, rfl, rfl, (by show (0 : Int) < 2147483543; decide), _, _, rfl, rfl, (by show 2 ≤ sizeLine; decide), fun p hp => ?_⟩⟩⟩
      have z3 := Int.emod_nonneg (((if (7 * k + 3) < 0 then -(7 * k + 3) else (7 * k + 3)) % 2147483549 + 1) * (2 * k + 5) ^ Int.toNat 3) (show (2147483543 : Int) ≠ 0 by decide)
      have z4 := Int.emod_lt_of_pos (((if (7 * k + 3) < 0 then -(7 * k + 3) else (7 * k + 3)) % 2147483549 + 1) * (2 * k + 5) ^ Int.toNat 3) (show (0 : Int) < 2147483543 by decide)
      refine q _ p (Same.upd (Same.refl H) hp) hp ⟨_, _, upd_same, ?_, by omega, by omega⟩
      by_cases cc : (if (7 * k + 3) < 0 then -(7 * k + 3) else (7 * k + 3)) - 10 ^ Int.toNat 18 > 0
      · rw [if_pos cc]; omega
      · rw [if_neg cc]; omega
theorem ok_l_draw (T : Txt K mg A) : FnOk P w K mg base CX0 1 A.f_l_draw A.d_l_draw ["_law_rng_here", "_law_many"] (sp_l_draw K A) := by
  refine T.F_l_draw.ok sc_l_draw (fun vs H Q E h => ?_) (fun cdv A0 outer s H vs Q E hr h => ?_)
  · obtain ⟨r, m, rfl, ⟨a, b, hr0, ha, hb, hb2⟩, hm, hm2, q⟩ := h
    rfl
  · obtain ⟨r, m, rfl, ⟨a, b, hr0, ha, hb, hb2⟩, hm, hm2, q⟩ := h
    refine ⟨_, (pss_cons (ps_if (pt_cmpR op_gt (pe_ix (r := rIxL K) ix_list (pv 0) pe_int (fun _ _ => rfl)) pe_int (nomark _)) (pss_cons (ps_asg (pe_callB call_divmod (by rfl) T.divmod (by decide +kernel) (pa_cons (pe_ix (r := rIxL K) ix_list (pv 0) pe_int (fun _ _ => rfl)) (pa_cons (pv 1) pa_nil))) (pg_tup rfl (pgs_cons (pg_sub (pv 0) pe_int set_list) (pgs_cons (pg_name (i := 2) sc_l_draw.nd rfl (by first | exact Or.inl rfl | exact Or.inr rfl)) pgs_nil))))
    (pss_one (ps_ret (pv 2)))) pss_nil)
    (pss_cons (ps_asg (pe_op op_mod (pe_callTy call_int1 (by rfl) T.int (by decide +kernel) (pa_cons (pe_op op_add (pe_op op_mul (pe_ix (r := rIxL K) ix_list (pv 0) pe_int (fun _ _ => rfl)) pe_int) pe_int) pa_nil)) pe_int) (pg_sub (pv 0) pe_int set_list))
    (pss_one (ps_ret (pe_op op_mod (pe_op op_fdiv (pe_op op_mod (pe_callTy call_int1 (by rfl) T.int (by decide +kernel) (pa_cons (pe_op op_mul (pe_ix (r := rIxL K) ix_list (pv 0) pe_int (fun _ _ => rfl)) (pe_ix (r := rIxL K) ix_list (pv 0) pe_int (fun _ _ => rfl))) pa_nil)) pe_int) pe_int) (pv 1)))))), ?_⟩
    refine ⟨_, rfl, r, _, _, _, rfl, rfl, SqL.of hr0, rfl, _, _, rfl, rfl, _, rfl, ifD (fun c => ?_) (fun c => ?_)⟩
    · refine ⟨_, rfl, r, _, _, _, rfl, rfl, SqL.of hr0, rfl, _, rfl, _, _, rfl, ⟨hm, hm2⟩, fun t ht => ?_⟩
      have nrt : r ≠ t := ne_of_none hr0 ht
      refine ⟨t, _, rfl, SqT.of upd_same, rfl, _, _, rfl, _, rfl, r, _, _, 0, rfl, rfl, (by rw [upd_ne nrt]; exact hr0), rfl, _, _, rfl, rfl, ?_⟩
      refine ⟨_, rfl, q _ _ ⟨fun z o hz e => ?_, a / m, b, upd_same, Int.ediv_nonneg ha (by omega), hb, hb2⟩ (Int.emod_nonneg _ (by omega)) (Int.emod_lt_of_pos _ hm)⟩
      rw [upd_ne hz, upd_ne (ne_of_none e ht)]; exact e
    · refine ⟨_, rfl, r, _, _, _, rfl, rfl, SqL.of hr0, rfl, _, _, rfl, rfl, .inl ⟨by omega, by omega⟩, _, _, rfl, rfl, .inl ⟨_, rfl, _, _, rfl, rfl, (by show (0 : Int) < 2147483563; decide), ?_⟩⟩
      have e0 := Int.emod_nonneg (b * 48311 + 20011) (show (2147483563 : Int) ≠ 0 by decide)
      have e1 := Int.emod_lt_of_pos (b * 48311 + 20011) (show (0 : Int) < 2147483563 by decide)
      refine ⟨_, rfl, r, _, _, 1, rfl, rfl, hr0, rfl, ?_⟩
      have hr1 : upd H r (.lst [.int a, .int ((b * 48311 + 20011) % 2147483563)]) r = some (.lst [.int a, .int ((b * 48311 + 20011) % 2147483563)]) := upd_same
      refine ⟨_, rfl, r, [.int a, .int ((b * 48311 + 20011) % 2147483563)], _, _, rfl, rfl, SqL.of hr1, rfl, _, rfl, r, [.int a, .int ((b * 48311 + 20011) % 2147483563)], _, _, rfl, rfl, SqL.of hr1, rfl, _, _, rfl, rfl, .inl ⟨by omega, by omega⟩, .inl ⟨_, rfl, _, _, rfl, rfl, (by show (0 : Int) < 2147483497; decide), _, _, rfl, rfl, ⟨by decide, by decide⟩, _, rfl, _, _, rfl, rfl, hm, ?_⟩⟩
      exact q _ _ ⟨fun z o hz e => by rw [upd_ne hz]; exact e, a, _, hr1, ha, e0, e1⟩ (Int.emod_nonneg _ (by omega)) (Int.emod_lt_of_pos _ hm)
end
end VK


namespace VK
open PySem PySem.Spec PyProof.Rows L2
/-- the classes by their numbers -/
def cl (A : Ad) : Nat → Addr
  | 0 => A.InvalidCurve
  | 1 => A.InvalidPiece
  | 2 => A.InvalidLength
  | 3 => A.InvalidCount
  | 4 => A.InvalidRecord
  | 5 => A.InvalidVisit
  | 6 => A.InvalidVisits
  | 7 => A.InvalidSupply
  | 8 => A.InvalidWindow
  | 9 => A.InvalidStation
  | 10 => A.InvalidNetwork
  | 11 => A.InvalidName
  | 12 => A.InvalidPath
  | 13 => A.InvalidSplit
  | 14 => A.InvalidTime
  | 15 => A.InvalidTick
  | 16 => A.InvalidFault
  | 17 => A.InvalidFaults
  | 18 => A.InvalidHanded
  | 19 => A.InvalidBook
  | 20 => A.InvalidWeights
  | 21 => A.InvalidText
  | 22 => A.InvalidCommand
  | 23 => A.UnknownStation
  | 24 => A.UnknownStream
  | 25 => A.UnknownUnit
  | 26 => A.NoLink
  | 27 => A.NameTaken
  | 28 => A.NotGood
  | 29 => A.TooSlow
  | 30 => A.Refused
  | 31 => A.Overfull
  | 32 => A.NotPlain
  | 33 => A.HasReserves
  | 34 => A.NoSplits
  | 35 => A.Exposed
  | 36 => A.NotLate
  | 37 => A.RunFailed
  | 38 => A.TooLong
  | 39 => A.TooMany
  | _ => A.DueError
/-- which base -/
def bk : Nat → Nat
  | 0 => 0
  | 1 => 0
  | 2 => 0
  | 3 => 0
  | 4 => 0
  | 5 => 0
  | 6 => 0
  | 7 => 0
  | 8 => 0
  | 9 => 0
  | 10 => 0
  | 11 => 0
  | 12 => 0
  | 13 => 0
  | 14 => 0
  | 15 => 0
  | 16 => 0
  | 17 => 0
  | 18 => 0
  | 19 => 0
  | 20 => 0
  | 21 => 0
  | 22 => 0
  | 23 => 1
  | 24 => 1
  | 25 => 1
  | 26 => 1
  | 27 => 2
  | 28 => 2
  | 29 => 2
  | 30 => 2
  | 31 => 2
  | 32 => 2
  | 33 => 2
  | 34 => 2
  | 35 => 2
  | 36 => 2
  | 37 => 2
  | 38 => 3
  | 39 => 3
  | _ => 0
def tlB (A : Ad) : Nat → List Value
  | 0 => [.ref A.DueError, .type "ValueError", .type "Exception", .type "BaseException", .type "object"]
  | 1 => [.type "LookupError", .type "Exception", .type "BaseException", .type "object"]
  | 2 => [.type "RuntimeError", .type "Exception", .type "BaseException", .type "object"]
  | _ => [.type "ArithmeticError", .type "Exception", .type "BaseException", .type "object"]
/-- the attributes -/
def fd : Nat → List Str
  | 0 => ["problem", "position"]
  | 1 => ["position"]
  | 2 => ["value"]
  | 3 => ["value"]
  | 4 => ["position"]
  | 5 => ["problem"]
  | 6 => ["position"]
  | 7 => ["position"]
  | 8 => ["value"]
  | 9 => ["problem"]
  | 10 => ["problem", "position"]
  | 11 => ["value"]
  | 12 => ["position"]
  | 13 => ["position"]
  | 14 => ["value"]
  | 15 => ["value"]
  | 16 => ["problem"]
  | 17 => ["position"]
  | 18 => []
  | 19 => []
  | 20 => []
  | 21 => ["line"]
  | 22 => ["value"]
  | 23 => ["value"]
  | 24 => ["value"]
  | 25 => ["value"]
  | 26 => ["source", "target"]
  | 27 => ["taken"]
  | 28 => ["first", "second"]
  | 29 => ["total"]
  | 30 => ["refusal"]
  | 31 => ["at_station", "window"]
  | 32 => []
  | 33 => []
  | 34 => ["cases"]
  | 35 => ["danger"]
  | 36 => ["value"]
  | 37 => ["position", "results"]
  | 38 => ["limit"]
  | 39 => ["limit"]
  | _ => []
section
variable {K : PySem.W.Frag} {mg : Str → Option Value} {A : Ad}
/-- what is known of the class of a number -/
structure Cn (K : PySem.W.Frag) (C : Addr) (tail : List Value) (fs : List Str) : Prop where
  as : VX.Asked K C
  xf : XfC K C
  mro : ∃ cd, PySem.W.clsIn K C = some cd ∧ cd.mro = .ref C :: tail
  ty : PySem.W.typeIn K (.ref C) = some (.type "type")
  nf : ∀ x ∈ fs, PySem.W.findIn K (.ref C) x = some none
theorem EC.cn {x : Str} {C : Addr} {tail : List Value} {fs : List Str} (h : EC K mg x C tail) (nf : ∀ x ∈ fs, PySem.W.findIn K (.ref C) x = some none) : Cn K C tail fs := ⟨h.as, h.xf, h.mro, h.ty, nf⟩
theorem nil_all {p : Str → Prop} : ∀ x ∈ ([] : List Str), p x := fun x h => by cases h
theorem cn (T : Txt K mg A) : ∀ i, i < 40 → Cn K (cl A i) (tlB A (bk i)) (fd i)
  | 0, _ => T.e_InvalidCurve.cn T.i_InvalidCurve.nf
  | 1, _ => T.e_InvalidPiece.cn T.i_InvalidPiece.nf
  | 2, _ => T.e_InvalidLength.cn T.i_InvalidLength.nf
  | 3, _ => T.e_InvalidCount.cn T.i_InvalidCount.nf
  | 4, _ => T.e_InvalidRecord.cn T.i_InvalidRecord.nf
  | 5, _ => T.e_InvalidVisit.cn T.i_InvalidVisit.nf
  | 6, _ => T.e_InvalidVisits.cn T.i_InvalidVisits.nf
  | 7, _ => T.e_InvalidSupply.cn T.i_InvalidSupply.nf
  | 8, _ => T.e_InvalidWindow.cn T.i_InvalidWindow.nf
  | 9, _ => T.e_InvalidStation.cn T.i_InvalidStation.nf
  | 10, _ => T.e_InvalidNetwork.cn T.i_InvalidNetwork.nf
  | 11, _ => T.e_InvalidName.cn T.i_InvalidName.nf
  | 12, _ => T.e_InvalidPath.cn T.i_InvalidPath.nf
  | 13, _ => T.e_InvalidSplit.cn T.i_InvalidSplit.nf
  | 14, _ => T.e_InvalidTime.cn T.i_InvalidTime.nf
  | 15, _ => T.e_InvalidTick.cn T.i_InvalidTick.nf
  | 16, _ => T.e_InvalidFault.cn T.i_InvalidFault.nf
  | 17, _ => T.e_InvalidFaults.cn T.i_InvalidFaults.nf
  | 18, _ => T.e_InvalidHanded.cn nil_all
  | 19, _ => T.e_InvalidBook.cn nil_all
  | 20, _ => T.e_InvalidWeights.cn nil_all
  | 21, _ => T.e_InvalidText.cn T.i_InvalidText.nf
  | 22, _ => T.e_InvalidCommand.cn T.i_InvalidCommand.nf
  | 23, _ => T.e_UnknownStation.cn T.i_UnknownStation.nf
  | 24, _ => T.e_UnknownStream.cn T.i_UnknownStream.nf
  | 25, _ => T.e_UnknownUnit.cn T.i_UnknownUnit.nf
  | 26, _ => T.e_NoLink.cn T.i_NoLink.nf
  | 27, _ => T.e_NameTaken.cn T.i_NameTaken.nf
  | 28, _ => T.e_NotGood.cn T.i_NotGood.nf
  | 29, _ => T.e_TooSlow.cn T.i_TooSlow.nf
  | 30, _ => T.e_Refused.cn T.i_Refused.nf
  | 31, _ => T.e_Overfull.cn T.i_Overfull.nf
  | 32, _ => T.e_NotPlain.cn nil_all
  | 33, _ => T.e_HasReserves.cn nil_all
  | 34, _ => T.e_NoSplits.cn T.i_NoSplits.nf
  | 35, _ => T.e_Exposed.cn T.i_Exposed.nf
  | 36, _ => T.e_NotLate.cn T.i_NotLate.nf
  | 37, _ => T.e_RunFailed.cn T.i_RunFailed.nf
  | 38, _ => T.e_TooLong.cn T.i_TooLong.nf
  | 39, _ => T.e_TooMany.cn T.i_TooMany.nf
  | _ + 40, h => absurd h (by omega)
theorem cl_ne (T : Txt K mg A) {i j : Nat} (hi : i < 41) (hj : j < 41) (h : i ≠ j) : cl A i ≠ cl A j := by
  have z := T.ndup
  have e : [A.InvalidCurve, A.InvalidPiece, A.InvalidLength, A.InvalidCount, A.InvalidRecord, A.InvalidVisit, A.InvalidVisits, A.InvalidSupply, A.InvalidWindow, A.InvalidStation, A.InvalidNetwork, A.InvalidName, A.InvalidPath, A.InvalidSplit, A.InvalidTime, A.InvalidTick, A.InvalidFault, A.InvalidFaults, A.InvalidHanded, A.InvalidBook, A.InvalidWeights, A.InvalidText, A.InvalidCommand, A.UnknownStation, A.UnknownStream, A.UnknownUnit, A.NoLink, A.NameTaken, A.NotGood, A.TooSlow, A.Refused, A.Overfull, A.NotPlain, A.HasReserves, A.NoSplits, A.Exposed, A.NotLate, A.RunFailed, A.TooLong, A.TooMany, A.DueError] = (List.range 41).map (cl A) := rfl
  rw [e, List.nodup_iff_pairwise_ne, List.pairwise_map] at z
  intro q
  have all : ∀ a b, a < b → b < 41 → cl A a ≠ cl A b := fun a b hab hb => by
    have := List.pairwise_iff_getElem.mp z a b (by rw [List.length_range]; omega) (by rw [List.length_range]; omega) hab
    rw [List.getElem_range, List.getElem_range] at this
    exact this
  rcases Nat.lt_or_gt_of_ne h with l | l
  · exact all i j l hj q
  · exact all j i l hi q.symm
theorem kitOf {C D : Addr} {tl tl2 : List Value} {fs fs2 : List Str} (h : Cn K C tl fs) (h2 : Cn K D tl2 fs2) : PySem.W.kitOne K (.ref C) (.ref D) = some ((Value.ref C :: tl).contains (.ref D)) := by
  unfold PySem.W.kitOne
  by_cases e : (Value.ref C == Value.ref D) = true
  · rw [if_pos e, List.contains_cons]
    have e' : (Value.ref D == Value.ref C) = true := by rw [beq_iff_eq] at e ⊢; exact e.symm
    rw [e', Bool.true_or]
  · rw [if_neg e]
    obtain ⟨cd, hc, hm⟩ := h.mro
    obtain ⟨cd2, hc2, _⟩ := h2.mro
    unfold PySem.W.kitCls
    show (if ((PySem.W.clsIn K D).isSome && PySem.W.typeIn K (.ref D) == some (Value.type "type")) = true then PySem.W.subIn K (.ref C) (.ref D) else none) = _
    rw [hc2, h2.ty, if_pos (by rfl)]
    show PySem.W.mroIn K C (.ref D) = _
    unfold PySem.W.mroIn
    rw [hc]
    show (if cd.mro.isEmpty then none else some (cd.mro.contains (.ref D))) = _
    rw [hm, List.isEmpty_cons]
    rfl
theorem kitTy {C : Addr} {tl : List Value} {fs : List Str} {B : String} (h : Cn K C tl fs) (hB : PySem.W.kitMeta B = true) : PySem.W.kitOne K (.ref C) (.type B) = some (tl.contains (.type B)) := by
  unfold PySem.W.kitOne
  have e0 : (Value.ref C == Value.type B) = false := by rw [beq_eq_false_iff_ne]; exact fun q => nomatch q
  rw [e0, if_neg (by decide)]
  obtain ⟨cd, hc, hm⟩ := h.mro
  unfold PySem.W.kitCls
  show (if PySem.W.kitMeta B = true then PySem.W.subIn K (.ref C) (.type B) else none) = _
  rw [if_pos hB]
  show PySem.W.mroIn K C (.type B) = _
  unfold PySem.W.mroIn
  rw [hc]
  show (if cd.mro.isEmpty then none else some (cd.mro.contains (.type B))) = _
  rw [hm, List.isEmpty_cons, List.contains_cons]
  have e : (Value.type B == Value.ref C) = false := by rw [beq_eq_false_iff_ne]; exact fun q => nomatch q
  rw [e, Bool.false_or]
  rfl
theorem tl_no (T : Txt K mg A) (k : Nat) {j : Nat} (hj : j < 40) : (tlB A k).contains (.ref (cl A j)) = false := by
  have n : cl A j ≠ A.DueError := cl_ne T (j := 40) (by omega) (by omega) (by omega)
  have a : ∀ S : String, (Value.ref (cl A j) == Value.type S) = false := fun S => by rw [beq_eq_false_iff_ne]; exact fun q => nomatch q
  have b : (Value.ref (cl A j) == Value.ref A.DueError) = false := by rw [beq_eq_false_iff_ne]; exact fun q => n (Value.ref.inj q)
  unfold tlB
  split <;> simp only [List.contains_cons, List.contains_nil, a, b, Bool.or_false]
/-- of which classes an error is -/
theorem kit (T : Txt K mg A) {i j : Nat} (hi : i < 40) (hj : j < 40) : PySem.W.kitOne K (.ref (cl A i)) (.ref (cl A j)) = some (decide (i = j)) := by
  rw [kitOf (cn T i hi) (cn T j hj), List.contains_cons, tl_no T _ hj, Bool.or_false]
  by_cases e : i = j
  · subst e
    rw [decide_eq_true rfl, beq_self_eq_true]
  · rw [decide_eq_false e, beq_eq_false_iff_ne.mpr fun q => cl_ne T (by omega) (by omega) e (Value.ref.inj q).symm]
theorem due_cn (T : Txt K mg A) : Cn K A.DueError [.type "ValueError", .type "Exception", .type "BaseException", .type "object"] [] := T.e_DueError.cn nil_all
theorem kitD (T : Txt K mg A) {i : Nat} (hi : i < 40) : PySem.W.kitOne K (.ref (cl A i)) (.ref A.DueError) = some (decide (bk i = 0)) := by
  have n : (Value.ref A.DueError == Value.ref (cl A i)) = false := by rw [beq_eq_false_iff_ne]; exact fun q => cl_ne T (i := i) (j := 40) (by omega) (by omega) (by omega) (Value.ref.inj q).symm
  have a : ∀ S : String, (Value.ref A.DueError == Value.type S) = false := fun S => by rw [beq_eq_false_iff_ne]; exact fun q => nomatch q
  rw [kitOf (cn T i hi) (due_cn T), List.contains_cons, n, Bool.false_or]
  generalize bk i = k
  unfold tlB
  split
  · simp [List.contains_cons]
  · simp [List.contains_cons, a]
  · simp [List.contains_cons, a]
  · rename_i h _ _
    rw [decide_eq_false h]
    simp [List.contains_cons, a]
/-- which of the bases -/
def isB (k : Nat) (B : String) : Bool := if B = "ValueError" then decide (k = 0) else if B = "LookupError" then decide (k = 1) else if B = "RuntimeError" then decide (k = 2) else if B = "ArithmeticError" then decide (k ≥ 3) else false
theorem tl_b (k : Nat) {B : String} (hB : B ∈ ["ValueError", "LookupError", "RuntimeError", "ArithmeticError", "KeyError", "IndexError", "ZeroDivisionError", "OverflowError"]) : (tlB A k).contains (.type B) = isB k B := by
  have e : ∀ S S' : String, (Value.type S == Value.type S') = decide (S = S') := fun S S' => by
    by_cases q : S = S'
    · subst q; rw [decide_eq_true rfl, beq_self_eq_true]
    · rw [decide_eq_false q, beq_eq_false_iff_ne]; exact fun z => q (by injection z)
  have r : ∀ a, (Value.type B == Value.ref a) = false := fun a => by rw [beq_eq_false_iff_ne]; exact fun q => nomatch q
  unfold tlB
  simp only [List.mem_cons, List.not_mem_nil, or_false] at hB
  split
  · simp only [List.contains_cons, List.contains_nil, r, e]
    rcases hB with rfl | rfl | rfl | rfl | rfl | rfl | rfl | rfl <;> decide
  · simp only [List.contains_cons, List.contains_nil, r, e]
    rcases hB with rfl | rfl | rfl | rfl | rfl | rfl | rfl | rfl <;> decide
  · simp only [List.contains_cons, List.contains_nil, r, e]
    rcases hB with rfl | rfl | rfl | rfl | rfl | rfl | rfl | rfl <;> decide
  · rename_i h0 h1 h2
    have n0 : k ≠ 0 := h0
    have n1 : k ≠ 1 := h1
    have n2 : k ≠ 2 := h2
    have k3 : k ≥ 3 := by omega
    simp only [List.contains_cons, List.contains_nil, r, e]
    rcases hB with rfl | rfl | rfl | rfl | rfl | rfl | rfl | rfl <;> simp [isB, n0, n1, n2, k3]
theorem metas : ∀ B ∈ ["ValueError", "LookupError", "RuntimeError", "ArithmeticError", "KeyError", "IndexError", "ZeroDivisionError", "OverflowError"], PySem.W.kitMeta B = true := by decide +kernel
theorem kitB (T : Txt K mg A) {i : Nat} (hi : i < 40) {B : String} (hB : B ∈ ["ValueError", "LookupError", "RuntimeError", "ArithmeticError", "KeyError", "IndexError", "ZeroDivisionError", "OverflowError"]) : PySem.W.kitOne K (.ref (cl A i)) (.type B) = some (isB (bk i) B) := by
  rw [kitTy (cn T i hi) (metas B hB), tl_b _ hB]
end
end VK


namespace VK
open PySem PySem.Spec PyProof.Rows L2
def Init1 (C : Addr) (f : Str) : Sp := fun vs H Q _ => ∃ (e : Addr) (y : V), vs = [.ref e, y] ∧ H e = some (exo e C none) ∧ ∀ d, H d = none → d ≠ e → Q .non (upd (upd H d (exd d [(f, y)])) e (exo e C (some d)))
def Init2 (C : Addr) (f g : Str) : Sp := fun vs H Q _ => ∃ (e : Addr) (x y : V), vs = [.ref e, x, y] ∧ H e = some (exo e C none) ∧
  ∀ d, H d = none → d ≠ e → Q .non (upd (upd (upd H d (exd d [(f, x)])) e (exo e C (some d))) d (exd d [(g, y), (f, x)]))
def sp_InvalidCurve_init (_ : PySem.W.Frag) (A : Ad) : Sp := Init2 A.InvalidCurve "problem" "position"
def sp_InvalidPiece_init (_ : PySem.W.Frag) (A : Ad) : Sp := Init1 A.InvalidPiece "position"
def sp_InvalidLength_init (_ : PySem.W.Frag) (A : Ad) : Sp := Init1 A.InvalidLength "value"
def sp_InvalidCount_init (_ : PySem.W.Frag) (A : Ad) : Sp := Init1 A.InvalidCount "value"
def sp_InvalidRecord_init (_ : PySem.W.Frag) (A : Ad) : Sp := Init1 A.InvalidRecord "position"
def sp_InvalidVisit_init (_ : PySem.W.Frag) (A : Ad) : Sp := Init1 A.InvalidVisit "problem"
def sp_InvalidVisits_init (_ : PySem.W.Frag) (A : Ad) : Sp := Init1 A.InvalidVisits "position"
def sp_InvalidSupply_init (_ : PySem.W.Frag) (A : Ad) : Sp := Init1 A.InvalidSupply "position"
def sp_InvalidWindow_init (_ : PySem.W.Frag) (A : Ad) : Sp := Init1 A.InvalidWindow "value"
def sp_InvalidStation_init (_ : PySem.W.Frag) (A : Ad) : Sp := Init1 A.InvalidStation "problem"
def sp_InvalidNetwork_init (_ : PySem.W.Frag) (A : Ad) : Sp := Init2 A.InvalidNetwork "problem" "position"
def sp_InvalidName_init (_ : PySem.W.Frag) (A : Ad) : Sp := Init1 A.InvalidName "value"
def sp_InvalidPath_init (_ : PySem.W.Frag) (A : Ad) : Sp := Init1 A.InvalidPath "position"
def sp_InvalidSplit_init (_ : PySem.W.Frag) (A : Ad) : Sp := Init1 A.InvalidSplit "position"
def sp_InvalidTime_init (_ : PySem.W.Frag) (A : Ad) : Sp := Init1 A.InvalidTime "value"
def sp_InvalidTick_init (_ : PySem.W.Frag) (A : Ad) : Sp := Init1 A.InvalidTick "value"
def sp_InvalidFault_init (_ : PySem.W.Frag) (A : Ad) : Sp := Init1 A.InvalidFault "problem"
def sp_InvalidFaults_init (_ : PySem.W.Frag) (A : Ad) : Sp := Init1 A.InvalidFaults "position"
def sp_InvalidText_init (_ : PySem.W.Frag) (A : Ad) : Sp := Init1 A.InvalidText "line"
def sp_InvalidCommand_init (_ : PySem.W.Frag) (A : Ad) : Sp := Init1 A.InvalidCommand "value"
def sp_UnknownStation_init (_ : PySem.W.Frag) (A : Ad) : Sp := Init1 A.UnknownStation "value"
def sp_UnknownStream_init (_ : PySem.W.Frag) (A : Ad) : Sp := Init1 A.UnknownStream "value"
def sp_UnknownUnit_init (_ : PySem.W.Frag) (A : Ad) : Sp := Init1 A.UnknownUnit "value"
def sp_NoLink_init (_ : PySem.W.Frag) (A : Ad) : Sp := Init2 A.NoLink "source" "target"
def sp_NameTaken_init (_ : PySem.W.Frag) (A : Ad) : Sp := Init1 A.NameTaken "taken"
def sp_NotGood_init (_ : PySem.W.Frag) (A : Ad) : Sp := Init2 A.NotGood "first" "second"
def sp_TooSlow_init (_ : PySem.W.Frag) (A : Ad) : Sp := Init1 A.TooSlow "total"
def sp_Refused_init (_ : PySem.W.Frag) (A : Ad) : Sp := Init1 A.Refused "refusal"
def sp_Overfull_init (_ : PySem.W.Frag) (A : Ad) : Sp := Init2 A.Overfull "at_station" "window"
def sp_NoSplits_init (_ : PySem.W.Frag) (A : Ad) : Sp := Init1 A.NoSplits "cases"
def sp_Exposed_init (_ : PySem.W.Frag) (A : Ad) : Sp := Init1 A.Exposed "danger"
def sp_NotLate_init (_ : PySem.W.Frag) (A : Ad) : Sp := Init1 A.NotLate "value"
def sp_RunFailed_init (_ : PySem.W.Frag) (A : Ad) : Sp := Init2 A.RunFailed "position" "results"
def sp_TooLong_init (_ : PySem.W.Frag) (A : Ad) : Sp := Init1 A.TooLong "limit"
def sp_TooMany_init (_ : PySem.W.Frag) (A : Ad) : Sp := Init1 A.TooMany "limit"
section
variable {P : Program} {w : World} {K : PySem.W.Frag} {mg : Str → Option Value} {base : Heap} {A : Ad}
theorem ok_InvalidCurve_init (T : Txt K mg A) : FnOk P w K mg base CX0 1 A.f_InvalidCurve_init A.d_InvalidCurve_init ["self", "problem", "position"] (sp_InvalidCurve_init K A) := by
  refine T.F_InvalidCurve_init.ok sc_InvalidCurve_init (fun vs H Q E h => ?_) (fun cdv A0 outer s H vs Q E hr h => ?_)
  · obtain ⟨e, x, y, rfl, he, k⟩ := h
    rfl
  · obtain ⟨e, x, y, rfl, he, k⟩ := h
    refine ⟨_, (pss_cons (VX.ps_put (pv 0) (pv 1))
    (pss_one (VX.ps_put (pv 0) (pv 2)))), ?_⟩
    refine ⟨_, rfl, _, rfl, e, A.InvalidCurve, rfl, T.i_InvalidCurve.O, T.i_InvalidCurve.nf _ (by simp), .inl ⟨he, fun d hd hde => ?_⟩⟩
    exact ⟨_, rfl, _, rfl, e, A.InvalidCurve, rfl, T.i_InvalidCurve.O, T.i_InvalidCurve.nf _ (by simp), .inr ⟨d, _, upd_same, (by rw [upd_ne hde]; exact upd_same), (by show 1 ≤ 900; decide), k d hd hde⟩⟩
theorem ok_InvalidPiece_init (T : Txt K mg A) : FnOk P w K mg base CX0 1 A.f_InvalidPiece_init A.d_InvalidPiece_init ["self", "position"] (sp_InvalidPiece_init K A) := by
  refine T.F_InvalidPiece_init.ok sc_InvalidPiece_init (fun vs H Q E h => ?_) (fun cdv A0 outer s H vs Q E hr h => ?_)
  · obtain ⟨e, y, rfl, he, k⟩ := h
    rfl
  · obtain ⟨e, y, rfl, he, k⟩ := h
    refine ⟨_, (pss_one (VX.ps_put (pv 0) (pv 1))), ?_⟩
    exact ⟨_, rfl, _, rfl, e, A.InvalidPiece, rfl, T.i_InvalidPiece.O, T.i_InvalidPiece.nf _ (by simp), .inl ⟨he, fun d hd hde => k d hd hde⟩⟩
theorem ok_InvalidLength_init (T : Txt K mg A) : FnOk P w K mg base CX0 1 A.f_InvalidLength_init A.d_InvalidLength_init ["self", "value"] (sp_InvalidLength_init K A) := by
  refine T.F_InvalidLength_init.ok sc_InvalidLength_init (fun vs H Q E h => ?_) (fun cdv A0 outer s H vs Q E hr h => ?_)
  · obtain ⟨e, y, rfl, he, k⟩ := h
    rfl
  · obtain ⟨e, y, rfl, he, k⟩ := h
    refine ⟨_, (pss_one (VX.ps_put (pv 0) (pv 1))), ?_⟩
    exact ⟨_, rfl, _, rfl, e, A.InvalidLength, rfl, T.i_InvalidLength.O, T.i_InvalidLength.nf _ (by simp), .inl ⟨he, fun d hd hde => k d hd hde⟩⟩
theorem ok_InvalidCount_init (T : Txt K mg A) : FnOk P w K mg base CX0 1 A.f_InvalidCount_init A.d_InvalidCount_init ["self", "value"] (sp_InvalidCount_init K A) := by
  refine T.F_InvalidCount_init.ok sc_InvalidCount_init (fun vs H Q E h => ?_) (fun cdv A0 outer s H vs Q E hr h => ?_)
  · obtain ⟨e, y, rfl, he, k⟩ := h
    rfl
  · obtain ⟨e, y, rfl, he, k⟩ := h
    refine ⟨_, (pss_one (VX.ps_put (pv 0) (pv 1))), ?_⟩
    exact ⟨_, rfl, _, rfl, e, A.InvalidCount, rfl, T.i_InvalidCount.O, T.i_InvalidCount.nf _ (by simp), .inl ⟨he, fun d hd hde => k d hd hde⟩⟩
theorem ok_InvalidRecord_init (T : Txt K mg A) : FnOk P w K mg base CX0 1 A.f_InvalidRecord_init A.d_InvalidRecord_init ["self", "position"] (sp_InvalidRecord_init K A) := by
  refine T.F_InvalidRecord_init.ok sc_InvalidRecord_init (fun vs H Q E h => ?_) (fun cdv A0 outer s H vs Q E hr h => ?_)
  · obtain ⟨e, y, rfl, he, k⟩ := h
    rfl
  · obtain ⟨e, y, rfl, he, k⟩ := h
    refine ⟨_, (pss_one (VX.ps_put (pv 0) (pv 1))), ?_⟩
    exact ⟨_, rfl, _, rfl, e, A.InvalidRecord, rfl, T.i_InvalidRecord.O, T.i_InvalidRecord.nf _ (by simp), .inl ⟨he, fun d hd hde => k d hd hde⟩⟩
theorem ok_InvalidVisit_init (T : Txt K mg A) : FnOk P w K mg base CX0 1 A.f_InvalidVisit_init A.d_InvalidVisit_init ["self", "problem"] (sp_InvalidVisit_init K A) := by
  refine T.F_InvalidVisit_init.ok sc_InvalidVisit_init (fun vs H Q E h => ?_) (fun cdv A0 outer s H vs Q E hr h => ?_)
  · obtain ⟨e, y, rfl, he, k⟩ := h
    rfl
  · obtain ⟨e, y, rfl, he, k⟩ := h
    refine ⟨_, (pss_one (VX.ps_put (pv 0) (pv 1))), ?_⟩
    exact ⟨_, rfl, _, rfl, e, A.InvalidVisit, rfl, T.i_InvalidVisit.O, T.i_InvalidVisit.nf _ (by simp), .inl ⟨he, fun d hd hde => k d hd hde⟩⟩
theorem ok_InvalidVisits_init (T : Txt K mg A) : FnOk P w K mg base CX0 1 A.f_InvalidVisits_init A.d_InvalidVisits_init ["self", "position"] (sp_InvalidVisits_init K A) := by
  refine T.F_InvalidVisits_init.ok sc_InvalidVisits_init (fun vs H Q E h => ?_) (fun cdv A0 outer s H vs Q E hr h => ?_)
  · obtain ⟨e, y, rfl, he, k⟩ := h
    rfl
  · obtain ⟨e, y, rfl, he, k⟩ := h
    refine ⟨_, (pss_one (VX.ps_put (pv 0) (pv 1))), ?_⟩
    exact ⟨_, rfl, _, rfl, e, A.InvalidVisits, rfl, T.i_InvalidVisits.O, T.i_InvalidVisits.nf _ (by simp), .inl ⟨he, fun d hd hde => k d hd hde⟩⟩
theorem ok_InvalidSupply_init (T : Txt K mg A) : FnOk P w K mg base CX0 1 A.f_InvalidSupply_init A.d_InvalidSupply_init ["self", "position"] (sp_InvalidSupply_init K A) := by
  refine T.F_InvalidSupply_init.ok sc_InvalidSupply_init (fun vs H Q E h => ?_) (fun cdv A0 outer s H vs Q E hr h => ?_)
  · obtain ⟨e, y, rfl, he, k⟩ := h
    rfl
  · obtain ⟨e, y, rfl, he, k⟩ := h
    refine ⟨_, (pss_one (VX.ps_put (pv 0) (pv 1))), ?_⟩
    exact ⟨_, rfl, _, rfl, e, A.InvalidSupply, rfl, T.i_InvalidSupply.O, T.i_InvalidSupply.nf _ (by simp), .inl ⟨he, fun d hd hde => k d hd hde⟩⟩
theorem ok_InvalidWindow_init (T : Txt K mg A) : FnOk P w K mg base CX0 1 A.f_InvalidWindow_init A.d_InvalidWindow_init ["self", "value"] (sp_InvalidWindow_init K A) := by
  refine T.F_InvalidWindow_init.ok sc_InvalidWindow_init (fun vs H Q E h => ?_) (fun cdv A0 outer s H vs Q E hr h => ?_)
  · obtain ⟨e, y, rfl, he, k⟩ := h
    rfl
  · obtain ⟨e, y, rfl, he, k⟩ := h
    refine ⟨_, (pss_one (VX.ps_put (pv 0) (pv 1))), ?_⟩
    exact ⟨_, rfl, _, rfl, e, A.InvalidWindow, rfl, T.i_InvalidWindow.O, T.i_InvalidWindow.nf _ (by simp), .inl ⟨he, fun d hd hde => k d hd hde⟩⟩
theorem ok_InvalidStation_init (T : Txt K mg A) : FnOk P w K mg base CX0 1 A.f_InvalidStation_init A.d_InvalidStation_init ["self", "problem"] (sp_InvalidStation_init K A) := by
  refine T.F_InvalidStation_init.ok sc_InvalidStation_init (fun vs H Q E h => ?_) (fun cdv A0 outer s H vs Q E hr h => ?_)
  · obtain ⟨e, y, rfl, he, k⟩ := h
    rfl
  · obtain ⟨e, y, rfl, he, k⟩ := h
    refine ⟨_, (pss_one (VX.ps_put (pv 0) (pv 1))), ?_⟩
    exact ⟨_, rfl, _, rfl, e, A.InvalidStation, rfl, T.i_InvalidStation.O, T.i_InvalidStation.nf _ (by simp), .inl ⟨he, fun d hd hde => k d hd hde⟩⟩
theorem ok_InvalidNetwork_init (T : Txt K mg A) : FnOk P w K mg base CX0 1 A.f_InvalidNetwork_init A.d_InvalidNetwork_init ["self", "problem", "position"] (sp_InvalidNetwork_init K A) := by
  refine T.F_InvalidNetwork_init.ok sc_InvalidNetwork_init (fun vs H Q E h => ?_) (fun cdv A0 outer s H vs Q E hr h => ?_)
  · obtain ⟨e, x, y, rfl, he, k⟩ := h
    rfl
  · obtain ⟨e, x, y, rfl, he, k⟩ := h
    refine ⟨_, (pss_cons (VX.ps_put (pv 0) (pv 1))
    (pss_one (VX.ps_put (pv 0) (pv 2)))), ?_⟩
    refine ⟨_, rfl, _, rfl, e, A.InvalidNetwork, rfl, T.i_InvalidNetwork.O, T.i_InvalidNetwork.nf _ (by simp), .inl ⟨he, fun d hd hde => ?_⟩⟩
    exact ⟨_, rfl, _, rfl, e, A.InvalidNetwork, rfl, T.i_InvalidNetwork.O, T.i_InvalidNetwork.nf _ (by simp), .inr ⟨d, _, upd_same, (by rw [upd_ne hde]; exact upd_same), (by show 1 ≤ 900; decide), k d hd hde⟩⟩
theorem ok_InvalidName_init (T : Txt K mg A) : FnOk P w K mg base CX0 1 A.f_InvalidName_init A.d_InvalidName_init ["self", "value"] (sp_InvalidName_init K A) := by
  refine T.F_InvalidName_init.ok sc_InvalidName_init (fun vs H Q E h => ?_) (fun cdv A0 outer s H vs Q E hr h => ?_)
  · obtain ⟨e, y, rfl, he, k⟩ := h
    rfl
  · obtain ⟨e, y, rfl, he, k⟩ := h
    refine ⟨_, (pss_one (VX.ps_put (pv 0) (pv 1))), ?_⟩
    exact ⟨_, rfl, _, rfl, e, A.InvalidName, rfl, T.i_InvalidName.O, T.i_InvalidName.nf _ (by simp), .inl ⟨he, fun d hd hde => k d hd hde⟩⟩
theorem ok_InvalidPath_init (T : Txt K mg A) : FnOk P w K mg base CX0 1 A.f_InvalidPath_init A.d_InvalidPath_init ["self", "position"] (sp_InvalidPath_init K A) := by
  refine T.F_InvalidPath_init.ok sc_InvalidPath_init (fun vs H Q E h => ?_) (fun cdv A0 outer s H vs Q E hr h => ?_)
  · obtain ⟨e, y, rfl, he, k⟩ := h
    rfl
  · obtain ⟨e, y, rfl, he, k⟩ := h
    refine ⟨_, (pss_one (VX.ps_put (pv 0) (pv 1))), ?_⟩
    exact ⟨_, rfl, _, rfl, e, A.InvalidPath, rfl, T.i_InvalidPath.O, T.i_InvalidPath.nf _ (by simp), .inl ⟨he, fun d hd hde => k d hd hde⟩⟩
theorem ok_InvalidSplit_init (T : Txt K mg A) : FnOk P w K mg base CX0 1 A.f_InvalidSplit_init A.d_InvalidSplit_init ["self", "position"] (sp_InvalidSplit_init K A) := by
  refine T.F_InvalidSplit_init.ok sc_InvalidSplit_init (fun vs H Q E h => ?_) (fun cdv A0 outer s H vs Q E hr h => ?_)
  · obtain ⟨e, y, rfl, he, k⟩ := h
    rfl
  · obtain ⟨e, y, rfl, he, k⟩ := h
    refine ⟨_, (pss_one (VX.ps_put (pv 0) (pv 1))), ?_⟩
    exact ⟨_, rfl, _, rfl, e, A.InvalidSplit, rfl, T.i_InvalidSplit.O, T.i_InvalidSplit.nf _ (by simp), .inl ⟨he, fun d hd hde => k d hd hde⟩⟩
theorem ok_InvalidTime_init (T : Txt K mg A) : FnOk P w K mg base CX0 1 A.f_InvalidTime_init A.d_InvalidTime_init ["self", "value"] (sp_InvalidTime_init K A) := by
  refine T.F_InvalidTime_init.ok sc_InvalidTime_init (fun vs H Q E h => ?_) (fun cdv A0 outer s H vs Q E hr h => ?_)
  · obtain ⟨e, y, rfl, he, k⟩ := h
    rfl
  · obtain ⟨e, y, rfl, he, k⟩ := h
    refine ⟨_, (pss_one (VX.ps_put (pv 0) (pv 1))), ?_⟩
    exact ⟨_, rfl, _, rfl, e, A.InvalidTime, rfl, T.i_InvalidTime.O, T.i_InvalidTime.nf _ (by simp), .inl ⟨he, fun d hd hde => k d hd hde⟩⟩
theorem ok_InvalidTick_init (T : Txt K mg A) : FnOk P w K mg base CX0 1 A.f_InvalidTick_init A.d_InvalidTick_init ["self", "value"] (sp_InvalidTick_init K A) := by
  refine T.F_InvalidTick_init.ok sc_InvalidTick_init (fun vs H Q E h => ?_) (fun cdv A0 outer s H vs Q E hr h => ?_)
  · obtain ⟨e, y, rfl, he, k⟩ := h
    rfl
  · obtain ⟨e, y, rfl, he, k⟩ := h
    refine ⟨_, (pss_one (VX.ps_put (pv 0) (pv 1))), ?_⟩
    exact ⟨_, rfl, _, rfl, e, A.InvalidTick, rfl, T.i_InvalidTick.O, T.i_InvalidTick.nf _ (by simp), .inl ⟨he, fun d hd hde => k d hd hde⟩⟩
theorem ok_InvalidFault_init (T : Txt K mg A) : FnOk P w K mg base CX0 1 A.f_InvalidFault_init A.d_InvalidFault_init ["self", "problem"] (sp_InvalidFault_init K A) := by
  refine T.F_InvalidFault_init.ok sc_InvalidFault_init (fun vs H Q E h => ?_) (fun cdv A0 outer s H vs Q E hr h => ?_)
  · obtain ⟨e, y, rfl, he, k⟩ := h
    rfl
  · obtain ⟨e, y, rfl, he, k⟩ := h
    refine ⟨_, (pss_one (VX.ps_put (pv 0) (pv 1))), ?_⟩
    exact ⟨_, rfl, _, rfl, e, A.InvalidFault, rfl, T.i_InvalidFault.O, T.i_InvalidFault.nf _ (by simp), .inl ⟨he, fun d hd hde => k d hd hde⟩⟩
theorem ok_InvalidFaults_init (T : Txt K mg A) : FnOk P w K mg base CX0 1 A.f_InvalidFaults_init A.d_InvalidFaults_init ["self", "position"] (sp_InvalidFaults_init K A) := by
  refine T.F_InvalidFaults_init.ok sc_InvalidFaults_init (fun vs H Q E h => ?_) (fun cdv A0 outer s H vs Q E hr h => ?_)
  · obtain ⟨e, y, rfl, he, k⟩ := h
    rfl
  · obtain ⟨e, y, rfl, he, k⟩ := h
    refine ⟨_, (pss_one (VX.ps_put (pv 0) (pv 1))), ?_⟩
    exact ⟨_, rfl, _, rfl, e, A.InvalidFaults, rfl, T.i_InvalidFaults.O, T.i_InvalidFaults.nf _ (by simp), .inl ⟨he, fun d hd hde => k d hd hde⟩⟩
theorem ok_InvalidText_init (T : Txt K mg A) : FnOk P w K mg base CX0 1 A.f_InvalidText_init A.d_InvalidText_init ["self", "line"] (sp_InvalidText_init K A) := by
  refine T.F_InvalidText_init.ok sc_InvalidText_init (fun vs H Q E h => ?_) (fun cdv A0 outer s H vs Q E hr h => ?_)
  · obtain ⟨e, y, rfl, he, k⟩ := h
    rfl
  · obtain ⟨e, y, rfl, he, k⟩ := h
    refine ⟨_, (pss_one (VX.ps_put (pv 0) (pv 1))), ?_⟩
    exact ⟨_, rfl, _, rfl, e, A.InvalidText, rfl, T.i_InvalidText.O, T.i_InvalidText.nf _ (by simp), .inl ⟨he, fun d hd hde => k d hd hde⟩⟩
theorem ok_InvalidCommand_init (T : Txt K mg A) : FnOk P w K mg base CX0 1 A.f_InvalidCommand_init A.d_InvalidCommand_init ["self", "value"] (sp_InvalidCommand_init K A) := by
  refine T.F_InvalidCommand_init.ok sc_InvalidCommand_init (fun vs H Q E h => ?_) (fun cdv A0 outer s H vs Q E hr h => ?_)
  · obtain ⟨e, y, rfl, he, k⟩ := h
    rfl
  · obtain ⟨e, y, rfl, he, k⟩ := h
    refine ⟨_, (pss_one (VX.ps_put (pv 0) (pv 1))), ?_⟩
    exact ⟨_, rfl, _, rfl, e, A.InvalidCommand, rfl, T.i_InvalidCommand.O, T.i_InvalidCommand.nf _ (by simp), .inl ⟨he, fun d hd hde => k d hd hde⟩⟩
theorem ok_UnknownStation_init (T : Txt K mg A) : FnOk P w K mg base CX0 1 A.f_UnknownStation_init A.d_UnknownStation_init ["self", "value"] (sp_UnknownStation_init K A) := by
  refine T.F_UnknownStation_init.ok sc_UnknownStation_init (fun vs H Q E h => ?_) (fun cdv A0 outer s H vs Q E hr h => ?_)
  · obtain ⟨e, y, rfl, he, k⟩ := h
    rfl
  · obtain ⟨e, y, rfl, he, k⟩ := h
    refine ⟨_, (pss_one (VX.ps_put (pv 0) (pv 1))), ?_⟩
    exact ⟨_, rfl, _, rfl, e, A.UnknownStation, rfl, T.i_UnknownStation.O, T.i_UnknownStation.nf _ (by simp), .inl ⟨he, fun d hd hde => k d hd hde⟩⟩
theorem ok_UnknownStream_init (T : Txt K mg A) : FnOk P w K mg base CX0 1 A.f_UnknownStream_init A.d_UnknownStream_init ["self", "value"] (sp_UnknownStream_init K A) := by
  refine T.F_UnknownStream_init.ok sc_UnknownStream_init (fun vs H Q E h => ?_) (fun cdv A0 outer s H vs Q E hr h => ?_)
  · obtain ⟨e, y, rfl, he, k⟩ := h
    rfl
  · obtain ⟨e, y, rfl, he, k⟩ := h
    refine ⟨_, (pss_one (VX.ps_put (pv 0) (pv 1))), ?_⟩
    exact ⟨_, rfl, _, rfl, e, A.UnknownStream, rfl, T.i_UnknownStream.O, T.i_UnknownStream.nf _ (by simp), .inl ⟨he, fun d hd hde => k d hd hde⟩⟩
theorem ok_UnknownUnit_init (T : Txt K mg A) : FnOk P w K mg base CX0 1 A.f_UnknownUnit_init A.d_UnknownUnit_init ["self", "value"] (sp_UnknownUnit_init K A) := by
  refine T.F_UnknownUnit_init.ok sc_UnknownUnit_init (fun vs H Q E h => ?_) (fun cdv A0 outer s H vs Q E hr h => ?_)
  · obtain ⟨e, y, rfl, he, k⟩ := h
    rfl
  · obtain ⟨e, y, rfl, he, k⟩ := h
    refine ⟨_, (pss_one (VX.ps_put (pv 0) (pv 1))), ?_⟩
    exact ⟨_, rfl, _, rfl, e, A.UnknownUnit, rfl, T.i_UnknownUnit.O, T.i_UnknownUnit.nf _ (by simp), .inl ⟨he, fun d hd hde => k d hd hde⟩⟩
theorem ok_NoLink_init (T : Txt K mg A) : FnOk P w K mg base CX0 1 A.f_NoLink_init A.d_NoLink_init ["self", "source", "target"] (sp_NoLink_init K A) := by
  refine T.F_NoLink_init.ok sc_NoLink_init (fun vs H Q E h => ?_) (fun cdv A0 outer s H vs Q E hr h => ?_)
  · obtain ⟨e, x, y, rfl, he, k⟩ := h
    rfl
  · obtain ⟨e, x, y, rfl, he, k⟩ := h
    refine ⟨_, (pss_cons (VX.ps_put (pv 0) (pv 1))
    (pss_one (VX.ps_put (pv 0) (pv 2)))), ?_⟩
    refine ⟨_, rfl, _, rfl, e, A.NoLink, rfl, T.i_NoLink.O, T.i_NoLink.nf _ (by simp), .inl ⟨he, fun d hd hde => ?_⟩⟩
    exact ⟨_, rfl, _, rfl, e, A.NoLink, rfl, T.i_NoLink.O, T.i_NoLink.nf _ (by simp), .inr ⟨d, _, upd_same, (by rw [upd_ne hde]; exact upd_same), (by show 1 ≤ 900; decide), k d hd hde⟩⟩
theorem ok_NameTaken_init (T : Txt K mg A) : FnOk P w K mg base CX0 1 A.f_NameTaken_init A.d_NameTaken_init ["self", "taken"] (sp_NameTaken_init K A) := by
  refine T.F_NameTaken_init.ok sc_NameTaken_init (fun vs H Q E h => ?_) (fun cdv A0 outer s H vs Q E hr h => ?_)
  · obtain ⟨e, y, rfl, he, k⟩ := h
    rfl
  · obtain ⟨e, y, rfl, he, k⟩ := h
    refine ⟨_, (pss_one (VX.ps_put (pv 0) (pv 1))), ?_⟩
    exact ⟨_, rfl, _, rfl, e, A.NameTaken, rfl, T.i_NameTaken.O, T.i_NameTaken.nf _ (by simp), .inl ⟨he, fun d hd hde => k d hd hde⟩⟩
theorem ok_NotGood_init (T : Txt K mg A) : FnOk P w K mg base CX0 1 A.f_NotGood_init A.d_NotGood_init ["self", "first", "second"] (sp_NotGood_init K A) := by
  refine T.F_NotGood_init.ok sc_NotGood_init (fun vs H Q E h => ?_) (fun cdv A0 outer s H vs Q E hr h => ?_)
  · obtain ⟨e, x, y, rfl, he, k⟩ := h
    rfl
  · obtain ⟨e, x, y, rfl, he, k⟩ := h
    refine ⟨_, (pss_cons (VX.ps_put (pv 0) (pv 1))
    (pss_one (VX.ps_put (pv 0) (pv 2)))), ?_⟩
    refine ⟨_, rfl, _, rfl, e, A.NotGood, rfl, T.i_NotGood.O, T.i_NotGood.nf _ (by simp), .inl ⟨he, fun d hd hde => ?_⟩⟩
    exact ⟨_, rfl, _, rfl, e, A.NotGood, rfl, T.i_NotGood.O, T.i_NotGood.nf _ (by simp), .inr ⟨d, _, upd_same, (by rw [upd_ne hde]; exact upd_same), (by show 1 ≤ 900; decide), k d hd hde⟩⟩
theorem ok_TooSlow_init (T : Txt K mg A) : FnOk P w K mg base CX0 1 A.f_TooSlow_init A.d_TooSlow_init ["self", "total"] (sp_TooSlow_init K A) := by
  refine T.F_TooSlow_init.ok sc_TooSlow_init (fun vs H Q E h => ?_) (fun cdv A0 outer s H vs Q E hr h => ?_)
  · obtain ⟨e, y, rfl, he, k⟩ := h
    rfl
  · obtain ⟨e, y, rfl, he, k⟩ := h
    refine ⟨_, (pss_one (VX.ps_put (pv 0) (pv 1))), ?_⟩
    exact ⟨_, rfl, _, rfl, e, A.TooSlow, rfl, T.i_TooSlow.O, T.i_TooSlow.nf _ (by simp), .inl ⟨he, fun d hd hde => k d hd hde⟩⟩
theorem ok_Refused_init (T : Txt K mg A) : FnOk P w K mg base CX0 1 A.f_Refused_init A.d_Refused_init ["self", "refusal"] (sp_Refused_init K A) := by
  refine T.F_Refused_init.ok sc_Refused_init (fun vs H Q E h => ?_) (fun cdv A0 outer s H vs Q E hr h => ?_)
  · obtain ⟨e, y, rfl, he, k⟩ := h
    rfl
  · obtain ⟨e, y, rfl, he, k⟩ := h
    refine ⟨_, (pss_one (VX.ps_put (pv 0) (pv 1))), ?_⟩
    exact ⟨_, rfl, _, rfl, e, A.Refused, rfl, T.i_Refused.O, T.i_Refused.nf _ (by simp), .inl ⟨he, fun d hd hde => k d hd hde⟩⟩
theorem ok_Overfull_init (T : Txt K mg A) : FnOk P w K mg base CX0 1 A.f_Overfull_init A.d_Overfull_init ["self", "at_station", "window"] (sp_Overfull_init K A) := by
  refine T.F_Overfull_init.ok sc_Overfull_init (fun vs H Q E h => ?_) (fun cdv A0 outer s H vs Q E hr h => ?_)
  · obtain ⟨e, x, y, rfl, he, k⟩ := h
    rfl
  · obtain ⟨e, x, y, rfl, he, k⟩ := h
    refine ⟨_, (pss_cons (VX.ps_put (pv 0) (pv 1))
    (pss_one (VX.ps_put (pv 0) (pv 2)))), ?_⟩
    refine ⟨_, rfl, _, rfl, e, A.Overfull, rfl, T.i_Overfull.O, T.i_Overfull.nf _ (by simp), .inl ⟨he, fun d hd hde => ?_⟩⟩
    exact ⟨_, rfl, _, rfl, e, A.Overfull, rfl, T.i_Overfull.O, T.i_Overfull.nf _ (by simp), .inr ⟨d, _, upd_same, (by rw [upd_ne hde]; exact upd_same), (by show 1 ≤ 900; decide), k d hd hde⟩⟩
theorem ok_NoSplits_init (T : Txt K mg A) : FnOk P w K mg base CX0 1 A.f_NoSplits_init A.d_NoSplits_init ["self", "cases"] (sp_NoSplits_init K A) := by
  refine T.F_NoSplits_init.ok sc_NoSplits_init (fun vs H Q E h => ?_) (fun cdv A0 outer s H vs Q E hr h => ?_)
  · obtain ⟨e, y, rfl, he, k⟩ := h
    rfl
  · obtain ⟨e, y, rfl, he, k⟩ := h
    refine ⟨_, (pss_one (VX.ps_put (pv 0) (pv 1))), ?_⟩
    exact ⟨_, rfl, _, rfl, e, A.NoSplits, rfl, T.i_NoSplits.O, T.i_NoSplits.nf _ (by simp), .inl ⟨he, fun d hd hde => k d hd hde⟩⟩
theorem ok_Exposed_init (T : Txt K mg A) : FnOk P w K mg base CX0 1 A.f_Exposed_init A.d_Exposed_init ["self", "danger"] (sp_Exposed_init K A) := by
  refine T.F_Exposed_init.ok sc_Exposed_init (fun vs H Q E h => ?_) (fun cdv A0 outer s H vs Q E hr h => ?_)
  · obtain ⟨e, y, rfl, he, k⟩ := h
    rfl
  · obtain ⟨e, y, rfl, he, k⟩ := h
    refine ⟨_, (pss_one (VX.ps_put (pv 0) (pv 1))), ?_⟩
    exact ⟨_, rfl, _, rfl, e, A.Exposed, rfl, T.i_Exposed.O, T.i_Exposed.nf _ (by simp), .inl ⟨he, fun d hd hde => k d hd hde⟩⟩
theorem ok_NotLate_init (T : Txt K mg A) : FnOk P w K mg base CX0 1 A.f_NotLate_init A.d_NotLate_init ["self", "value"] (sp_NotLate_init K A) := by
  refine T.F_NotLate_init.ok sc_NotLate_init (fun vs H Q E h => ?_) (fun cdv A0 outer s H vs Q E hr h => ?_)
  · obtain ⟨e, y, rfl, he, k⟩ := h
    rfl
  · obtain ⟨e, y, rfl, he, k⟩ := h
    refine ⟨_, (pss_one (VX.ps_put (pv 0) (pv 1))), ?_⟩
    exact ⟨_, rfl, _, rfl, e, A.NotLate, rfl, T.i_NotLate.O, T.i_NotLate.nf _ (by simp), .inl ⟨he, fun d hd hde => k d hd hde⟩⟩
theorem ok_RunFailed_init (T : Txt K mg A) : FnOk P w K mg base CX0 1 A.f_RunFailed_init A.d_RunFailed_init ["self", "position", "results"] (sp_RunFailed_init K A) := by
  refine T.F_RunFailed_init.ok sc_RunFailed_init (fun vs H Q E h => ?_) (fun cdv A0 outer s H vs Q E hr h => ?_)
  · obtain ⟨e, x, y, rfl, he, k⟩ := h
    rfl
  · obtain ⟨e, x, y, rfl, he, k⟩ := h
    refine ⟨_, (pss_cons (VX.ps_put (pv 0) (pv 1))
    (pss_one (VX.ps_put (pv 0) (pv 2)))), ?_⟩
    refine ⟨_, rfl, _, rfl, e, A.RunFailed, rfl, T.i_RunFailed.O, T.i_RunFailed.nf _ (by simp), .inl ⟨he, fun d hd hde => ?_⟩⟩
    exact ⟨_, rfl, _, rfl, e, A.RunFailed, rfl, T.i_RunFailed.O, T.i_RunFailed.nf _ (by simp), .inr ⟨d, _, upd_same, (by rw [upd_ne hde]; exact upd_same), (by show 1 ≤ 900; decide), k d hd hde⟩⟩
theorem ok_TooLong_init (T : Txt K mg A) : FnOk P w K mg base CX0 1 A.f_TooLong_init A.d_TooLong_init ["self", "limit"] (sp_TooLong_init K A) := by
  refine T.F_TooLong_init.ok sc_TooLong_init (fun vs H Q E h => ?_) (fun cdv A0 outer s H vs Q E hr h => ?_)
  · obtain ⟨e, y, rfl, he, k⟩ := h
    rfl
  · obtain ⟨e, y, rfl, he, k⟩ := h
    refine ⟨_, (pss_one (VX.ps_put (pv 0) (pv 1))), ?_⟩
    exact ⟨_, rfl, _, rfl, e, A.TooLong, rfl, T.i_TooLong.O, T.i_TooLong.nf _ (by simp), .inl ⟨he, fun d hd hde => k d hd hde⟩⟩
theorem ok_TooMany_init (T : Txt K mg A) : FnOk P w K mg base CX0 1 A.f_TooMany_init A.d_TooMany_init ["self", "limit"] (sp_TooMany_init K A) := by
  refine T.F_TooMany_init.ok sc_TooMany_init (fun vs H Q E h => ?_) (fun cdv A0 outer s H vs Q E hr h => ?_)
  · obtain ⟨e, y, rfl, he, k⟩ := h
    rfl
  · obtain ⟨e, y, rfl, he, k⟩ := h
    refine ⟨_, (pss_one (VX.ps_put (pv 0) (pv 1))), ?_⟩
    exact ⟨_, rfl, _, rfl, e, A.TooMany, rfl, T.i_TooMany.O, T.i_TooMany.nf _ (by simp), .inl ⟨he, fun d hd hde => k d hd hde⟩⟩
end
end VK


namespace VK
open PySem PySem.Spec PyProof.Rows L2 VM
/-- all but lists stands -/
def Gr (H H' : Hp) : Prop := ∀ b o, H b = some o → (∀ ys, o ≠ .lst ys) → H' b = some o
theorem Gr.refl (H : Hp) : Gr H H := fun _ _ e _ => e
theorem Gr.trans {H H1 H2 : Hp} (a : Gr H H1) (b : Gr H1 H2) : Gr H H2 := fun c o e n => b c o (a c o e n) n
theorem Gr.same {H H' : Hp} (s : Same H H') : Gr H H' := fun b o e _ => s b o e
theorem Gr.put {H : Hp} {l : Addr} {ys : List V} {o : HO} (h : H l = some (.lst ys)) : Gr H (upd H l o) := fun b u e n => by
  have nb : b ≠ l := fun z => by
    rw [z, h] at e
    exact n ys (Option.some.inj e).symm
  rw [upd_ne nb]; exact e
/-- what lies at an error of the class of number i with these attributes -/
def ErF (A : Ad) (H : Hp) (e : Addr) (i : Nat) (vs : List V) : Prop :=
  (fd i = [] ∧ vs = [] ∧ H e = some (exo e (cl A i) none)) ∨ ∃ (d : Addr) (fs : List (Str × V)), H e = some (exo e (cl A i) (some d)) ∧ H d = some (exd d fs) ∧ (fd i).map (fun f => fs.lookup f) = vs.map some
theorem exo_nl {e C : Addr} {d : Option Addr} (ys : List V) : exo e C d ≠ .lst ys := fun q => by unfold exo at q; cases q
theorem exd_nl {d : Addr} {fs : List (Str × V)} (ys : List V) : exd d fs ≠ .lst ys := fun q => by unfold exd at q; cases q
theorem ErF.gr {A : Ad} {H H' : Hp} {e : Addr} {i : Nat} {vs : List V} (g : Gr H H') (h : ErF A H e i vs) : ErF A H' e i vs := by
  rcases h with ⟨a, b, c⟩ | ⟨d, fs, a, b, c⟩
  · exact .inl ⟨a, b, g _ _ c exo_nl⟩
  · exact .inr ⟨d, fs, g _ _ a exo_nl, g _ _ b exd_nl, c⟩
theorem ErF.at {A : Ad} {H : Hp} {e : Addr} {i : Nat} {vs : List V} (h : ErF A H e i vs) : VEv.ErAt H e (cl A i) := by
  rcases h with ⟨a, b, c⟩ | ⟨d, fs, a, b, c⟩
  · exact .inl c
  · exact .inr ⟨d, fs, a, b⟩
/-- what is known of a value -/
structure SR where
  R : Hp → V → Prop
  gr : ∀ {H H' : Hp} {x : V}, Gr H H' → R H x → R H' x
def AllR (H : Hp) : List SR → List V → Prop
  | [], [] => True
  | R :: Rs, x :: xs => R.R H x ∧ AllR H Rs xs
  | _, _ => False
theorem AllR.gr {H H' : Hp} (g : Gr H H') : ∀ {Rs : List SR} {xs : List V}, AllR H Rs xs → AllR H' Rs xs
  | [], [], h => h
  | R :: Rs, x :: xs, h => ⟨R.gr g h.1, AllR.gr g h.2⟩
  | [], _ :: _, h => h.elim
  | _ :: _, [], h => h.elim
theorem AllR.app {H : Hp} : ∀ {Rs Ss : List SR} {xs ys : List V}, AllR H Rs xs → AllR H Ss ys → AllR H (Rs ++ Ss) (xs ++ ys)
  | [], _, [], _, _, h => h
  | _ :: _, _, _ :: _, _, h1, h => ⟨h1.1, AllR.app h1.2 h⟩
  | [], _, _ :: _, _, h, _ => h.elim
  | _ :: _, _, [], _, h, _ => h.elim
theorem AllR.len {H : Hp} : ∀ {Rs : List SR} {xs : List V}, AllR H Rs xs → xs.length = Rs.length
  | [], [], _ => rfl
  | _ :: _, _ :: _, h => congrArg (· + 1) (AllR.len h.2)
  | [], _ :: _, h => h.elim
  | _ :: _, [], h => h.elim
theorem AllR.at {H : Hp} : ∀ {Rs : List SR} {xs : List V}, AllR H Rs xs → ∀ {j : Nat} {R : SR} {x : V}, Rs[j]? = some R → xs[j]? = some x → R.R H x
  | [], [], _, j, R, x, h, _ => by cases h
  | R :: Rs, x :: xs, h, 0, _, _, h1, h2 => by cases h1; cases h2; exact h.1
  | R :: Rs, x :: xs, h, j + 1, _, _, h1, h2 => AllR.at h.2 (j := j) h1 h2
  | [], _ :: _, h, _, _, _, _, _ => h.elim
  | _ :: _, [], h, _, _, _, _, _ => h.elim
def SR.val (v : V) : SR := ⟨fun _ x => x = v, fun _ h => h⟩
def SR.tup (Rs : List SR) : SR := ⟨fun H x => ∃ (t : Addr) (xs : List V), x = .ref t ∧ H t = some (.tup xs) ∧ AllR H Rs xs, fun g ⟨t, xs, e, h, a⟩ => ⟨t, xs, e, g _ _ h (fun _ q => by cases q), a.gr g⟩⟩
def SR.err (A : Ad) (i : Nat) (vs : List V) : SR := ⟨fun H x => ∃ e : Addr, x = .ref e ∧ ErF A H e i vs, fun g ⟨e, q, h⟩ => ⟨e, q, h.gr g⟩⟩
/-- what is given: the names, the heap -/
structure Gd where
  p : L2.St → Hp → Prop
  st : ∀ {σ : L2.St} {H H' : Hp}, Same H H' → p σ H → p σ H'
/-- an expression that makes such a value, of new things alone; an argument list -/
def YE (te : TE) (G : Gd) (R : SR) : Prop := ∀ σ H, G.p σ H → ∀ Q : VK, (∀ x H', Same H H' → R.R H' x → Q x H') → te σ H Q
def YA (ta : TA) (G : Gd) (Rs : List SR) : Prop := ∀ σ H, G.p σ H → ∀ Q : List V → Hp → Prop, (∀ xs H', Same H H' → AllR H' Rs xs → Q xs H') → ta σ H Q
section
variable {G : Gd} {te : TE} {ta : TA} {R : SR} {Rs Ss : List SR} {v x y : V} {A : Ad} {C : Addr} {i : Nat} {f g : Str}
theorem YE.var {j : Nat} (h : ∀ σ H, G.p σ H → σ[j]? = some (some v)) : YE (tVar j) G (SR.val v) := fun σ H g Q k => ⟨v, h σ H g, k v H (Same.refl H) rfl⟩
theorem YE.con : YE (tC v) G (SR.val v) := fun σ H g Q k => k v H (Same.refl H) rfl
theorem YA.nil : YA tNil G [] := fun σ H g Q k => k [] H (Same.refl H) trivial
theorem YA.cons (a : YE te G R) (b : YA ta G Rs) : YA (tCons te ta) G (R :: Rs) := fun σ H g Q k => a σ H g _ fun x H1 s1 r1 => b σ H1 (G.st s1 g) _ fun xs H2 s2 r2 => k (x :: xs) H2 (s1.trans s2) ⟨R.gr (.same s2) r1, r2⟩
theorem YE.tup (a : YA ta G Rs) (hz : Rs.length ≤ sizeLine) : YE (tTup ta) G (SR.tup Rs) := fun σ H g Q k => a σ H g _ fun xs H1 s1 r => ⟨by rw [r.len]; exact hz, fun p hp => k (.ref p) _ (Same.upd s1 (s1.free hp)) ⟨p, xs, rfl, upd_same, r.gr (.same (Same.upd (Same.refl _) hp))⟩⟩
/-- a new list of such values -/
theorem y_lst {σ : L2.St} {H : Hp} {Q : VK} (a : YA ta G Rs) (g : G.p σ H) (hz : Rs.length ≤ sizeLine) (k : ∀ l xs H', Same H H' → H l = none → H' l = some (.lst xs) → AllR H' Rs xs → Q (.ref l) H') : tLst ta σ H Q :=
  a σ H g _ fun xs H1 s1 r => ⟨by rw [r.len]; exact hz, fun p hp => k p xs _ (Same.upd s1 (s1.free hp)) (s1.free hp) upd_same (r.gr (.same (Same.upd (Same.refl _) hp)))⟩
/-- found + [..] -/
theorem y_cat {σ : L2.St} {H : Hp} {Q : VK} {j : Nat} {l : Addr} {xs : List V} (a : YA ta G Ss) (g : G.p σ H) (hj : σ[j]? = some (some (.ref l))) (hl : H l = some (.lst xs)) (h : AllR H Rs xs) (hz : Rs.length + Ss.length ≤ sizeLine)
    (k : ∀ l xs H', Same H H' → H l = none → H' l = some (.lst xs) → AllR H' (Rs ++ Ss) xs → Q (.ref l) H') : tOp rCat (tVar j) (tLst ta) σ H Q := by
  refine ⟨_, hj, y_lst a g (Nat.le_trans (Nat.le_add_left _ _) hz) fun l2 ys H1 s1 n1 e1 r1 => ⟨l, l2, xs, ys, rfl, rfl, s1 _ _ hl, e1, by rw [h.len, r1.len]; exact hz, fun p hp => ?_⟩⟩
  have s2 : Same H1 (upd H1 p (.lst (xs ++ ys))) := Same.upd (Same.refl _) hp
  exact k p _ _ (s1.trans s2) (s1.free hp) upd_same ((h.gr (.same (s1.trans s2))).app (r1.gr (.same s2)))
/-- found.append(e) -/
theorem y_app {K : PySem.W.Frag} {σ : L2.St} {H H0 : Hp} {Q : VK} {j : Nat} {l : Addr} {xs : List V} (a : YE te G R) (g : G.p σ H) (hj : σ[j]? = some (some (.ref l))) (hl : H l = some (.lst xs)) (h : AllR H Rs xs) (hz : Rs.length + 1 ≤ sizeLine) (t : Same H0 H) (n : H0 l = none)
    (k : ∀ xs H', Same H0 H' → H' l = some (.lst xs) → AllR H' (Rs ++ [R]) xs → Q .non H') : tBM K "list" rAppend (tVar j) (tCons te tNil) σ H Q := by
  refine ⟨_, hj, .inl ⟨rfl, xs, SqL.of hl⟩, a σ H g _ fun x H1 s1 r1 => ?_⟩
  have gp : Gr H1 (upd H1 l (.lst (xs ++ [x]))) := Gr.put (s1 _ _ hl)
  exact ⟨l, xs, x, rfl, rfl, s1 _ _ hl, by rw [h.len]; exact hz, k _ _ (Same.upd (t.trans s1) n) upd_same ((h.gr ((Gr.same s1).trans gp)).app ⟨R.gr gp r1, trivial⟩)⟩
theorem s_set {te : TE} {u : TS} {D : Ends} {σ : L2.St} {H : Hp} {i : Nat} (h : te σ H fun x H1 => u D (σ.set i (some x)) H1) : tSeq (tAsg te (gName i)) u D σ H := h
theorem s_drop {te : TE} {u : TS} {D : Ends} {σ : L2.St} {H : Hp} (h : te σ H fun _ H1 => u D σ H1) : tSeq (tDrop te) u D σ H := h
theorem s_ret {te : TE} {D : Ends} {σ : L2.St} {H : Hp} (h : te σ H D.rt) : tRet te D σ H := h
/-! ### errors made -/
theorem map1 {f : Str} {v : V} (hff : (f == f) = true) : [f].map (fun x => [(f, v)].lookup x) = [v].map some := by
  show [[(f, v)].lookup f] = [some v]
  unfold List.lookup
  rw [hff]
theorem init1 {H H1 : Hp} {Q : VK} (hC : cl A i = C) (hf : fd i = [f]) (hff : (f == f) = true) (s : Same H H1) (k : ∀ x H', Same H H' → (SR.err A i [v]).R H' x → Q x H') {a : Addr} (ha : H1 a = none) :
    Init1 C f [.ref a, v] (upd H1 a (exo a C none)) (fun z H3 => z = .non ∧ Q (.ref a) H3) (fun _ _ _ => False) := by
  refine ⟨a, v, rfl, upd_same, fun d hd hda => ⟨rfl, ?_⟩⟩
  rw [upd_ne hda] at hd
  refine k _ _ (fun b o e => ?_) ⟨a, rfl, .inr ⟨d, [(f, v)], by rw [hC]; exact upd_same, by rw [upd_ne hda]; exact upd_same, by rw [hf]; exact map1 hff⟩⟩
  have e1 := s b o e
  rw [upd_ne (ne_of_none e1 ha), upd_ne (ne_of_none e1 hd), upd_ne (ne_of_none e1 ha)]
  exact e1
theorem map2 {f g : Str} {x y : V} (hff : (f == f) = true) (hgg : (g == g) = true) (hfg : (f == g) = false) : [f, g].map (fun z => [(g, y), (f, x)].lookup z) = [x, y].map some := by
  show [[(g, y), (f, x)].lookup f, [(g, y), (f, x)].lookup g] = [some x, some y]
  simp only [List.lookup, hff, hgg, hfg]
theorem init2 {H H1 : Hp} {Q : VK} (hC : cl A i = C) (hf : fd i = [f, g]) (hff : (f == f) = true) (hgg : (g == g) = true) (hfg : (f == g) = false) (s : Same H H1) (k : ∀ z H', Same H H' → (SR.err A i [x, y]).R H' z → Q z H') {a : Addr} (ha : H1 a = none) :
    Init2 C f g [.ref a, x, y] (upd H1 a (exo a C none)) (fun z H3 => z = .non ∧ Q (.ref a) H3) (fun _ _ _ => False) := by
  refine ⟨a, x, y, rfl, upd_same, fun d hd hda => ⟨rfl, ?_⟩⟩
  rw [upd_ne hda] at hd
  have had : a ≠ d := Ne.symm hda
  refine k _ _ (fun b o e => ?_) ⟨a, rfl, .inr ⟨d, [(g, y), (f, x)], by rw [hC, upd_ne had]; exact upd_same, upd_same, by rw [hf]; exact map2 hff hgg hfg⟩⟩
  have e1 := s b o e
  rw [upd_ne (ne_of_none e1 hd), upd_ne (ne_of_none e1 ha), upd_ne (ne_of_none e1 hd), upd_ne (ne_of_none e1 ha)]
  exact e1
theorem init0 {H H1 : Hp} {Q : VK} (hC : cl A i = C) (hf : fd i = []) (s : Same H H1) (k : ∀ z H', Same H H' → (SR.err A i []).R H' z → Q z H') {a : Addr} (ha : H1 a = none) : Q (.ref a) (upd H1 a (exo a C none)) :=
  k _ _ (Same.upd s (s.free ha)) ⟨a, rfl, .inl ⟨hf, rfl, by rw [hC]; exact upd_same⟩⟩
abbrev gApp : List V → List V → List V := fun vs zs => vs ++ zs
theorem YE.newK1 (i : Nat) (f : Str) (hC : cl A i = C) (hf : fd i = [f]) (he : YE te G (SR.val v)) (hff : (f == f) = true := by decide) : YE (VEv.tNewK C 0 1 (Init1 C f) (fun vs zs => vs ++ zs) tNil (tCons te tNil)) G (SR.err A i [v]) := by
  intro σ H g Q k
  refine he σ H g _ fun x H1 s r => ⟨rfl, rfl, by decide, fun a ha => ?_⟩
  obtain rfl : x = v := r
  exact init1 hC hf hff s k ha
theorem YE.newV1 (i : Nat) (f : Str) (hC : cl A i = C) (hf : fd i = [f]) (he : YE te G (SR.val v)) (hff : (f == f) = true := by decide) : YE (VEv.tNewV C (Init1 C f) (tCons te tNil)) G (SR.err A i [v]) := by
  intro σ H g Q k
  refine he σ H g _ fun x H1 s r => ⟨(by show 1 ≤ 1000; decide), fun a ha => ?_⟩
  obtain rfl : x = v := r
  exact init1 hC hf hff s k ha
theorem YE.newK2 {te2 : TE} (i : Nat) (f g : Str) (hC : cl A i = C) (hf : fd i = [f, g]) (he : YE te G (SR.val x)) (he2 : YE te2 G (SR.val y)) (hff : (f == f) = true := by decide) (hgg : (g == g) = true := by decide) (hfg : (f == g) = false := by decide) :
    YE (VEv.tNewK C 0 2 (Init2 C f g) (fun vs zs => vs ++ zs) tNil (tCons te (tCons te2 tNil))) G (SR.err A i [x, y]) := by
  intro σ H g0 Q k
  refine he σ H g0 _ fun x1 H1 s1 r1 => he2 σ H1 (G.st s1 g0) _ fun x2 H2 s2 r2 => ⟨rfl, rfl, by decide, fun a ha => ?_⟩
  obtain rfl : x1 = x := r1
  obtain rfl : x2 = y := r2
  exact init2 hC hf hff hgg hfg (s1.trans s2) k ha
theorem YE.newV2 {te2 : TE} (i : Nat) (f g : Str) (hC : cl A i = C) (hf : fd i = [f, g]) (he : YE te G (SR.val x)) (he2 : YE te2 G (SR.val y)) (hff : (f == f) = true := by decide) (hgg : (g == g) = true := by decide) (hfg : (f == g) = false := by decide) :
    YE (VEv.tNewV C (Init2 C f g) (tCons te (tCons te2 tNil))) G (SR.err A i [x, y]) := by
  intro σ H g0 Q k
  refine he σ H g0 _ fun x1 H1 s1 r1 => he2 σ H1 (G.st s1 g0) _ fun x2 H2 s2 r2 => ⟨(by show 2 ≤ 1000; decide), fun a ha => ?_⟩
  obtain rfl : x1 = x := r1
  obtain rfl : x2 = y := r2
  exact init2 hC hf hff hgg hfg (s1.trans s2) k ha
theorem YE.newB (i : Nat) (hC : cl A i = C) (hf : fd i = []) (he : YE te G (SR.val x)) : YE (VEv.tNewB C te) G (SR.err A i []) := by
  intro σ H g Q k
  exact he σ H g _ fun x1 H1 s1 r1 a ha => init0 hC hf s1 k ha
end
/-! ### the words -/
def wd : Nat → Str
  | 0 => "due"
  | 1 => "lookup"
  | 2 => "run"
  | _ => "sum"
def onesI : List Nat := [1, 2, 3, 4, 5, 6, 7, 8, 9, 11, 12, 13, 14, 15, 16, 17, 21, 22, 23, 24, 25, 27, 29, 30, 34, 35, 36, 38, 39]
def moreI : List Nat := [0, 10, 26, 28, 37, 31, 18, 19, 20, 32, 33]
def oneR (A : Ad) (v : V) (i : Nat) : SR := SR.tup [SR.err A i [v], SR.val (.str (wd (bk i)))]
def mVs (v w : V) (i : Nat) : List V := if fd i = [] then [] else [v, w]
def moreR (A : Ad) (v w : V) (i : Nat) : SR := SR.tup [SR.err A i (mVs v w i), SR.err A i (mVs v w i), SR.val (.str (wd (bk i)))]
def g1 (v : V) : Gd := ⟨fun σ _ => σ[0]? = some (some v), fun _ h => h⟩
def g2 (v w : V) : Gd := ⟨fun σ _ => σ[0]? = some (some v) ∧ σ[1]? = some (some w), fun _ h => h⟩
theorem sz_le {n : Nat} (h : n ≤ 1000) : n ≤ sizeLine := by rw [sizeLine_eq]; omega
section
variable {v w : V} {A : Ad} {C : Addr}
theorem rowK (i : Nat) (f : Str) (hC : cl A i = C) (hf : fd i = [f]) {s : Str} (hs : s = wd (bk i)) (hff : (f == f) = true := by decide) :
    YE (tTup (tCons (VEv.tNewK C 0 1 (Init1 C f) (fun vs zs => vs ++ zs) tNil (tCons (tVar 0) tNil)) (tCons (tC (.str s)) tNil))) (g1 v) (oneR A v i) := by
  subst hs
  exact YE.tup (.cons (.newK1 i f hC hf (.var fun _ _ h => h) hff) (.cons .con .nil)) (sz_le (by show 2 ≤ 1000; decide))
theorem rowV (i : Nat) (f : Str) (hC : cl A i = C) (hf : fd i = [f]) (hff : (f == f) = true := by decide) : YE (VEv.tNewV C (Init1 C f) (tCons (tVar 0) tNil)) (g1 v) (SR.err A i [v]) := .newV1 i f hC hf (.var fun _ _ h => h) hff
theorem rowM2 (i : Nat) (f g : Str) (hC : cl A i = C) (hf : fd i = [f, g]) {s : Str} (hs : s = wd (bk i)) (hff : (f == f) = true := by decide) (hgg : (g == g) = true := by decide) (hfg : (f == g) = false := by decide) :
    YE (tTup (tCons (VEv.tNewK C 0 2 (Init2 C f g) (fun vs zs => vs ++ zs) tNil (tCons (tVar 0) (tCons (tVar 1) tNil))) (tCons (VEv.tNewV C (Init2 C f g) (tCons (tVar 0) (tCons (tVar 1) tNil))) (tCons (tC (.str s)) tNil)))) (g2 v w) (moreR A v w i) := by
  subst hs
  have e : mVs v w i = [v, w] := by unfold mVs; rw [hf]; rfl
  unfold moreR
  rw [e]
  exact YE.tup (.cons (.newK2 i f g hC hf (.var fun _ _ h => h.1) (.var fun _ _ h => h.2) hff hgg hfg) (.cons (.newV2 i f g hC hf (.var fun _ _ h => h.1) (.var fun _ _ h => h.2) hff hgg hfg) (.cons .con .nil))) (sz_le (by show 3 ≤ 1000; decide))
theorem rowM0 (i : Nat) (hC : cl A i = C) (hf : fd i = []) {s s1 s2 : Str} (hs : s = wd (bk i)) :
    YE (tTup (tCons (VEv.tNewB C (tC (.str s1))) (tCons (VEv.tNewB C (tC (.str s2))) (tCons (tC (.str s)) tNil)))) (g2 v w) (moreR A v w i) := by
  subst hs
  have e : mVs v w i = [] := by unfold mVs; rw [hf]; rfl
  unfold moreR
  rw [e]
  exact YE.tup (.cons (.newB i hC hf .con) (.cons (.newB i hC hf .con) (.cons .con .nil))) (sz_le (by show 3 ≤ 1000; decide))
end
end VK


namespace VK
open PySem PySem.Spec PyProof.Rows L2 VM
theorem kb_InvalidCurve {K : PySem.W.Frag} {mg : Str → Option Value} {A : Ad} (T : Txt K mg A) : KBn K A.d_InvalidCurve_init ["self", "problem", "position"] 1 ["problem", "position"] (fun us ws => us ++ ws) (fun vs zs => vs ++ zs) :=
  VG.kb_of T.F_InvalidCurve_init (fun us ws => us ++ ws) (fun a c => a.append c) (fun kV doc pm an cdv ct us ws h1 h2 => match us, ws, h1, h2 with | [_], [_, _], _, _ => rfl)
theorem kb_InvalidPiece {K : PySem.W.Frag} {mg : Str → Option Value} {A : Ad} (T : Txt K mg A) : KBn K A.d_InvalidPiece_init ["self", "position"] 1 ["position"] (fun us ws => us ++ ws) (fun vs zs => vs ++ zs) :=
  VG.kb_of T.F_InvalidPiece_init (fun us ws => us ++ ws) (fun a c => a.append c) (fun kV doc pm an cdv ct us ws h1 h2 => match us, ws, h1, h2 with | [_], [_], _, _ => rfl)
theorem kb_InvalidLength {K : PySem.W.Frag} {mg : Str → Option Value} {A : Ad} (T : Txt K mg A) : KBn K A.d_InvalidLength_init ["self", "value"] 1 ["value"] (fun us ws => us ++ ws) (fun vs zs => vs ++ zs) :=
  VG.kb_of T.F_InvalidLength_init (fun us ws => us ++ ws) (fun a c => a.append c) (fun kV doc pm an cdv ct us ws h1 h2 => match us, ws, h1, h2 with | [_], [_], _, _ => rfl)
theorem kb_InvalidCount {K : PySem.W.Frag} {mg : Str → Option Value} {A : Ad} (T : Txt K mg A) : KBn K A.d_InvalidCount_init ["self", "value"] 1 ["value"] (fun us ws => us ++ ws) (fun vs zs => vs ++ zs) :=
  VG.kb_of T.F_InvalidCount_init (fun us ws => us ++ ws) (fun a c => a.append c) (fun kV doc pm an cdv ct us ws h1 h2 => match us, ws, h1, h2 with | [_], [_], _, _ => rfl)
theorem kb_InvalidRecord {K : PySem.W.Frag} {mg : Str → Option Value} {A : Ad} (T : Txt K mg A) : KBn K A.d_InvalidRecord_init ["self", "position"] 1 ["position"] (fun us ws => us ++ ws) (fun vs zs => vs ++ zs) :=
  VG.kb_of T.F_InvalidRecord_init (fun us ws => us ++ ws) (fun a c => a.append c) (fun kV doc pm an cdv ct us ws h1 h2 => match us, ws, h1, h2 with | [_], [_], _, _ => rfl)
theorem kb_InvalidVisit {K : PySem.W.Frag} {mg : Str → Option Value} {A : Ad} (T : Txt K mg A) : KBn K A.d_InvalidVisit_init ["self", "problem"] 1 ["problem"] (fun us ws => us ++ ws) (fun vs zs => vs ++ zs) :=
  VG.kb_of T.F_InvalidVisit_init (fun us ws => us ++ ws) (fun a c => a.append c) (fun kV doc pm an cdv ct us ws h1 h2 => match us, ws, h1, h2 with | [_], [_], _, _ => rfl)
theorem kb_InvalidVisits {K : PySem.W.Frag} {mg : Str → Option Value} {A : Ad} (T : Txt K mg A) : KBn K A.d_InvalidVisits_init ["self", "position"] 1 ["position"] (fun us ws => us ++ ws) (fun vs zs => vs ++ zs) :=
  VG.kb_of T.F_InvalidVisits_init (fun us ws => us ++ ws) (fun a c => a.append c) (fun kV doc pm an cdv ct us ws h1 h2 => match us, ws, h1, h2 with | [_], [_], _, _ => rfl)
theorem kb_InvalidSupply {K : PySem.W.Frag} {mg : Str → Option Value} {A : Ad} (T : Txt K mg A) : KBn K A.d_InvalidSupply_init ["self", "position"] 1 ["position"] (fun us ws => us ++ ws) (fun vs zs => vs ++ zs) :=
  VG.kb_of T.F_InvalidSupply_init (fun us ws => us ++ ws) (fun a c => a.append c) (fun kV doc pm an cdv ct us ws h1 h2 => match us, ws, h1, h2 with | [_], [_], _, _ => rfl)
theorem kb_InvalidWindow {K : PySem.W.Frag} {mg : Str → Option Value} {A : Ad} (T : Txt K mg A) : KBn K A.d_InvalidWindow_init ["self", "value"] 1 ["value"] (fun us ws => us ++ ws) (fun vs zs => vs ++ zs) :=
  VG.kb_of T.F_InvalidWindow_init (fun us ws => us ++ ws) (fun a c => a.append c) (fun kV doc pm an cdv ct us ws h1 h2 => match us, ws, h1, h2 with | [_], [_], _, _ => rfl)
theorem kb_InvalidStation {K : PySem.W.Frag} {mg : Str → Option Value} {A : Ad} (T : Txt K mg A) : KBn K A.d_InvalidStation_init ["self", "problem"] 1 ["problem"] (fun us ws => us ++ ws) (fun vs zs => vs ++ zs) :=
  VG.kb_of T.F_InvalidStation_init (fun us ws => us ++ ws) (fun a c => a.append c) (fun kV doc pm an cdv ct us ws h1 h2 => match us, ws, h1, h2 with | [_], [_], _, _ => rfl)
theorem kb_InvalidNetwork {K : PySem.W.Frag} {mg : Str → Option Value} {A : Ad} (T : Txt K mg A) : KBn K A.d_InvalidNetwork_init ["self", "problem", "position"] 1 ["problem", "position"] (fun us ws => us ++ ws) (fun vs zs => vs ++ zs) :=
  VG.kb_of T.F_InvalidNetwork_init (fun us ws => us ++ ws) (fun a c => a.append c) (fun kV doc pm an cdv ct us ws h1 h2 => match us, ws, h1, h2 with | [_], [_, _], _, _ => rfl)
theorem kb_InvalidName {K : PySem.W.Frag} {mg : Str → Option Value} {A : Ad} (T : Txt K mg A) : KBn K A.d_InvalidName_init ["self", "value"] 1 ["value"] (fun us ws => us ++ ws) (fun vs zs => vs ++ zs) :=
  VG.kb_of T.F_InvalidName_init (fun us ws => us ++ ws) (fun a c => a.append c) (fun kV doc pm an cdv ct us ws h1 h2 => match us, ws, h1, h2 with | [_], [_], _, _ => rfl)
theorem kb_InvalidPath {K : PySem.W.Frag} {mg : Str → Option Value} {A : Ad} (T : Txt K mg A) : KBn K A.d_InvalidPath_init ["self", "position"] 1 ["position"] (fun us ws => us ++ ws) (fun vs zs => vs ++ zs) :=
  VG.kb_of T.F_InvalidPath_init (fun us ws => us ++ ws) (fun a c => a.append c) (fun kV doc pm an cdv ct us ws h1 h2 => match us, ws, h1, h2 with | [_], [_], _, _ => rfl)
theorem kb_InvalidSplit {K : PySem.W.Frag} {mg : Str → Option Value} {A : Ad} (T : Txt K mg A) : KBn K A.d_InvalidSplit_init ["self", "position"] 1 ["position"] (fun us ws => us ++ ws) (fun vs zs => vs ++ zs) :=
  VG.kb_of T.F_InvalidSplit_init (fun us ws => us ++ ws) (fun a c => a.append c) (fun kV doc pm an cdv ct us ws h1 h2 => match us, ws, h1, h2 with | [_], [_], _, _ => rfl)
theorem kb_InvalidTime {K : PySem.W.Frag} {mg : Str → Option Value} {A : Ad} (T : Txt K mg A) : KBn K A.d_InvalidTime_init ["self", "value"] 1 ["value"] (fun us ws => us ++ ws) (fun vs zs => vs ++ zs) :=
  VG.kb_of T.F_InvalidTime_init (fun us ws => us ++ ws) (fun a c => a.append c) (fun kV doc pm an cdv ct us ws h1 h2 => match us, ws, h1, h2 with | [_], [_], _, _ => rfl)
theorem kb_InvalidTick {K : PySem.W.Frag} {mg : Str → Option Value} {A : Ad} (T : Txt K mg A) : KBn K A.d_InvalidTick_init ["self", "value"] 1 ["value"] (fun us ws => us ++ ws) (fun vs zs => vs ++ zs) :=
  VG.kb_of T.F_InvalidTick_init (fun us ws => us ++ ws) (fun a c => a.append c) (fun kV doc pm an cdv ct us ws h1 h2 => match us, ws, h1, h2 with | [_], [_], _, _ => rfl)
theorem kb_InvalidFault {K : PySem.W.Frag} {mg : Str → Option Value} {A : Ad} (T : Txt K mg A) : KBn K A.d_InvalidFault_init ["self", "problem"] 1 ["problem"] (fun us ws => us ++ ws) (fun vs zs => vs ++ zs) :=
  VG.kb_of T.F_InvalidFault_init (fun us ws => us ++ ws) (fun a c => a.append c) (fun kV doc pm an cdv ct us ws h1 h2 => match us, ws, h1, h2 with | [_], [_], _, _ => rfl)
theorem kb_InvalidFaults {K : PySem.W.Frag} {mg : Str → Option Value} {A : Ad} (T : Txt K mg A) : KBn K A.d_InvalidFaults_init ["self", "position"] 1 ["position"] (fun us ws => us ++ ws) (fun vs zs => vs ++ zs) :=
  VG.kb_of T.F_InvalidFaults_init (fun us ws => us ++ ws) (fun a c => a.append c) (fun kV doc pm an cdv ct us ws h1 h2 => match us, ws, h1, h2 with | [_], [_], _, _ => rfl)
theorem kb_InvalidText {K : PySem.W.Frag} {mg : Str → Option Value} {A : Ad} (T : Txt K mg A) : KBn K A.d_InvalidText_init ["self", "line"] 1 ["line"] (fun us ws => us ++ ws) (fun vs zs => vs ++ zs) :=
  VG.kb_of T.F_InvalidText_init (fun us ws => us ++ ws) (fun a c => a.append c) (fun kV doc pm an cdv ct us ws h1 h2 => match us, ws, h1, h2 with | [_], [_], _, _ => rfl)
theorem kb_InvalidCommand {K : PySem.W.Frag} {mg : Str → Option Value} {A : Ad} (T : Txt K mg A) : KBn K A.d_InvalidCommand_init ["self", "value"] 1 ["value"] (fun us ws => us ++ ws) (fun vs zs => vs ++ zs) :=
  VG.kb_of T.F_InvalidCommand_init (fun us ws => us ++ ws) (fun a c => a.append c) (fun kV doc pm an cdv ct us ws h1 h2 => match us, ws, h1, h2 with | [_], [_], _, _ => rfl)
theorem kb_UnknownStation {K : PySem.W.Frag} {mg : Str → Option Value} {A : Ad} (T : Txt K mg A) : KBn K A.d_UnknownStation_init ["self", "value"] 1 ["value"] (fun us ws => us ++ ws) (fun vs zs => vs ++ zs) :=
  VG.kb_of T.F_UnknownStation_init (fun us ws => us ++ ws) (fun a c => a.append c) (fun kV doc pm an cdv ct us ws h1 h2 => match us, ws, h1, h2 with | [_], [_], _, _ => rfl)
theorem kb_UnknownStream {K : PySem.W.Frag} {mg : Str → Option Value} {A : Ad} (T : Txt K mg A) : KBn K A.d_UnknownStream_init ["self", "value"] 1 ["value"] (fun us ws => us ++ ws) (fun vs zs => vs ++ zs) :=
  VG.kb_of T.F_UnknownStream_init (fun us ws => us ++ ws) (fun a c => a.append c) (fun kV doc pm an cdv ct us ws h1 h2 => match us, ws, h1, h2 with | [_], [_], _, _ => rfl)
theorem kb_UnknownUnit {K : PySem.W.Frag} {mg : Str → Option Value} {A : Ad} (T : Txt K mg A) : KBn K A.d_UnknownUnit_init ["self", "value"] 1 ["value"] (fun us ws => us ++ ws) (fun vs zs => vs ++ zs) :=
  VG.kb_of T.F_UnknownUnit_init (fun us ws => us ++ ws) (fun a c => a.append c) (fun kV doc pm an cdv ct us ws h1 h2 => match us, ws, h1, h2 with | [_], [_], _, _ => rfl)
theorem kb_NoLink {K : PySem.W.Frag} {mg : Str → Option Value} {A : Ad} (T : Txt K mg A) : KBn K A.d_NoLink_init ["self", "source", "target"] 1 ["source", "target"] (fun us ws => us ++ ws) (fun vs zs => vs ++ zs) :=
  VG.kb_of T.F_NoLink_init (fun us ws => us ++ ws) (fun a c => a.append c) (fun kV doc pm an cdv ct us ws h1 h2 => match us, ws, h1, h2 with | [_], [_, _], _, _ => rfl)
theorem kb_NameTaken {K : PySem.W.Frag} {mg : Str → Option Value} {A : Ad} (T : Txt K mg A) : KBn K A.d_NameTaken_init ["self", "taken"] 1 ["taken"] (fun us ws => us ++ ws) (fun vs zs => vs ++ zs) :=
  VG.kb_of T.F_NameTaken_init (fun us ws => us ++ ws) (fun a c => a.append c) (fun kV doc pm an cdv ct us ws h1 h2 => match us, ws, h1, h2 with | [_], [_], _, _ => rfl)
theorem kb_NotGood {K : PySem.W.Frag} {mg : Str → Option Value} {A : Ad} (T : Txt K mg A) : KBn K A.d_NotGood_init ["self", "first", "second"] 1 ["first", "second"] (fun us ws => us ++ ws) (fun vs zs => vs ++ zs) :=
  VG.kb_of T.F_NotGood_init (fun us ws => us ++ ws) (fun a c => a.append c) (fun kV doc pm an cdv ct us ws h1 h2 => match us, ws, h1, h2 with | [_], [_, _], _, _ => rfl)
theorem kb_TooSlow {K : PySem.W.Frag} {mg : Str → Option Value} {A : Ad} (T : Txt K mg A) : KBn K A.d_TooSlow_init ["self", "total"] 1 ["total"] (fun us ws => us ++ ws) (fun vs zs => vs ++ zs) :=
  VG.kb_of T.F_TooSlow_init (fun us ws => us ++ ws) (fun a c => a.append c) (fun kV doc pm an cdv ct us ws h1 h2 => match us, ws, h1, h2 with | [_], [_], _, _ => rfl)
theorem kb_Refused {K : PySem.W.Frag} {mg : Str → Option Value} {A : Ad} (T : Txt K mg A) : KBn K A.d_Refused_init ["self", "refusal"] 1 ["refusal"] (fun us ws => us ++ ws) (fun vs zs => vs ++ zs) :=
  VG.kb_of T.F_Refused_init (fun us ws => us ++ ws) (fun a c => a.append c) (fun kV doc pm an cdv ct us ws h1 h2 => match us, ws, h1, h2 with | [_], [_], _, _ => rfl)
theorem kb_Overfull {K : PySem.W.Frag} {mg : Str → Option Value} {A : Ad} (T : Txt K mg A) : KBn K A.d_Overfull_init ["self", "at_station", "window"] 1 ["at_station", "window"] (fun us ws => us ++ ws) (fun vs zs => vs ++ zs) :=
  VG.kb_of T.F_Overfull_init (fun us ws => us ++ ws) (fun a c => a.append c) (fun kV doc pm an cdv ct us ws h1 h2 => match us, ws, h1, h2 with | [_], [_, _], _, _ => rfl)
theorem kb_NoSplits {K : PySem.W.Frag} {mg : Str → Option Value} {A : Ad} (T : Txt K mg A) : KBn K A.d_NoSplits_init ["self", "cases"] 1 ["cases"] (fun us ws => us ++ ws) (fun vs zs => vs ++ zs) :=
  VG.kb_of T.F_NoSplits_init (fun us ws => us ++ ws) (fun a c => a.append c) (fun kV doc pm an cdv ct us ws h1 h2 => match us, ws, h1, h2 with | [_], [_], _, _ => rfl)
theorem kb_Exposed {K : PySem.W.Frag} {mg : Str → Option Value} {A : Ad} (T : Txt K mg A) : KBn K A.d_Exposed_init ["self", "danger"] 1 ["danger"] (fun us ws => us ++ ws) (fun vs zs => vs ++ zs) :=
  VG.kb_of T.F_Exposed_init (fun us ws => us ++ ws) (fun a c => a.append c) (fun kV doc pm an cdv ct us ws h1 h2 => match us, ws, h1, h2 with | [_], [_], _, _ => rfl)
theorem kb_NotLate {K : PySem.W.Frag} {mg : Str → Option Value} {A : Ad} (T : Txt K mg A) : KBn K A.d_NotLate_init ["self", "value"] 1 ["value"] (fun us ws => us ++ ws) (fun vs zs => vs ++ zs) :=
  VG.kb_of T.F_NotLate_init (fun us ws => us ++ ws) (fun a c => a.append c) (fun kV doc pm an cdv ct us ws h1 h2 => match us, ws, h1, h2 with | [_], [_], _, _ => rfl)
theorem kb_RunFailed {K : PySem.W.Frag} {mg : Str → Option Value} {A : Ad} (T : Txt K mg A) : KBn K A.d_RunFailed_init ["self", "position", "results"] 1 ["position", "results"] (fun us ws => us ++ ws) (fun vs zs => vs ++ zs) :=
  VG.kb_of T.F_RunFailed_init (fun us ws => us ++ ws) (fun a c => a.append c) (fun kV doc pm an cdv ct us ws h1 h2 => match us, ws, h1, h2 with | [_], [_, _], _, _ => rfl)
theorem kb_TooLong {K : PySem.W.Frag} {mg : Str → Option Value} {A : Ad} (T : Txt K mg A) : KBn K A.d_TooLong_init ["self", "limit"] 1 ["limit"] (fun us ws => us ++ ws) (fun vs zs => vs ++ zs) :=
  VG.kb_of T.F_TooLong_init (fun us ws => us ++ ws) (fun a c => a.append c) (fun kV doc pm an cdv ct us ws h1 h2 => match us, ws, h1, h2 with | [_], [_], _, _ => rfl)
theorem kb_TooMany {K : PySem.W.Frag} {mg : Str → Option Value} {A : Ad} (T : Txt K mg A) : KBn K A.d_TooMany_init ["self", "limit"] 1 ["limit"] (fun us ws => us ++ ws) (fun vs zs => vs ++ zs) :=
  VG.kb_of T.F_TooMany_init (fun us ws => us ++ ws) (fun a c => a.append c) (fun kV doc pm an cdv ct us ws h1 h2 => match us, ws, h1, h2 with | [_], [_], _, _ => rfl)
def sp_l_ones (_ : PySem.W.Frag) (A : Ad) : Sp := fun vs H Q _ => ∃ v, vs = [v] ∧ ∀ l xs H', Same H H' → H l = none → H' l = some (.lst xs) → AllR H' (onesI.map (oneR A v)) xs → Q (.ref l) H'
def sp_l_ones_by_place (_ : PySem.W.Frag) (A : Ad) : Sp := fun vs H Q _ => ∃ v, vs = [v] ∧ ∀ l xs H', Same H H' → H l = none → H' l = some (.lst xs) → AllR H' (onesI.map fun i => SR.err A i [v]) xs → Q (.ref l) H'
def sp_l_more (_ : PySem.W.Frag) (A : Ad) : Sp := fun vs H Q _ => ∃ v w, vs = [v, w] ∧ ∀ l xs H', Same H H' → H l = none → H' l = some (.lst xs) → AllR H' (moreI.map (moreR A v w)) xs → Q (.ref l) H'
section
variable {P : Program} {w : World} {K : PySem.W.Frag} {mg : Str → Option Value} {base : Heap} {A : Ad}
theorem ok_l_ones (T : Txt K mg A) : FnOk P w K mg base CX0 3 A.f_l_ones A.d_l_ones ["_law_thing_here"] (sp_l_ones K A) := by
  have G_Exposed_init := ok_Exposed_init (P := P) (w := w) (base := base) T
  have G_InvalidCommand_init := ok_InvalidCommand_init (P := P) (w := w) (base := base) T
  have G_InvalidCount_init := ok_InvalidCount_init (P := P) (w := w) (base := base) T
  have G_InvalidFault_init := ok_InvalidFault_init (P := P) (w := w) (base := base) T
  have G_InvalidFaults_init := ok_InvalidFaults_init (P := P) (w := w) (base := base) T
  have G_InvalidLength_init := ok_InvalidLength_init (P := P) (w := w) (base := base) T
  have G_InvalidName_init := ok_InvalidName_init (P := P) (w := w) (base := base) T
  have G_InvalidPath_init := ok_InvalidPath_init (P := P) (w := w) (base := base) T
  have G_InvalidPiece_init := ok_InvalidPiece_init (P := P) (w := w) (base := base) T
  have G_InvalidRecord_init := ok_InvalidRecord_init (P := P) (w := w) (base := base) T
  have G_InvalidSplit_init := ok_InvalidSplit_init (P := P) (w := w) (base := base) T
  have G_InvalidStation_init := ok_InvalidStation_init (P := P) (w := w) (base := base) T
  have G_InvalidSupply_init := ok_InvalidSupply_init (P := P) (w := w) (base := base) T
  have G_InvalidText_init := ok_InvalidText_init (P := P) (w := w) (base := base) T
  have G_InvalidTick_init := ok_InvalidTick_init (P := P) (w := w) (base := base) T
  have G_InvalidTime_init := ok_InvalidTime_init (P := P) (w := w) (base := base) T
  have G_InvalidVisit_init := ok_InvalidVisit_init (P := P) (w := w) (base := base) T
  have G_InvalidVisits_init := ok_InvalidVisits_init (P := P) (w := w) (base := base) T
  have G_InvalidWindow_init := ok_InvalidWindow_init (P := P) (w := w) (base := base) T
  have G_NameTaken_init := ok_NameTaken_init (P := P) (w := w) (base := base) T
  have G_NoSplits_init := ok_NoSplits_init (P := P) (w := w) (base := base) T
  have G_NotLate_init := ok_NotLate_init (P := P) (w := w) (base := base) T
  have G_Refused_init := ok_Refused_init (P := P) (w := w) (base := base) T
  have G_TooLong_init := ok_TooLong_init (P := P) (w := w) (base := base) T
  have G_TooMany_init := ok_TooMany_init (P := P) (w := w) (base := base) T
  have G_TooSlow_init := ok_TooSlow_init (P := P) (w := w) (base := base) T
  have G_UnknownStation_init := ok_UnknownStation_init (P := P) (w := w) (base := base) T
  have G_UnknownStream_init := ok_UnknownStream_init (P := P) (w := w) (base := base) T
  have G_UnknownUnit_init := ok_UnknownUnit_init (P := P) (w := w) (base := base) T
  have kb_InvalidPiece_position := kb_InvalidPiece T
  have kb_InvalidLength_value := kb_InvalidLength T
  have kb_InvalidCount_value := kb_InvalidCount T
  have kb_InvalidRecord_position := kb_InvalidRecord T
  have kb_InvalidVisit_problem := kb_InvalidVisit T
  have kb_InvalidVisits_position := kb_InvalidVisits T
  have kb_InvalidSupply_position := kb_InvalidSupply T
  have kb_InvalidWindow_value := kb_InvalidWindow T
  have kb_InvalidStation_problem := kb_InvalidStation T
  have kb_InvalidName_value := kb_InvalidName T
  have kb_InvalidPath_position := kb_InvalidPath T
  have kb_InvalidSplit_position := kb_InvalidSplit T
  have kb_InvalidTime_value := kb_InvalidTime T
  have kb_InvalidTick_value := kb_InvalidTick T
  have kb_InvalidFault_problem := kb_InvalidFault T
  have kb_InvalidFaults_position := kb_InvalidFaults T
  have kb_InvalidText_line := kb_InvalidText T
  have kb_InvalidCommand_value := kb_InvalidCommand T
  have kb_UnknownStation_value := kb_UnknownStation T
  have kb_UnknownStream_value := kb_UnknownStream T
  have kb_UnknownUnit_value := kb_UnknownUnit T
  have kb_NameTaken_taken := kb_NameTaken T
  have kb_TooSlow_total := kb_TooSlow T
  have kb_Refused_refusal := kb_Refused T
  have kb_NoSplits_cases := kb_NoSplits T
  have kb_Exposed_danger := kb_Exposed T
  have kb_NotLate_value := kb_NotLate T
  have kb_TooLong_limit := kb_TooLong T
  have kb_TooMany_limit := kb_TooMany T
  refine T.F_l_ones.ok sc_l_ones (fun vs H Q E h => ?_) (fun cdv A0 outer s H vs Q E hr h => ?_)
  · obtain ⟨v, rfl, q⟩ := h
    rfl
  · obtain ⟨v, rfl, q⟩ := h
    refine ⟨_, (pss_cons (ps_set (i := 1) sc_l_ones.nd rfl (by first | exact Or.inl rfl | exact Or.inr rfl) (pe_lst (pa_cons (pe_tup (pa_cons (VEv.pe_newK0 T.i_InvalidPiece.O T.i_InvalidPiece.iC T.i_InvalidPiece.tI G_InvalidPiece_init (hr.mono (by decide)) rfl T.e_InvalidPiece.m kb_InvalidPiece_position pass0 (pk_cons (pv 0) pk_nil)) (pa_cons pe_str pa_nil))) (pa_cons (pe_tup (pa_cons (VEv.pe_newK0 T.i_InvalidLength.O T.i_InvalidLength.iC T.i_InvalidLength.tI G_InvalidLength_init (hr.mono (by decide)) rfl T.e_InvalidLength.m kb_InvalidLength_value pass0 (pk_cons (pv 0) pk_nil)) (pa_cons pe_str pa_nil))) pa_nil))))
    (pss_cons (ps_set (i := 1) sc_l_ones.nd rfl (by first | exact Or.inl rfl | exact Or.inr rfl) (pe_op op_cat (pv 1) (pe_lst (pa_cons (pe_tup (pa_cons (VEv.pe_newK0 T.i_InvalidCount.O T.i_InvalidCount.iC T.i_InvalidCount.tI G_InvalidCount_init (hr.mono (by decide)) rfl T.e_InvalidCount.m kb_InvalidCount_value pass0 (pk_cons (pv 0) pk_nil)) (pa_cons pe_str pa_nil))) (pa_cons (pe_tup (pa_cons (VEv.pe_newK0 T.i_InvalidRecord.O T.i_InvalidRecord.iC T.i_InvalidRecord.tI G_InvalidRecord_init (hr.mono (by decide)) rfl T.e_InvalidRecord.m kb_InvalidRecord_position pass0 (pk_cons (pv 0) pk_nil)) (pa_cons pe_str pa_nil))) pa_nil)))))
    (pss_cons (ps_set (i := 1) sc_l_ones.nd rfl (by first | exact Or.inl rfl | exact Or.inr rfl) (pe_op op_cat (pv 1) (pe_lst (pa_cons (pe_tup (pa_cons (VEv.pe_newK0 T.i_InvalidVisit.O T.i_InvalidVisit.iC T.i_InvalidVisit.tI G_InvalidVisit_init (hr.mono (by decide)) rfl T.e_InvalidVisit.m kb_InvalidVisit_problem pass0 (pk_cons (pv 0) pk_nil)) (pa_cons pe_str pa_nil))) (pa_cons (pe_tup (pa_cons (VEv.pe_newK0 T.i_InvalidVisits.O T.i_InvalidVisits.iC T.i_InvalidVisits.tI G_InvalidVisits_init (hr.mono (by decide)) rfl T.e_InvalidVisits.m kb_InvalidVisits_position pass0 (pk_cons (pv 0) pk_nil)) (pa_cons pe_str pa_nil))) pa_nil)))))
    (pss_cons (ps_set (i := 1) sc_l_ones.nd rfl (by first | exact Or.inl rfl | exact Or.inr rfl) (pe_op op_cat (pv 1) (pe_lst (pa_cons (pe_tup (pa_cons (VEv.pe_newK0 T.i_InvalidSupply.O T.i_InvalidSupply.iC T.i_InvalidSupply.tI G_InvalidSupply_init (hr.mono (by decide)) rfl T.e_InvalidSupply.m kb_InvalidSupply_position pass0 (pk_cons (pv 0) pk_nil)) (pa_cons pe_str pa_nil))) (pa_cons (pe_tup (pa_cons (VEv.pe_newK0 T.i_InvalidWindow.O T.i_InvalidWindow.iC T.i_InvalidWindow.tI G_InvalidWindow_init (hr.mono (by decide)) rfl T.e_InvalidWindow.m kb_InvalidWindow_value pass0 (pk_cons (pv 0) pk_nil)) (pa_cons pe_str pa_nil))) pa_nil)))))
    (pss_cons (ps_set (i := 1) sc_l_ones.nd rfl (by first | exact Or.inl rfl | exact Or.inr rfl) (pe_op op_cat (pv 1) (pe_lst (pa_cons (pe_tup (pa_cons (VEv.pe_newK0 T.i_InvalidStation.O T.i_InvalidStation.iC T.i_InvalidStation.tI G_InvalidStation_init (hr.mono (by decide)) rfl T.e_InvalidStation.m kb_InvalidStation_problem pass0 (pk_cons (pv 0) pk_nil)) (pa_cons pe_str pa_nil))) (pa_cons (pe_tup (pa_cons (VEv.pe_newK0 T.i_InvalidName.O T.i_InvalidName.iC T.i_InvalidName.tI G_InvalidName_init (hr.mono (by decide)) rfl T.e_InvalidName.m kb_InvalidName_value pass0 (pk_cons (pv 0) pk_nil)) (pa_cons pe_str pa_nil))) pa_nil)))))
    (pss_cons (ps_set (i := 1) sc_l_ones.nd rfl (by first | exact Or.inl rfl | exact Or.inr rfl) (pe_op op_cat (pv 1) (pe_lst (pa_cons (pe_tup (pa_cons (VEv.pe_newK0 T.i_InvalidPath.O T.i_InvalidPath.iC T.i_InvalidPath.tI G_InvalidPath_init (hr.mono (by decide)) rfl T.e_InvalidPath.m kb_InvalidPath_position pass0 (pk_cons (pv 0) pk_nil)) (pa_cons pe_str pa_nil))) (pa_cons (pe_tup (pa_cons (VEv.pe_newK0 T.i_InvalidSplit.O T.i_InvalidSplit.iC T.i_InvalidSplit.tI G_InvalidSplit_init (hr.mono (by decide)) rfl T.e_InvalidSplit.m kb_InvalidSplit_position pass0 (pk_cons (pv 0) pk_nil)) (pa_cons pe_str pa_nil))) pa_nil)))))
    (pss_cons (ps_set (i := 1) sc_l_ones.nd rfl (by first | exact Or.inl rfl | exact Or.inr rfl) (pe_op op_cat (pv 1) (pe_lst (pa_cons (pe_tup (pa_cons (VEv.pe_newK0 T.i_InvalidTime.O T.i_InvalidTime.iC T.i_InvalidTime.tI G_InvalidTime_init (hr.mono (by decide)) rfl T.e_InvalidTime.m kb_InvalidTime_value pass0 (pk_cons (pv 0) pk_nil)) (pa_cons pe_str pa_nil))) (pa_cons (pe_tup (pa_cons (VEv.pe_newK0 T.i_InvalidTick.O T.i_InvalidTick.iC T.i_InvalidTick.tI G_InvalidTick_init (hr.mono (by decide)) rfl T.e_InvalidTick.m kb_InvalidTick_value pass0 (pk_cons (pv 0) pk_nil)) (pa_cons pe_str pa_nil))) pa_nil)))))
    (pss_cons (ps_set (i := 1) sc_l_ones.nd rfl (by first | exact Or.inl rfl | exact Or.inr rfl) (pe_op op_cat (pv 1) (pe_lst (pa_cons (pe_tup (pa_cons (VEv.pe_newK0 T.i_InvalidFault.O T.i_InvalidFault.iC T.i_InvalidFault.tI G_InvalidFault_init (hr.mono (by decide)) rfl T.e_InvalidFault.m kb_InvalidFault_problem pass0 (pk_cons (pv 0) pk_nil)) (pa_cons pe_str pa_nil))) (pa_cons (pe_tup (pa_cons (VEv.pe_newK0 T.i_InvalidFaults.O T.i_InvalidFaults.iC T.i_InvalidFaults.tI G_InvalidFaults_init (hr.mono (by decide)) rfl T.e_InvalidFaults.m kb_InvalidFaults_position pass0 (pk_cons (pv 0) pk_nil)) (pa_cons pe_str pa_nil))) pa_nil)))))
    (pss_cons (ps_set (i := 1) sc_l_ones.nd rfl (by first | exact Or.inl rfl | exact Or.inr rfl) (pe_op op_cat (pv 1) (pe_lst (pa_cons (pe_tup (pa_cons (VEv.pe_newK0 T.i_InvalidText.O T.i_InvalidText.iC T.i_InvalidText.tI G_InvalidText_init (hr.mono (by decide)) rfl T.e_InvalidText.m kb_InvalidText_line pass0 (pk_cons (pv 0) pk_nil)) (pa_cons pe_str pa_nil))) (pa_cons (pe_tup (pa_cons (VEv.pe_newK0 T.i_InvalidCommand.O T.i_InvalidCommand.iC T.i_InvalidCommand.tI G_InvalidCommand_init (hr.mono (by decide)) rfl T.e_InvalidCommand.m kb_InvalidCommand_value pass0 (pk_cons (pv 0) pk_nil)) (pa_cons pe_str pa_nil))) pa_nil)))))
    (pss_cons (ps_set (i := 1) sc_l_ones.nd rfl (by first | exact Or.inl rfl | exact Or.inr rfl) (pe_op op_cat (pv 1) (pe_lst (pa_cons (pe_tup (pa_cons (VEv.pe_newK0 T.i_UnknownStation.O T.i_UnknownStation.iC T.i_UnknownStation.tI G_UnknownStation_init (hr.mono (by decide)) rfl T.e_UnknownStation.m kb_UnknownStation_value pass0 (pk_cons (pv 0) pk_nil)) (pa_cons pe_str pa_nil))) (pa_cons (pe_tup (pa_cons (VEv.pe_newK0 T.i_UnknownStream.O T.i_UnknownStream.iC T.i_UnknownStream.tI G_UnknownStream_init (hr.mono (by decide)) rfl T.e_UnknownStream.m kb_UnknownStream_value pass0 (pk_cons (pv 0) pk_nil)) (pa_cons pe_str pa_nil))) pa_nil)))))
    (pss_cons (ps_set (i := 1) sc_l_ones.nd rfl (by first | exact Or.inl rfl | exact Or.inr rfl) (pe_op op_cat (pv 1) (pe_lst (pa_cons (pe_tup (pa_cons (VEv.pe_newK0 T.i_UnknownUnit.O T.i_UnknownUnit.iC T.i_UnknownUnit.tI G_UnknownUnit_init (hr.mono (by decide)) rfl T.e_UnknownUnit.m kb_UnknownUnit_value pass0 (pk_cons (pv 0) pk_nil)) (pa_cons pe_str pa_nil))) (pa_cons (pe_tup (pa_cons (VEv.pe_newK0 T.i_NameTaken.O T.i_NameTaken.iC T.i_NameTaken.tI G_NameTaken_init (hr.mono (by decide)) rfl T.e_NameTaken.m kb_NameTaken_taken pass0 (pk_cons (pv 0) pk_nil)) (pa_cons pe_str pa_nil))) pa_nil)))))
    (pss_cons (ps_set (i := 1) sc_l_ones.nd rfl (by first | exact Or.inl rfl | exact Or.inr rfl) (pe_op op_cat (pv 1) (pe_lst (pa_cons (pe_tup (pa_cons (VEv.pe_newK0 T.i_TooSlow.O T.i_TooSlow.iC T.i_TooSlow.tI G_TooSlow_init (hr.mono (by decide)) rfl T.e_TooSlow.m kb_TooSlow_total pass0 (pk_cons (pv 0) pk_nil)) (pa_cons pe_str pa_nil))) (pa_cons (pe_tup (pa_cons (VEv.pe_newK0 T.i_Refused.O T.i_Refused.iC T.i_Refused.tI G_Refused_init (hr.mono (by decide)) rfl T.e_Refused.m kb_Refused_refusal pass0 (pk_cons (pv 0) pk_nil)) (pa_cons pe_str pa_nil))) (pa_cons (pe_tup (pa_cons (VEv.pe_newK0 T.i_NoSplits.O T.i_NoSplits.iC T.i_NoSplits.tI G_NoSplits_init (hr.mono (by decide)) rfl T.e_NoSplits.m kb_NoSplits_cases pass0 (pk_cons (pv 0) pk_nil)) (pa_cons pe_str pa_nil))) pa_nil))))))
    (pss_cons (ps_set (i := 1) sc_l_ones.nd rfl (by first | exact Or.inl rfl | exact Or.inr rfl) (pe_op op_cat (pv 1) (pe_lst (pa_cons (pe_tup (pa_cons (VEv.pe_newK0 T.i_Exposed.O T.i_Exposed.iC T.i_Exposed.tI G_Exposed_init (hr.mono (by decide)) rfl T.e_Exposed.m kb_Exposed_danger pass0 (pk_cons (pv 0) pk_nil)) (pa_cons pe_str pa_nil))) (pa_cons (pe_tup (pa_cons (VEv.pe_newK0 T.i_NotLate.O T.i_NotLate.iC T.i_NotLate.tI G_NotLate_init (hr.mono (by decide)) rfl T.e_NotLate.m kb_NotLate_value pass0 (pk_cons (pv 0) pk_nil)) (pa_cons pe_str pa_nil))) pa_nil)))))
    (pss_one (ps_ret (pe_op op_cat (pv 1) (pe_lst (pa_cons (pe_tup (pa_cons (VEv.pe_newK0 T.i_TooLong.O T.i_TooLong.iC T.i_TooLong.tI G_TooLong_init (hr.mono (by decide)) rfl T.e_TooLong.m kb_TooLong_limit pass0 (pk_cons (pv 0) pk_nil)) (pa_cons pe_str pa_nil))) (pa_cons (pe_tup (pa_cons (VEv.pe_newK0 T.i_TooMany.O T.i_TooMany.iC T.i_TooMany.tI G_TooMany_init (hr.mono (by decide)) rfl T.e_TooMany.m kb_TooMany_limit pass0 (pk_cons (pv 0) pk_nil)) (pa_cons pe_str pa_nil))) pa_nil))))))))))))))))))), ?_⟩
    refine s_set ?_
    refine y_lst (G := g1 v) (Rs := [oneR A v 1, oneR A v 2]) ?y0 rfl (sz_le (by show 2 ≤ 1000; decide)) fun l0 xs0 H0 s0 n0 e0 r0 => ?_
    case y0 => exact (.cons (rowK 1 "position" rfl rfl rfl) (.cons (rowK 2 "value" rfl rfl rfl) .nil))
    have t0 := s0
    refine s_set ?_
    refine y_cat (G := g1 v) (Ss := [oneR A v 3, oneR A v 4]) ?y1 rfl rfl e0 r0 (sz_le (by show 2 + 2 ≤ 1000; decide)) fun l1 xs1 H1 s1 n1 e1 r1 => ?_
    case y1 => exact (.cons (rowK 3 "value" rfl rfl rfl) (.cons (rowK 4 "position" rfl rfl rfl) .nil))
    have t1 := t0.trans s1
    have n1 := t0.free n1
    refine s_set ?_
    refine y_cat (G := g1 v) (Ss := [oneR A v 5, oneR A v 6]) ?y2 rfl rfl e1 r1 (sz_le (by show 4 + 2 ≤ 1000; decide)) fun l2 xs2 H2 s2 n2 e2 r2 => ?_
    case y2 => exact (.cons (rowK 5 "problem" rfl rfl rfl) (.cons (rowK 6 "position" rfl rfl rfl) .nil))
    have t2 := t1.trans s2
    have n2 := t1.free n2
    refine s_set ?_
    refine y_cat (G := g1 v) (Ss := [oneR A v 7, oneR A v 8]) ?y3 rfl rfl e2 r2 (sz_le (by show 6 + 2 ≤ 1000; decide)) fun l3 xs3 H3 s3 n3 e3 r3 => ?_
    case y3 => exact (.cons (rowK 7 "position" rfl rfl rfl) (.cons (rowK 8 "value" rfl rfl rfl) .nil))
    have t3 := t2.trans s3
    have n3 := t2.free n3
    refine s_set ?_
    refine y_cat (G := g1 v) (Ss := [oneR A v 9, oneR A v 11]) ?y4 rfl rfl e3 r3 (sz_le (by show 8 + 2 ≤ 1000; decide)) fun l4 xs4 H4 s4 n4 e4 r4 => ?_
    case y4 => exact (.cons (rowK 9 "problem" rfl rfl rfl) (.cons (rowK 11 "value" rfl rfl rfl) .nil))
    have t4 := t3.trans s4
    have n4 := t3.free n4
    refine s_set ?_
    refine y_cat (G := g1 v) (Ss := [oneR A v 12, oneR A v 13]) ?y5 rfl rfl e4 r4 (sz_le (by show 10 + 2 ≤ 1000; decide)) fun l5 xs5 H5 s5 n5 e5 r5 => ?_
    case y5 => exact (.cons (rowK 12 "position" rfl rfl rfl) (.cons (rowK 13 "position" rfl rfl rfl) .nil))
    have t5 := t4.trans s5
    have n5 := t4.free n5
    refine s_set ?_
    refine y_cat (G := g1 v) (Ss := [oneR A v 14, oneR A v 15]) ?y6 rfl rfl e5 r5 (sz_le (by show 12 + 2 ≤ 1000; decide)) fun l6 xs6 H6 s6 n6 e6 r6 => ?_
    case y6 => exact (.cons (rowK 14 "value" rfl rfl rfl) (.cons (rowK 15 "value" rfl rfl rfl) .nil))
    have t6 := t5.trans s6
    have n6 := t5.free n6
    refine s_set ?_
    refine y_cat (G := g1 v) (Ss := [oneR A v 16, oneR A v 17]) ?y7 rfl rfl e6 r6 (sz_le (by show 14 + 2 ≤ 1000; decide)) fun l7 xs7 H7 s7 n7 e7 r7 => ?_
    case y7 => exact (.cons (rowK 16 "problem" rfl rfl rfl) (.cons (rowK 17 "position" rfl rfl rfl) .nil))
    have t7 := t6.trans s7
    have n7 := t6.free n7
    refine s_set ?_
    refine y_cat (G := g1 v) (Ss := [oneR A v 21, oneR A v 22]) ?y8 rfl rfl e7 r7 (sz_le (by show 16 + 2 ≤ 1000; decide)) fun l8 xs8 H8 s8 n8 e8 r8 => ?_
    case y8 => exact (.cons (rowK 21 "line" rfl rfl rfl) (.cons (rowK 22 "value" rfl rfl rfl) .nil))
    have t8 := t7.trans s8
    have n8 := t7.free n8
    refine s_set ?_
    refine y_cat (G := g1 v) (Ss := [oneR A v 23, oneR A v 24]) ?y9 rfl rfl e8 r8 (sz_le (by show 18 + 2 ≤ 1000; decide)) fun l9 xs9 H9 s9 n9 e9 r9 => ?_
    case y9 => exact (.cons (rowK 23 "value" rfl rfl rfl) (.cons (rowK 24 "value" rfl rfl rfl) .nil))
    have t9 := t8.trans s9
    have n9 := t8.free n9
    refine s_set ?_
    refine y_cat (G := g1 v) (Ss := [oneR A v 25, oneR A v 27]) ?y10 rfl rfl e9 r9 (sz_le (by show 20 + 2 ≤ 1000; decide)) fun l10 xs10 H10 s10 n10 e10 r10 => ?_
    case y10 => exact (.cons (rowK 25 "value" rfl rfl rfl) (.cons (rowK 27 "taken" rfl rfl rfl) .nil))
    have t10 := t9.trans s10
    have n10 := t9.free n10
    refine s_set ?_
    refine y_cat (G := g1 v) (Ss := [oneR A v 29, oneR A v 30, oneR A v 34]) ?y11 rfl rfl e10 r10 (sz_le (by show 22 + 3 ≤ 1000; decide)) fun l11 xs11 H11 s11 n11 e11 r11 => ?_
    case y11 => exact (.cons (rowK 29 "total" rfl rfl rfl) (.cons (rowK 30 "refusal" rfl rfl rfl) (.cons (rowK 34 "cases" rfl rfl rfl) .nil)))
    have t11 := t10.trans s11
    have n11 := t10.free n11
    refine s_set ?_
    refine y_cat (G := g1 v) (Ss := [oneR A v 35, oneR A v 36]) ?y12 rfl rfl e11 r11 (sz_le (by show 25 + 2 ≤ 1000; decide)) fun l12 xs12 H12 s12 n12 e12 r12 => ?_
    case y12 => exact (.cons (rowK 35 "danger" rfl rfl rfl) (.cons (rowK 36 "value" rfl rfl rfl) .nil))
    have t12 := t11.trans s12
    have n12 := t11.free n12
    refine s_ret ?_
    refine y_cat (G := g1 v) (Ss := [oneR A v 38, oneR A v 39]) ?y13 rfl rfl e12 r12 (sz_le (by show 27 + 2 ≤ 1000; decide)) fun l13 xs13 H13 s13 n13 e13 r13 => ?_
    case y13 => exact (.cons (rowK 38 "limit" rfl rfl rfl) (.cons (rowK 39 "limit" rfl rfl rfl) .nil))
    exact q _ _ _ (t12.trans s13) (t12.free n13) e13 r13
theorem ok_l_ones_by_place (T : Txt K mg A) : FnOk P w K mg base CX0 3 A.f_l_ones_by_place A.d_l_ones_by_place ["_law_thing_here"] (sp_l_ones_by_place K A) := by
  have G_Exposed_init := ok_Exposed_init (P := P) (w := w) (base := base) T
  have G_InvalidCommand_init := ok_InvalidCommand_init (P := P) (w := w) (base := base) T
  have G_InvalidCount_init := ok_InvalidCount_init (P := P) (w := w) (base := base) T
  have G_InvalidFault_init := ok_InvalidFault_init (P := P) (w := w) (base := base) T
  have G_InvalidFaults_init := ok_InvalidFaults_init (P := P) (w := w) (base := base) T
  have G_InvalidLength_init := ok_InvalidLength_init (P := P) (w := w) (base := base) T
  have G_InvalidName_init := ok_InvalidName_init (P := P) (w := w) (base := base) T
  have G_InvalidPath_init := ok_InvalidPath_init (P := P) (w := w) (base := base) T
  have G_InvalidPiece_init := ok_InvalidPiece_init (P := P) (w := w) (base := base) T
  have G_InvalidRecord_init := ok_InvalidRecord_init (P := P) (w := w) (base := base) T
  have G_InvalidSplit_init := ok_InvalidSplit_init (P := P) (w := w) (base := base) T
  have G_InvalidStation_init := ok_InvalidStation_init (P := P) (w := w) (base := base) T
  have G_InvalidSupply_init := ok_InvalidSupply_init (P := P) (w := w) (base := base) T
  have G_InvalidText_init := ok_InvalidText_init (P := P) (w := w) (base := base) T
  have G_InvalidTick_init := ok_InvalidTick_init (P := P) (w := w) (base := base) T
  have G_InvalidTime_init := ok_InvalidTime_init (P := P) (w := w) (base := base) T
  have G_InvalidVisit_init := ok_InvalidVisit_init (P := P) (w := w) (base := base) T
  have G_InvalidVisits_init := ok_InvalidVisits_init (P := P) (w := w) (base := base) T
  have G_InvalidWindow_init := ok_InvalidWindow_init (P := P) (w := w) (base := base) T
  have G_NameTaken_init := ok_NameTaken_init (P := P) (w := w) (base := base) T
  have G_NoSplits_init := ok_NoSplits_init (P := P) (w := w) (base := base) T
  have G_NotLate_init := ok_NotLate_init (P := P) (w := w) (base := base) T
  have G_Refused_init := ok_Refused_init (P := P) (w := w) (base := base) T
  have G_TooLong_init := ok_TooLong_init (P := P) (w := w) (base := base) T
  have G_TooMany_init := ok_TooMany_init (P := P) (w := w) (base := base) T
  have G_TooSlow_init := ok_TooSlow_init (P := P) (w := w) (base := base) T
  have G_UnknownStation_init := ok_UnknownStation_init (P := P) (w := w) (base := base) T
  have G_UnknownStream_init := ok_UnknownStream_init (P := P) (w := w) (base := base) T
  have G_UnknownUnit_init := ok_UnknownUnit_init (P := P) (w := w) (base := base) T
  refine T.F_l_ones_by_place.ok sc_l_ones_by_place (fun vs H Q E h => ?_) (fun cdv A0 outer s H vs Q E hr h => ?_)
  · obtain ⟨v, rfl, q⟩ := h
    rfl
  · obtain ⟨v, rfl, q⟩ := h
    refine ⟨_, (pss_cons (ps_set (i := 1) sc_l_ones_by_place.nd rfl (by first | exact Or.inl rfl | exact Or.inr rfl) (pe_lst (pa_cons (VEv.pe_newV T.i_InvalidPiece.O T.i_InvalidPiece.iC T.i_InvalidPiece.tI G_InvalidPiece_init (hr.mono (by decide)) rfl T.e_InvalidPiece.m T.b_InvalidPiece_init pass0 (pa_cons (pv 0) pa_nil)) (pa_cons (VEv.pe_newV T.i_InvalidLength.O T.i_InvalidLength.iC T.i_InvalidLength.tI G_InvalidLength_init (hr.mono (by decide)) rfl T.e_InvalidLength.m T.b_InvalidLength_init pass0 (pa_cons (pv 0) pa_nil)) (pa_cons (VEv.pe_newV T.i_InvalidCount.O T.i_InvalidCount.iC T.i_InvalidCount.tI G_InvalidCount_init (hr.mono (by decide)) rfl T.e_InvalidCount.m T.b_InvalidCount_init pass0 (pa_cons (pv 0) pa_nil)) (pa_cons (VEv.pe_newV T.i_InvalidRecord.O T.i_InvalidRecord.iC T.i_InvalidRecord.tI G_InvalidRecord_init (hr.mono (by decide)) rfl T.e_InvalidRecord.m T.b_InvalidRecord_init pass0 (pa_cons (pv 0) pa_nil)) (pa_cons (VEv.pe_newV T.i_InvalidVisit.O T.i_InvalidVisit.iC T.i_InvalidVisit.tI G_InvalidVisit_init (hr.mono (by decide)) rfl T.e_InvalidVisit.m T.b_InvalidVisit_init pass0 (pa_cons (pv 0) pa_nil)) pa_nil)))))))
    (pss_cons (ps_set (i := 1) sc_l_ones_by_place.nd rfl (by first | exact Or.inl rfl | exact Or.inr rfl) (pe_op op_cat (pv 1) (pe_lst (pa_cons (VEv.pe_newV T.i_InvalidVisits.O T.i_InvalidVisits.iC T.i_InvalidVisits.tI G_InvalidVisits_init (hr.mono (by decide)) rfl T.e_InvalidVisits.m T.b_InvalidVisits_init pass0 (pa_cons (pv 0) pa_nil)) (pa_cons (VEv.pe_newV T.i_InvalidSupply.O T.i_InvalidSupply.iC T.i_InvalidSupply.tI G_InvalidSupply_init (hr.mono (by decide)) rfl T.e_InvalidSupply.m T.b_InvalidSupply_init pass0 (pa_cons (pv 0) pa_nil)) (pa_cons (VEv.pe_newV T.i_InvalidWindow.O T.i_InvalidWindow.iC T.i_InvalidWindow.tI G_InvalidWindow_init (hr.mono (by decide)) rfl T.e_InvalidWindow.m T.b_InvalidWindow_init pass0 (pa_cons (pv 0) pa_nil)) (pa_cons (VEv.pe_newV T.i_InvalidStation.O T.i_InvalidStation.iC T.i_InvalidStation.tI G_InvalidStation_init (hr.mono (by decide)) rfl T.e_InvalidStation.m T.b_InvalidStation_init pass0 (pa_cons (pv 0) pa_nil)) pa_nil)))))))
    (pss_cons (ps_set (i := 1) sc_l_ones_by_place.nd rfl (by first | exact Or.inl rfl | exact Or.inr rfl) (pe_op op_cat (pv 1) (pe_lst (pa_cons (VEv.pe_newV T.i_InvalidName.O T.i_InvalidName.iC T.i_InvalidName.tI G_InvalidName_init (hr.mono (by decide)) rfl T.e_InvalidName.m T.b_InvalidName_init pass0 (pa_cons (pv 0) pa_nil)) (pa_cons (VEv.pe_newV T.i_InvalidPath.O T.i_InvalidPath.iC T.i_InvalidPath.tI G_InvalidPath_init (hr.mono (by decide)) rfl T.e_InvalidPath.m T.b_InvalidPath_init pass0 (pa_cons (pv 0) pa_nil)) (pa_cons (VEv.pe_newV T.i_InvalidSplit.O T.i_InvalidSplit.iC T.i_InvalidSplit.tI G_InvalidSplit_init (hr.mono (by decide)) rfl T.e_InvalidSplit.m T.b_InvalidSplit_init pass0 (pa_cons (pv 0) pa_nil)) (pa_cons (VEv.pe_newV T.i_InvalidTime.O T.i_InvalidTime.iC T.i_InvalidTime.tI G_InvalidTime_init (hr.mono (by decide)) rfl T.e_InvalidTime.m T.b_InvalidTime_init pass0 (pa_cons (pv 0) pa_nil)) pa_nil)))))))
    (pss_cons (ps_set (i := 1) sc_l_ones_by_place.nd rfl (by first | exact Or.inl rfl | exact Or.inr rfl) (pe_op op_cat (pv 1) (pe_lst (pa_cons (VEv.pe_newV T.i_InvalidTick.O T.i_InvalidTick.iC T.i_InvalidTick.tI G_InvalidTick_init (hr.mono (by decide)) rfl T.e_InvalidTick.m T.b_InvalidTick_init pass0 (pa_cons (pv 0) pa_nil)) (pa_cons (VEv.pe_newV T.i_InvalidFault.O T.i_InvalidFault.iC T.i_InvalidFault.tI G_InvalidFault_init (hr.mono (by decide)) rfl T.e_InvalidFault.m T.b_InvalidFault_init pass0 (pa_cons (pv 0) pa_nil)) (pa_cons (VEv.pe_newV T.i_InvalidFaults.O T.i_InvalidFaults.iC T.i_InvalidFaults.tI G_InvalidFaults_init (hr.mono (by decide)) rfl T.e_InvalidFaults.m T.b_InvalidFaults_init pass0 (pa_cons (pv 0) pa_nil)) (pa_cons (VEv.pe_newV T.i_InvalidText.O T.i_InvalidText.iC T.i_InvalidText.tI G_InvalidText_init (hr.mono (by decide)) rfl T.e_InvalidText.m T.b_InvalidText_init pass0 (pa_cons (pv 0) pa_nil)) pa_nil)))))))
    (pss_cons (ps_expr (pe_bm PySem.F.plainAttrs_list PySem.F.slot_list_append PySem.F.type_list_append mt_append (pv 1) (pa_cons (VEv.pe_newV T.i_InvalidCommand.O T.i_InvalidCommand.iC T.i_InvalidCommand.tI G_InvalidCommand_init (hr.mono (by decide)) rfl T.e_InvalidCommand.m T.b_InvalidCommand_init pass0 (pa_cons (pv 0) pa_nil)) pa_nil)))
    (pss_cons (ps_set (i := 1) sc_l_ones_by_place.nd rfl (by first | exact Or.inl rfl | exact Or.inr rfl) (pe_op op_cat (pv 1) (pe_lst (pa_cons (VEv.pe_newV T.i_UnknownStation.O T.i_UnknownStation.iC T.i_UnknownStation.tI G_UnknownStation_init (hr.mono (by decide)) rfl T.e_UnknownStation.m T.b_UnknownStation_init pass0 (pa_cons (pv 0) pa_nil)) (pa_cons (VEv.pe_newV T.i_UnknownStream.O T.i_UnknownStream.iC T.i_UnknownStream.tI G_UnknownStream_init (hr.mono (by decide)) rfl T.e_UnknownStream.m T.b_UnknownStream_init pass0 (pa_cons (pv 0) pa_nil)) (pa_cons (VEv.pe_newV T.i_UnknownUnit.O T.i_UnknownUnit.iC T.i_UnknownUnit.tI G_UnknownUnit_init (hr.mono (by decide)) rfl T.e_UnknownUnit.m T.b_UnknownUnit_init pass0 (pa_cons (pv 0) pa_nil)) (pa_cons (VEv.pe_newV T.i_NameTaken.O T.i_NameTaken.iC T.i_NameTaken.tI G_NameTaken_init (hr.mono (by decide)) rfl T.e_NameTaken.m T.b_NameTaken_init pass0 (pa_cons (pv 0) pa_nil)) (pa_cons (VEv.pe_newV T.i_TooSlow.O T.i_TooSlow.iC T.i_TooSlow.tI G_TooSlow_init (hr.mono (by decide)) rfl T.e_TooSlow.m T.b_TooSlow_init pass0 (pa_cons (pv 0) pa_nil)) pa_nil))))))))
    (pss_cons (ps_set (i := 1) sc_l_ones_by_place.nd rfl (by first | exact Or.inl rfl | exact Or.inr rfl) (pe_op op_cat (pv 1) (pe_lst (pa_cons (VEv.pe_newV T.i_Refused.O T.i_Refused.iC T.i_Refused.tI G_Refused_init (hr.mono (by decide)) rfl T.e_Refused.m T.b_Refused_init pass0 (pa_cons (pv 0) pa_nil)) (pa_cons (VEv.pe_newV T.i_NoSplits.O T.i_NoSplits.iC T.i_NoSplits.tI G_NoSplits_init (hr.mono (by decide)) rfl T.e_NoSplits.m T.b_NoSplits_init pass0 (pa_cons (pv 0) pa_nil)) (pa_cons (VEv.pe_newV T.i_Exposed.O T.i_Exposed.iC T.i_Exposed.tI G_Exposed_init (hr.mono (by decide)) rfl T.e_Exposed.m T.b_Exposed_init pass0 (pa_cons (pv 0) pa_nil)) (pa_cons (VEv.pe_newV T.i_NotLate.O T.i_NotLate.iC T.i_NotLate.tI G_NotLate_init (hr.mono (by decide)) rfl T.e_NotLate.m T.b_NotLate_init pass0 (pa_cons (pv 0) pa_nil)) (pa_cons (VEv.pe_newV T.i_TooLong.O T.i_TooLong.iC T.i_TooLong.tI G_TooLong_init (hr.mono (by decide)) rfl T.e_TooLong.m T.b_TooLong_init pass0 (pa_cons (pv 0) pa_nil)) pa_nil))))))))
    (pss_one (ps_ret (pe_op op_cat (pv 1) (pe_lst (pa_cons (VEv.pe_newV T.i_TooMany.O T.i_TooMany.iC T.i_TooMany.tI G_TooMany_init (hr.mono (by decide)) rfl T.e_TooMany.m T.b_TooMany_init pass0 (pa_cons (pv 0) pa_nil)) pa_nil)))))))))))), ?_⟩
    refine s_set ?_
    refine y_lst (G := g1 v) (Rs := [SR.err A 1 [v], SR.err A 2 [v], SR.err A 3 [v], SR.err A 4 [v], SR.err A 5 [v]]) ?y0 rfl (sz_le (by show 5 ≤ 1000; decide)) fun l0 xs0 H0 s0 n0 e0 r0 => ?_
    case y0 => exact (.cons (rowV 1 "position" rfl rfl) (.cons (rowV 2 "value" rfl rfl) (.cons (rowV 3 "value" rfl rfl) (.cons (rowV 4 "position" rfl rfl) (.cons (rowV 5 "problem" rfl rfl) .nil)))))
    have t0 := s0
    refine s_set ?_
    refine y_cat (G := g1 v) (Ss := [SR.err A 6 [v], SR.err A 7 [v], SR.err A 8 [v], SR.err A 9 [v]]) ?y1 rfl rfl e0 r0 (sz_le (by show 5 + 4 ≤ 1000; decide)) fun l1 xs1 H1 s1 n1 e1 r1 => ?_
    case y1 => exact (.cons (rowV 6 "position" rfl rfl) (.cons (rowV 7 "position" rfl rfl) (.cons (rowV 8 "value" rfl rfl) (.cons (rowV 9 "problem" rfl rfl) .nil))))
    have t1 := t0.trans s1
    have n1 := t0.free n1
    refine s_set ?_
    refine y_cat (G := g1 v) (Ss := [SR.err A 11 [v], SR.err A 12 [v], SR.err A 13 [v], SR.err A 14 [v]]) ?y2 rfl rfl e1 r1 (sz_le (by show 9 + 4 ≤ 1000; decide)) fun l2 xs2 H2 s2 n2 e2 r2 => ?_
    case y2 => exact (.cons (rowV 11 "value" rfl rfl) (.cons (rowV 12 "position" rfl rfl) (.cons (rowV 13 "position" rfl rfl) (.cons (rowV 14 "value" rfl rfl) .nil))))
    have t2 := t1.trans s2
    have n2 := t1.free n2
    refine s_set ?_
    refine y_cat (G := g1 v) (Ss := [SR.err A 15 [v], SR.err A 16 [v], SR.err A 17 [v], SR.err A 21 [v]]) ?y3 rfl rfl e2 r2 (sz_le (by show 13 + 4 ≤ 1000; decide)) fun l3 xs3 H3 s3 n3 e3 r3 => ?_
    case y3 => exact (.cons (rowV 15 "value" rfl rfl) (.cons (rowV 16 "problem" rfl rfl) (.cons (rowV 17 "position" rfl rfl) (.cons (rowV 21 "line" rfl rfl) .nil))))
    have t3 := t2.trans s3
    have n3 := t2.free n3
    refine s_drop ?_
    refine y_app (G := g1 v) (R := SR.err A 22 [v]) ?y4 rfl rfl e3 r3 (sz_le (by show 17 + 1 ≤ 1000; decide)) t3 n3 fun xs4 H4 t4 e4 r4 => ?_
    case y4 => exact (rowV 22 "value" rfl rfl)
    have n4 := n3
    refine s_set ?_
    refine y_cat (G := g1 v) (Ss := [SR.err A 23 [v], SR.err A 24 [v], SR.err A 25 [v], SR.err A 27 [v], SR.err A 29 [v]]) ?y5 rfl rfl e4 r4 (sz_le (by show 18 + 5 ≤ 1000; decide)) fun l5 xs5 H5 s5 n5 e5 r5 => ?_
    case y5 => exact (.cons (rowV 23 "value" rfl rfl) (.cons (rowV 24 "value" rfl rfl) (.cons (rowV 25 "value" rfl rfl) (.cons (rowV 27 "taken" rfl rfl) (.cons (rowV 29 "total" rfl rfl) .nil)))))
    have t5 := t4.trans s5
    have n5 := t4.free n5
    refine s_set ?_
    refine y_cat (G := g1 v) (Ss := [SR.err A 30 [v], SR.err A 34 [v], SR.err A 35 [v], SR.err A 36 [v], SR.err A 38 [v]]) ?y6 rfl rfl e5 r5 (sz_le (by show 23 + 5 ≤ 1000; decide)) fun l6 xs6 H6 s6 n6 e6 r6 => ?_
    case y6 => exact (.cons (rowV 30 "refusal" rfl rfl) (.cons (rowV 34 "cases" rfl rfl) (.cons (rowV 35 "danger" rfl rfl) (.cons (rowV 36 "value" rfl rfl) (.cons (rowV 38 "limit" rfl rfl) .nil)))))
    have t6 := t5.trans s6
    have n6 := t5.free n6
    refine s_ret ?_
    refine y_cat (G := g1 v) (Ss := [SR.err A 39 [v]]) ?y7 rfl rfl e6 r6 (sz_le (by show 28 + 1 ≤ 1000; decide)) fun l7 xs7 H7 s7 n7 e7 r7 => ?_
    case y7 => exact (.cons (rowV 39 "limit" rfl rfl) .nil)
    exact q _ _ _ (t6.trans s7) (t6.free n7) e7 r7
theorem ok_l_more (T : Txt K mg A) : FnOk P w K mg base CX0 3 A.f_l_more A.d_l_more ["_law_one", "_law_other"] (sp_l_more K A) := by
  have G_InvalidCurve_init := ok_InvalidCurve_init (P := P) (w := w) (base := base) T
  have G_InvalidNetwork_init := ok_InvalidNetwork_init (P := P) (w := w) (base := base) T
  have G_NoLink_init := ok_NoLink_init (P := P) (w := w) (base := base) T
  have G_NotGood_init := ok_NotGood_init (P := P) (w := w) (base := base) T
  have G_Overfull_init := ok_Overfull_init (P := P) (w := w) (base := base) T
  have G_RunFailed_init := ok_RunFailed_init (P := P) (w := w) (base := base) T
  have kb_InvalidCurve_problem_position := kb_InvalidCurve T
  have kb_InvalidNetwork_problem_position := kb_InvalidNetwork T
  have kb_NoLink_source_target := kb_NoLink T
  have kb_NotGood_first_second := kb_NotGood T
  have kb_Overfull_at_station_window := kb_Overfull T
  have kb_RunFailed_position_results := kb_RunFailed T
  refine T.F_l_more.ok sc_l_more (fun vs H Q E h => ?_) (fun cdv A0 outer s H vs Q E hr h => ?_)
  · obtain ⟨v, w, rfl, q⟩ := h
    rfl
  · obtain ⟨v, w, rfl, q⟩ := h
    refine ⟨_, (pss_cons (ps_set (i := 2) sc_l_more.nd rfl (by first | exact Or.inl rfl | exact Or.inr rfl) (pe_lst (pa_cons (pe_tup (pa_cons (VEv.pe_newK0 T.i_InvalidCurve.O T.i_InvalidCurve.iC T.i_InvalidCurve.tI G_InvalidCurve_init (hr.mono (by decide)) rfl T.e_InvalidCurve.m kb_InvalidCurve_problem_position pass0 (pk_cons (pv 0) (pk_cons (pv 1) pk_nil))) (pa_cons (VEv.pe_newV T.i_InvalidCurve.O T.i_InvalidCurve.iC T.i_InvalidCurve.tI G_InvalidCurve_init (hr.mono (by decide)) rfl T.e_InvalidCurve.m T.b_InvalidCurve_init pass0 (pa_cons (pv 0) (pa_cons (pv 1) pa_nil))) (pa_cons pe_str pa_nil)))) pa_nil)))
    (pss_cons (ps_expr (pe_bm PySem.F.plainAttrs_list PySem.F.slot_list_append PySem.F.type_list_append mt_append (pv 2) (pa_cons (pe_tup (pa_cons (VEv.pe_newK0 T.i_InvalidNetwork.O T.i_InvalidNetwork.iC T.i_InvalidNetwork.tI G_InvalidNetwork_init (hr.mono (by decide)) rfl T.e_InvalidNetwork.m kb_InvalidNetwork_problem_position pass0 (pk_cons (pv 0) (pk_cons (pv 1) pk_nil))) (pa_cons (VEv.pe_newV T.i_InvalidNetwork.O T.i_InvalidNetwork.iC T.i_InvalidNetwork.tI G_InvalidNetwork_init (hr.mono (by decide)) rfl T.e_InvalidNetwork.m T.b_InvalidNetwork_init pass0 (pa_cons (pv 0) (pa_cons (pv 1) pa_nil))) (pa_cons pe_str pa_nil)))) pa_nil)))
    (pss_cons (ps_expr (pe_bm PySem.F.plainAttrs_list PySem.F.slot_list_append PySem.F.type_list_append mt_append (pv 2) (pa_cons (pe_tup (pa_cons (VEv.pe_newK0 T.i_NoLink.O T.i_NoLink.iC T.i_NoLink.tI G_NoLink_init (hr.mono (by decide)) rfl T.e_NoLink.m kb_NoLink_source_target pass0 (pk_cons (pv 0) (pk_cons (pv 1) pk_nil))) (pa_cons (VEv.pe_newV T.i_NoLink.O T.i_NoLink.iC T.i_NoLink.tI G_NoLink_init (hr.mono (by decide)) rfl T.e_NoLink.m T.b_NoLink_init pass0 (pa_cons (pv 0) (pa_cons (pv 1) pa_nil))) (pa_cons pe_str pa_nil)))) pa_nil)))
    (pss_cons (ps_expr (pe_bm PySem.F.plainAttrs_list PySem.F.slot_list_append PySem.F.type_list_append mt_append (pv 2) (pa_cons (pe_tup (pa_cons (VEv.pe_newK0 T.i_NotGood.O T.i_NotGood.iC T.i_NotGood.tI G_NotGood_init (hr.mono (by decide)) rfl T.e_NotGood.m kb_NotGood_first_second pass0 (pk_cons (pv 0) (pk_cons (pv 1) pk_nil))) (pa_cons (VEv.pe_newV T.i_NotGood.O T.i_NotGood.iC T.i_NotGood.tI G_NotGood_init (hr.mono (by decide)) rfl T.e_NotGood.m T.b_NotGood_init pass0 (pa_cons (pv 0) (pa_cons (pv 1) pa_nil))) (pa_cons pe_str pa_nil)))) pa_nil)))
    (pss_cons (ps_expr (pe_bm PySem.F.plainAttrs_list PySem.F.slot_list_append PySem.F.type_list_append mt_append (pv 2) (pa_cons (pe_tup (pa_cons (VEv.pe_newK0 T.i_RunFailed.O T.i_RunFailed.iC T.i_RunFailed.tI G_RunFailed_init (hr.mono (by decide)) rfl T.e_RunFailed.m kb_RunFailed_position_results pass0 (pk_cons (pv 0) (pk_cons (pv 1) pk_nil))) (pa_cons (VEv.pe_newV T.i_RunFailed.O T.i_RunFailed.iC T.i_RunFailed.tI G_RunFailed_init (hr.mono (by decide)) rfl T.e_RunFailed.m T.b_RunFailed_init pass0 (pa_cons (pv 0) (pa_cons (pv 1) pa_nil))) (pa_cons pe_str pa_nil)))) pa_nil)))
    (pss_cons (ps_expr (pe_bm PySem.F.plainAttrs_list PySem.F.slot_list_append PySem.F.type_list_append mt_append (pv 2) (pa_cons (pe_tup (pa_cons (VEv.pe_newK0 T.i_Overfull.O T.i_Overfull.iC T.i_Overfull.tI G_Overfull_init (hr.mono (by decide)) rfl T.e_Overfull.m kb_Overfull_at_station_window pass0 (pk_cons (pv 0) (pk_cons (pv 1) pk_nil))) (pa_cons (VEv.pe_newV T.i_Overfull.O T.i_Overfull.iC T.i_Overfull.tI G_Overfull_init (hr.mono (by decide)) rfl T.e_Overfull.m T.b_Overfull_init pass0 (pa_cons (pv 0) (pa_cons (pv 1) pa_nil))) (pa_cons pe_str pa_nil)))) pa_nil)))
    (pss_cons (ps_expr (pe_bm PySem.F.plainAttrs_list PySem.F.slot_list_append PySem.F.type_list_append mt_append (pv 2) (pa_cons (pe_tup (pa_cons (VEv.pe_newB VX.bsV.1 T.b_InvalidHanded.q T.b_InvalidHanded.kC rfl T.e_InvalidHanded.m pe_str) (pa_cons (VEv.pe_newB VX.bsV.1 T.b_InvalidHanded.q T.b_InvalidHanded.kC rfl T.e_InvalidHanded.m pe_str) (pa_cons pe_str pa_nil)))) pa_nil)))
    (pss_cons (ps_expr (pe_bm PySem.F.plainAttrs_list PySem.F.slot_list_append PySem.F.type_list_append mt_append (pv 2) (pa_cons (pe_tup (pa_cons (VEv.pe_newB VX.bsV.1 T.b_InvalidBook.q T.b_InvalidBook.kC rfl T.e_InvalidBook.m pe_str) (pa_cons (VEv.pe_newB VX.bsV.1 T.b_InvalidBook.q T.b_InvalidBook.kC rfl T.e_InvalidBook.m pe_str) (pa_cons pe_str pa_nil)))) pa_nil)))
    (pss_cons (ps_expr (pe_bm PySem.F.plainAttrs_list PySem.F.slot_list_append PySem.F.type_list_append mt_append (pv 2) (pa_cons (pe_tup (pa_cons (VEv.pe_newB VX.bsV.1 T.b_InvalidWeights.q T.b_InvalidWeights.kC rfl T.e_InvalidWeights.m pe_str) (pa_cons (VEv.pe_newB VX.bsV.1 T.b_InvalidWeights.q T.b_InvalidWeights.kC rfl T.e_InvalidWeights.m pe_str) (pa_cons pe_str pa_nil)))) pa_nil)))
    (pss_cons (ps_expr (pe_bm PySem.F.plainAttrs_list PySem.F.slot_list_append PySem.F.type_list_append mt_append (pv 2) (pa_cons (pe_tup (pa_cons (VEv.pe_newB VX.bsR.1 T.b_NotPlain.q T.b_NotPlain.kC rfl T.e_NotPlain.m pe_str) (pa_cons (VEv.pe_newB VX.bsR.1 T.b_NotPlain.q T.b_NotPlain.kC rfl T.e_NotPlain.m pe_str) (pa_cons pe_str pa_nil)))) pa_nil)))
    (pss_one (ps_ret (pe_op op_cat (pv 2) (pe_lst (pa_cons (pe_tup (pa_cons (VEv.pe_newB VX.bsR.1 T.b_HasReserves.q T.b_HasReserves.kC rfl T.e_HasReserves.m pe_str) (pa_cons (VEv.pe_newB VX.bsR.1 T.b_HasReserves.q T.b_HasReserves.kC rfl T.e_HasReserves.m pe_str) (pa_cons pe_str pa_nil)))) pa_nil))))))))))))))), ?_⟩
    refine s_set ?_
    refine y_lst (G := g2 v w) (Rs := [moreR A v w 0]) ?y0 ⟨rfl, rfl⟩ (sz_le (by show 1 ≤ 1000; decide)) fun l0 xs0 H0 s0 n0 e0 r0 => ?_
    case y0 => exact (.cons (rowM2 0 "problem" "position" rfl rfl rfl) .nil)
    have t0 := s0
    refine s_drop ?_
    refine y_app (G := g2 v w) (R := moreR A v w 10) ?y1 ⟨rfl, rfl⟩ rfl e0 r0 (sz_le (by show 1 + 1 ≤ 1000; decide)) t0 n0 fun xs1 H1 t1 e1 r1 => ?_
    case y1 => exact (rowM2 10 "problem" "position" rfl rfl rfl)
    have n1 := n0
    refine s_drop ?_
    refine y_app (G := g2 v w) (R := moreR A v w 26) ?y2 ⟨rfl, rfl⟩ rfl e1 r1 (sz_le (by show 2 + 1 ≤ 1000; decide)) t1 n1 fun xs2 H2 t2 e2 r2 => ?_
    case y2 => exact (rowM2 26 "source" "target" rfl rfl rfl)
    have n2 := n1
    refine s_drop ?_
    refine y_app (G := g2 v w) (R := moreR A v w 28) ?y3 ⟨rfl, rfl⟩ rfl e2 r2 (sz_le (by show 3 + 1 ≤ 1000; decide)) t2 n2 fun xs3 H3 t3 e3 r3 => ?_
    case y3 => exact (rowM2 28 "first" "second" rfl rfl rfl)
    have n3 := n2
    refine s_drop ?_
    refine y_app (G := g2 v w) (R := moreR A v w 37) ?y4 ⟨rfl, rfl⟩ rfl e3 r3 (sz_le (by show 4 + 1 ≤ 1000; decide)) t3 n3 fun xs4 H4 t4 e4 r4 => ?_
    case y4 => exact (rowM2 37 "position" "results" rfl rfl rfl)
    have n4 := n3
    refine s_drop ?_
    refine y_app (G := g2 v w) (R := moreR A v w 31) ?y5 ⟨rfl, rfl⟩ rfl e4 r4 (sz_le (by show 5 + 1 ≤ 1000; decide)) t4 n4 fun xs5 H5 t5 e5 r5 => ?_
    case y5 => exact (rowM2 31 "at_station" "window" rfl rfl rfl)
    have n5 := n4
    refine s_drop ?_
    refine y_app (G := g2 v w) (R := moreR A v w 18) ?y6 ⟨rfl, rfl⟩ rfl e5 r5 (sz_le (by show 6 + 1 ≤ 1000; decide)) t5 n5 fun xs6 H6 t6 e6 r6 => ?_
    case y6 => exact (rowM0 18 rfl rfl rfl)
    have n6 := n5
    refine s_drop ?_
    refine y_app (G := g2 v w) (R := moreR A v w 19) ?y7 ⟨rfl, rfl⟩ rfl e6 r6 (sz_le (by show 7 + 1 ≤ 1000; decide)) t6 n6 fun xs7 H7 t7 e7 r7 => ?_
    case y7 => exact (rowM0 19 rfl rfl rfl)
    have n7 := n6
    refine s_drop ?_
    refine y_app (G := g2 v w) (R := moreR A v w 20) ?y8 ⟨rfl, rfl⟩ rfl e7 r7 (sz_le (by show 8 + 1 ≤ 1000; decide)) t7 n7 fun xs8 H8 t8 e8 r8 => ?_
    case y8 => exact (rowM0 20 rfl rfl rfl)
    have n8 := n7
    refine s_drop ?_
    refine y_app (G := g2 v w) (R := moreR A v w 32) ?y9 ⟨rfl, rfl⟩ rfl e8 r8 (sz_le (by show 9 + 1 ≤ 1000; decide)) t8 n8 fun xs9 H9 t9 e9 r9 => ?_
    case y9 => exact (rowM0 32 rfl rfl rfl)
    have n9 := n8
    refine s_ret ?_
    refine y_cat (G := g2 v w) (Ss := [moreR A v w 33]) ?y10 ⟨rfl, rfl⟩ rfl e9 r9 (sz_le (by show 10 + 1 ≤ 1000; decide)) fun l10 xs10 H10 s10 n10 e10 r10 => ?_
    case y10 => exact (.cons (rowM0 33 rfl rfl rfl) .nil)
    exact q _ _ _ (t9.trans s10) (t9.free n10) e10 r10
end
end VK


namespace VK
open PySem PySem.Spec PyProof.Rows L2 VM
theorem vals_cl {A : Ad} : ∀ (js : List Nat) (ws : List Value), Vals (js.map fun j => V.ref (cl A j)) ws → ws = js.map fun j => Value.ref (cl A j)
  | [], ws, r => by
    rw [List.map_nil] at r
    cases r
    rfl
  | j :: js, ws, r => by
    rw [List.map_cons] at r
    cases r with
    | cons h q =>
      cases h
      rw [List.map_cons, ← vals_cl js _ q]
theorem f_pos : ∀ i ∈ [1, 4, 6, 7, 12, 13], fd i = [("position" : Str)] := by decide +kernel
theorem f_prob : ∀ i ∈ [5, 9, 16], fd i = [("problem" : Str)] := by decide +kernel
theorem f_lim : ∀ i ∈ [38, 39], fd i = [("limit" : Str)] := by decide +kernel
theorem f_val0 : ∀ i, i < 40 → (fd i).length = 1 → i ∉ [1, 4, 6, 7, 12, 13, 17, 5, 9, 16, 21, 27, 29, 30, 34, 35, 38, 39] → fd i = [("value" : Str)] := by decide +kernel
theorem f_val {i : Nat} (hi : i < 40) (hl : (fd i).length = 1) (c1 : i ∉ [1, 4, 6, 7, 12, 13]) (c2 : i ≠ 17) (c3 : i ∉ [5, 9, 16]) (c4 : i ≠ 21) (c5 : i ≠ 27) (c6 : i ≠ 29) (c7 : i ≠ 30) (c8 : i ≠ 34) (c9 : i ≠ 35) (c10 : i ∉ [38, 39]) : fd i = [("value" : Str)] :=
  f_val0 i hi hl fun h => by
    simp only [List.mem_cons, List.not_mem_nil, or_false] at h c1 c3 c10
    omega
theorem f_two : ∀ i ∈ [0, 10], fd i = [("problem" : Str), "position"] := by decide +kernel
theorem f_none0 : ∀ i, i < 40 → (fd i).length ≠ 1 → i ∉ [0, 10, 26, 28, 37, 31] → fd i = [] := by decide +kernel
theorem f_none {i : Nat} (hi : i < 40) (hl : (fd i).length ≠ 1) (c1 : i ∉ [0, 10]) (c2 : i ≠ 26) (c3 : i ≠ 28) (c4 : i ≠ 37) (c5 : i ≠ 31) : fd i = [] :=
  f_none0 i hi hl fun h => by
    simp only [List.mem_cons, List.not_mem_nil, or_false] at h c1
    omega
def sp_l_told (_ : PySem.W.Frag) (A : Ad) : Sp := fun vs H Q _ => ∃ e i v, vs = [.ref e] ∧ i < 40 ∧ (fd i).length = 1 ∧ ErF A H e i [v] ∧ ∀ H', Same H H' → Q v H'
def sp_l_parts (_ : PySem.W.Frag) (A : Ad) : Sp := fun vs H Q _ => ∃ e i us, vs = [.ref e] ∧ i < 40 ∧ (fd i).length ≠ 1 ∧ us.length = (fd i).length ∧ ErF A H e i us ∧ ∀ l H', Same H H' → H l = none → H' l = some (.lst us) → Q (.ref l) H'
section
variable {P : Program} {w : World} {K : PySem.W.Frag} {mg : Str → Option Value} {base : Heap} {A : Ad} {H : Hp} {e p : Addr} {i j : Nat} {vs : List V} {v : V} {f : Str} {Q : VK}
theorem kitAnyC (T : Txt K mg A) (hi : i < 40) : ∀ js : List Nat, (∀ j ∈ js, j < 40) → PySem.W.kitAny K (.ref (cl A i)) (js.map fun j => Value.ref (cl A j)) = some (decide (i ∈ js))
  | [], _ => rfl
  | j :: js, h => by
    rw [List.map_cons]
    unfold PySem.W.kitAny
    rw [kit T hi (h j List.mem_cons_self)]
    by_cases e : i = j
    · rw [decide_eq_true e, decide_eq_true (show i ∈ j :: js by rw [e]; exact List.mem_cons_self)]
    · rw [decide_eq_false e]
      show PySem.W.kitAny K _ _ = _
      rw [kitAnyC T hi js fun k hk => h k (List.mem_cons_of_mem _ hk)]
      have z : (i ∈ j :: js) ↔ i ∈ js := by rw [List.mem_cons]; exact ⟨fun q => q.resolve_left e, .inr⟩
      rw [decide_eq_decide.mpr z]
theorem ask_tup (T : Txt K mg A) (hi : i < 40) (E : ErF A H e i vs) (js : List Nat) (hjs : ∀ j ∈ js, j < 40) (hp : H p = some (.tup (js.map fun j => V.ref (cl A j)))) (q : Q (.bl (decide (i ∈ js))) H) : VEv.rAskV K [.ref e, .ref p] H Q :=
  ⟨e, cl A i, .ref p, _, rfl, (cn T i hi).as, E.at, .inr ⟨p, _, _, rfl, hp, vals_cl js, kitAnyC T hi js hjs⟩, q⟩
theorem ask_one (T : Txt K mg A) (hi : i < 40) (E : ErF A H e i vs) (j : Nat) (hj : j < 40) (q : Q (.bl (decide (i = j))) H) : VEv.rAskV K [.ref e, .ref (cl A j)] H Q :=
  ⟨e, cl A i, .ref (cl A j), _, rfl, (cn T i hi).as, E.at, .inl ⟨_, fun u h => h, kit T hi hj⟩, q⟩
theorem ask_due (T : Txt K mg A) (hi : i < 40) (E : ErF A H e i vs) (q : Q (.bl (decide (bk i = 0))) H) : VEv.rAskV K [.ref e, .ref A.DueError] H Q :=
  ⟨e, cl A i, .ref A.DueError, _, rfl, (cn T i hi).as, E.at, .inl ⟨_, fun u h => h, kitD T hi⟩, q⟩
theorem ask_b (T : Txt K mg A) (hi : i < 40) (E : ErF A H e i vs) (B : String) (hB : B ∈ ["ValueError", "LookupError", "RuntimeError", "ArithmeticError", "KeyError", "IndexError", "ZeroDivisionError", "OverflowError"]) (q : Q (.bl (isB (bk i) B)) H) : VEv.rAskV K [.ref e, .ty B] H Q :=
  ⟨e, cl A i, .ty B, _, rfl, (cn T i hi).as, E.at, .inl ⟨_, fun u h => h, kitB T hi hB⟩, q⟩
theorem fld {n : Nat} (T : Txt K mg A) (hi : i < 40) (E : ErF A H e i vs) (hj : (fd i)[n]? = some f) (hv : vs[n]? = some v) (q : Q v H) :
    ∃ (a D dj : Addr) (fs : List (Str × V)) (u : V), V.ref e = .ref a ∧ XfC K D ∧ PySem.W.findIn K (.ref D) f = some none ∧ H a = some (exo a D (some dj)) ∧ H dj = some (exd dj fs) ∧ fs.lookup f = some u ∧ Q u H := by
  rcases E with ⟨a, b, c⟩ | ⟨d, fs, a, b, c⟩
  · rw [a] at hj; cases hj
  · have z := congrArg (fun l : List (Option V) => l[n]?) c
    simp only [List.getElem?_map, hj, hv, Option.map_some] at z
    exact ⟨e, cl A i, d, fs, v, rfl, (cn T i hi).xf, (cn T i hi).nf f (List.mem_of_getElem? hj), a, b, Option.some.inj z, q⟩
theorem t_ask1 {C : Addr} {σ : L2.St} (T : Txt K mg A) (hi : i < 40) (E : ErF A H e i vs) (hσ : σ[0]? = some (some (.ref e))) (j : Nat) (hC : cl A j = C) (hj : j < 40) (q : Q (.bl (decide (i = j))) H) :
    tCB (VEv.rAskV K) (tCons (tVar 0) (tCons (tC (.ref C)) tNil)) σ H Q := by
  subst hC
  have z : VEv.rAskV K [V.ref e, V.ref (cl A j)] H Q := ask_one T hi E j hj q
  exact ⟨_, hσ, z⟩
theorem t_askT {σ : L2.St} {ta : TA} (T : Txt K mg A) (hi : i < 40) (E : ErF A H e i vs) (hσ : σ[0]? = some (some (.ref e))) (js : List Nat) (hta : ∀ Q, ta σ H Q = Q (js.map fun j => V.ref (cl A j)) H) (hjs : ∀ j ∈ js, j < 40) (hz : js.length ≤ 1000)
    (q : ∀ H', Same H H' → Q (.bl (decide (i ∈ js))) H') : tCB (VEv.rAskV K) (tCons (tVar 0) (tCons (tTup ta) tNil)) σ H Q := by
  have z : tTup ta σ H fun x H1 => VEv.rAskV K [V.ref e, x] H1 Q := by
    show ta σ H _
    rw [hta]
    refine ⟨by rw [List.length_map]; exact sz_le hz, fun p hp => ?_⟩
    have s1 := Same.upd (o := .tup (js.map fun j => V.ref (cl A j))) (Same.refl H) hp
    exact ask_tup T hi (E.gr (.same s1)) js hjs upd_same (q _ s1)
  exact ⟨_, hσ, z⟩
/-- if isinstance(e, C): .. -/
theorem s_if_one {C : Addr} {σ : L2.St} {t rest : TS} {D : Ends} (T : Txt K mg A) (hi : i < 40) (E : ErF A H e i vs) (hσ : σ[0]? = some (some (.ref e))) (j : Nat) (hC : cl A j = C) (hj : j < 40) (h1 : i = j → t { D with nx := rest D } σ H) (h2 : i ≠ j → rest D σ H) :
    tSeq (tIfS (tB (tCB (VEv.rAskV K) (tCons (tVar 0) (tCons (tC (.ref C)) tNil)))) t tNext) rest D σ H :=
  t_ask1 (Q := fun x H1 => ∃ c, x = .bl c ∧ if c = true then t { D with nx := rest D } σ H1 else tNext { D with nx := rest D } σ H1) T hi E hσ j hC hj ⟨_, rfl, ifD h1 h2⟩
/-- if isinstance(e, (C, ..)): .. -/
theorem s_if_tup {σ : L2.St} {t rest : TS} {ta : TA} {D : Ends} (T : Txt K mg A) (hi : i < 40) (E : ErF A H e i vs) (hσ : σ[0]? = some (some (.ref e))) (js : List Nat) (hta : ∀ Q, ta σ H Q = Q (js.map fun j => V.ref (cl A j)) H) (hjs : ∀ j ∈ js, j < 40) (hz : js.length ≤ 1000)
    (h1 : i ∈ js → ∀ H', Same H H' → t { D with nx := rest D } σ H') (h2 : i ∉ js → ∀ H', Same H H' → rest D σ H') :
    tSeq (tIfS (tB (tCB (VEv.rAskV K) (tCons (tVar 0) (tCons (tTup ta) tNil)))) t tNext) rest D σ H :=
  t_askT (Q := fun x H1 => ∃ c, x = .bl c ∧ if c = true then t { D with nx := rest D } σ H1 else tNext { D with nx := rest D } σ H1) T hi E hσ js hta hjs hz fun H' s => ⟨_, rfl, ifD (fun c => h1 c H' s) (fun c => h2 c H' s)⟩
/-- a if isinstance(e, C) else b -/
theorem i_one {C : Addr} {σ : L2.St} {a b : TE} (T : Txt K mg A) (hi : i < 40) (E : ErF A H e i vs) (hσ : σ[0]? = some (some (.ref e))) (j : Nat) (hC : cl A j = C) (hj : j < 40) (h1 : i = j → a σ H Q) (h2 : i ≠ j → b σ H Q) :
    tIf (tB (tCB (VEv.rAskV K) (tCons (tVar 0) (tCons (tC (.ref C)) tNil)))) a b σ H Q :=
  t_ask1 (Q := fun x H1 => ∃ c, x = .bl c ∧ if c = true then a σ H1 Q else b σ H1 Q) T hi E hσ j hC hj ⟨_, rfl, ifD h1 h2⟩
theorem i_tup {σ : L2.St} {a b : TE} {ta : TA} (T : Txt K mg A) (hi : i < 40) (E : ErF A H e i vs) (hσ : σ[0]? = some (some (.ref e))) (js : List Nat) (hta : ∀ Q, ta σ H Q = Q (js.map fun j => V.ref (cl A j)) H) (hjs : ∀ j ∈ js, j < 40) (hz : js.length ≤ 1000)
    (h1 : i ∈ js → ∀ H', Same H H' → a σ H' Q) (h2 : i ∉ js → ∀ H', Same H H' → b σ H' Q) : tIf (tB (tCB (VEv.rAskV K) (tCons (tVar 0) (tCons (tTup ta) tNil)))) a b σ H Q :=
  t_askT (Q := fun x H1 => ∃ c, x = .bl c ∧ if c = true then a σ H1 Q else b σ H1 Q) T hi E hσ js hta hjs hz fun H' s => ⟨_, rfl, ifD (fun c => h1 c H' s) (fun c => h2 c H' s)⟩
theorem t_fld {n : Nat} {σ : L2.St} {Q : VK} (T : Txt K mg A) (hi : i < 40) (E : ErF A H e i vs) (hσ : σ[0]? = some (some (.ref e))) (hj : (fd i)[n]? = some f) (hv : vs[n]? = some v) (q : Q v H) : VEv.tFldV K f (tVar 0) σ H Q :=
  ⟨_, hσ, fld T hi E hj hv q⟩
theorem ok_l_told (T : Txt K mg A) : FnOk P w K mg base CX0 2 A.f_l_told A.d_l_told ["_law_e"] (sp_l_told K A) := by
  refine T.F_l_told.ok sc_l_told (fun vs H Q E h => ?_) (fun cdv A0 outer s H vs Q E hr h => ?_)
  · obtain ⟨e, i, v, rfl, hi, hl, E, q⟩ := h
    rfl
  · obtain ⟨e, i, v, rfl, hi, hl, E, q⟩ := h
    refine ⟨_, (pss_cons (ps_if (pt_val (pe_callB (r := VEv.rAskV K) VEv.call_askV (by rfl) T.isinstance (by decide +kernel) (pa_cons (pv 0) (pa_cons (pe_tup (pa_cons (pe_glob (v := .ref A.InvalidPiece) rfl T.e_InvalidPiece.m rfl) (pa_cons (pe_glob (v := .ref A.InvalidRecord) rfl T.e_InvalidRecord.m rfl) (pa_cons (pe_glob (v := .ref A.InvalidVisits) rfl T.e_InvalidVisits.m rfl) (pa_cons (pe_glob (v := .ref A.InvalidSupply) rfl T.e_InvalidSupply.m rfl) (pa_cons (pe_glob (v := .ref A.InvalidPath) rfl T.e_InvalidPath.m rfl) (pa_cons (pe_glob (v := .ref A.InvalidSplit) rfl T.e_InvalidSplit.m rfl) pa_nil))))))) pa_nil)))) (pss_one (ps_ret (VEv.pe_fldV (pv 0)))) pss_nil)
    (pss_cons (ps_if (pt_val (pe_callB (r := VEv.rAskV K) VEv.call_askV (by rfl) T.isinstance (by decide +kernel) (pa_cons (pv 0) (pa_cons (pe_glob (v := .ref A.InvalidFaults) rfl T.e_InvalidFaults.m rfl) pa_nil)))) (pss_one (ps_ret (VEv.pe_fldV (pv 0)))) pss_nil)
    (pss_cons (ps_if (pt_val (pe_callB (r := VEv.rAskV K) VEv.call_askV (by rfl) T.isinstance (by decide +kernel) (pa_cons (pv 0) (pa_cons (pe_tup (pa_cons (pe_glob (v := .ref A.InvalidVisit) rfl T.e_InvalidVisit.m rfl) (pa_cons (pe_glob (v := .ref A.InvalidStation) rfl T.e_InvalidStation.m rfl) (pa_cons (pe_glob (v := .ref A.InvalidFault) rfl T.e_InvalidFault.m rfl) pa_nil)))) pa_nil)))) (pss_one (ps_ret (VEv.pe_fldV (pv 0)))) pss_nil)
    (pss_cons (ps_if (pt_val (pe_callB (r := VEv.rAskV K) VEv.call_askV (by rfl) T.isinstance (by decide +kernel) (pa_cons (pv 0) (pa_cons (pe_glob (v := .ref A.InvalidText) rfl T.e_InvalidText.m rfl) pa_nil)))) (pss_one (ps_ret (VEv.pe_fldV (pv 0)))) pss_nil)
    (pss_cons (ps_if (pt_val (pe_callB (r := VEv.rAskV K) VEv.call_askV (by rfl) T.isinstance (by decide +kernel) (pa_cons (pv 0) (pa_cons (pe_glob (v := .ref A.NameTaken) rfl T.e_NameTaken.m rfl) pa_nil)))) (pss_one (ps_ret (VEv.pe_fldV (pv 0)))) pss_nil)
    (pss_cons (ps_if (pt_val (pe_callB (r := VEv.rAskV K) VEv.call_askV (by rfl) T.isinstance (by decide +kernel) (pa_cons (pv 0) (pa_cons (pe_glob (v := .ref A.TooSlow) rfl T.e_TooSlow.m rfl) pa_nil)))) (pss_one (ps_ret (VEv.pe_fldV (pv 0)))) pss_nil)
    (pss_cons (ps_if (pt_val (pe_callB (r := VEv.rAskV K) VEv.call_askV (by rfl) T.isinstance (by decide +kernel) (pa_cons (pv 0) (pa_cons (pe_glob (v := .ref A.Refused) rfl T.e_Refused.m rfl) pa_nil)))) (pss_one (ps_ret (VEv.pe_fldV (pv 0)))) pss_nil)
    (pss_cons (ps_if (pt_val (pe_callB (r := VEv.rAskV K) VEv.call_askV (by rfl) T.isinstance (by decide +kernel) (pa_cons (pv 0) (pa_cons (pe_glob (v := .ref A.NoSplits) rfl T.e_NoSplits.m rfl) pa_nil)))) (pss_one (ps_ret (VEv.pe_fldV (pv 0)))) pss_nil)
    (pss_cons (ps_if (pt_val (pe_callB (r := VEv.rAskV K) VEv.call_askV (by rfl) T.isinstance (by decide +kernel) (pa_cons (pv 0) (pa_cons (pe_glob (v := .ref A.Exposed) rfl T.e_Exposed.m rfl) pa_nil)))) (pss_one (ps_ret (VEv.pe_fldV (pv 0)))) pss_nil)
    (pss_one (ps_ret (pe_ifExp (pt_val (pe_callB (r := VEv.rAskV K) VEv.call_askV (by rfl) T.isinstance (by decide +kernel) (pa_cons (pv 0) (pa_cons (pe_tup (pa_cons (pe_glob (v := .ref A.TooLong) rfl T.e_TooLong.m rfl) (pa_cons (pe_glob (v := .ref A.TooMany) rfl T.e_TooMany.m rfl) pa_nil))) pa_nil)))) (VEv.pe_fldV (pv 0)) (VEv.pe_fldV (pv 0)))))))))))))), ?_⟩
    have F : ∀ {H' : Hp} {f : Str}, Same H H' → fd i = [f] → VEv.tFldV K f (tVar 0) [some (V.ref e)] H' Q := fun s h => t_fld (n := 0) T hi (E.gr (.same s)) rfl (by rw [h]; rfl) rfl (q _ s)
    refine s_if_tup T hi E rfl [1, 4, 6, 7, 12, 13] (fun _ => rfl) (by decide) (by decide) (fun c _ s => F s (f_pos i c)) fun c1 H1 s1 => ?_
    have E1 := E.gr (.same s1)
    refine s_if_one T hi E1 rfl 17 rfl (by decide) (fun c => F s1 (by subst c; rfl)) fun c2 => ?_
    refine s_if_tup T hi E1 rfl [5, 9, 16] (fun _ => rfl) (by decide) (by decide) (fun c _ s => F (s1.trans s) (f_prob i c)) fun c3 H2 s2' => ?_
    have s2 := s1.trans s2'
    have E2 := E.gr (.same s2)
    refine s_if_one T hi E2 rfl 21 rfl (by decide) (fun c => F s2 (by subst c; rfl)) fun c4 => ?_
    refine s_if_one T hi E2 rfl 27 rfl (by decide) (fun c => F s2 (by subst c; rfl)) fun c5 => ?_
    refine s_if_one T hi E2 rfl 29 rfl (by decide) (fun c => F s2 (by subst c; rfl)) fun c6 => ?_
    refine s_if_one T hi E2 rfl 30 rfl (by decide) (fun c => F s2 (by subst c; rfl)) fun c7 => ?_
    refine s_if_one T hi E2 rfl 34 rfl (by decide) (fun c => F s2 (by subst c; rfl)) fun c8 => ?_
    refine s_if_one T hi E2 rfl 35 rfl (by decide) (fun c => F s2 (by subst c; rfl)) fun c9 => ?_
    refine s_ret ?_
    exact i_tup T hi E2 rfl [38, 39] (fun _ => rfl) (by decide) (by decide) (fun c _ s => F (s2.trans s) (f_lim i c)) fun c10 H3 s3 => F (s2.trans s3) (f_val hi hl c1 c2 c3 c4 c5 c6 c7 c8 c9 c10)
theorem ok_l_parts (T : Txt K mg A) : FnOk P w K mg base CX0 2 A.f_l_parts A.d_l_parts ["_law_e"] (sp_l_parts K A) := by
  refine T.F_l_parts.ok sc_l_parts (fun vs H Q E h => ?_) (fun cdv A0 outer s H vs Q E hr h => ?_)
  · obtain ⟨e, i, us, rfl, hi, hl, hu, E, q⟩ := h
    rfl
  · obtain ⟨e, i, us, rfl, hi, hl, hu, E, q⟩ := h
    refine ⟨_, (pss_cons (ps_if (pt_val (pe_callB (r := VEv.rAskV K) VEv.call_askV (by rfl) T.isinstance (by decide +kernel) (pa_cons (pv 0) (pa_cons (pe_tup (pa_cons (pe_glob (v := .ref A.InvalidCurve) rfl T.e_InvalidCurve.m rfl) (pa_cons (pe_glob (v := .ref A.InvalidNetwork) rfl T.e_InvalidNetwork.m rfl) pa_nil))) pa_nil)))) (pss_one (ps_ret (pe_lst (pa_cons (VEv.pe_fldV (pv 0)) (pa_cons (VEv.pe_fldV (pv 0)) pa_nil))))) pss_nil)
    (pss_cons (ps_if (pt_val (pe_callB (r := VEv.rAskV K) VEv.call_askV (by rfl) T.isinstance (by decide +kernel) (pa_cons (pv 0) (pa_cons (pe_glob (v := .ref A.NoLink) rfl T.e_NoLink.m rfl) pa_nil)))) (pss_one (ps_ret (pe_lst (pa_cons (VEv.pe_fldV (pv 0)) (pa_cons (VEv.pe_fldV (pv 0)) pa_nil))))) pss_nil)
    (pss_cons (ps_if (pt_val (pe_callB (r := VEv.rAskV K) VEv.call_askV (by rfl) T.isinstance (by decide +kernel) (pa_cons (pv 0) (pa_cons (pe_glob (v := .ref A.NotGood) rfl T.e_NotGood.m rfl) pa_nil)))) (pss_one (ps_ret (pe_lst (pa_cons (VEv.pe_fldV (pv 0)) (pa_cons (VEv.pe_fldV (pv 0)) pa_nil))))) pss_nil)
    (pss_cons (ps_if (pt_val (pe_callB (r := VEv.rAskV K) VEv.call_askV (by rfl) T.isinstance (by decide +kernel) (pa_cons (pv 0) (pa_cons (pe_glob (v := .ref A.RunFailed) rfl T.e_RunFailed.m rfl) pa_nil)))) (pss_one (ps_ret (pe_lst (pa_cons (VEv.pe_fldV (pv 0)) (pa_cons (VEv.pe_fldV (pv 0)) pa_nil))))) pss_nil)
    (pss_one (ps_ret (pe_ifExp (pt_val (pe_callB (r := VEv.rAskV K) VEv.call_askV (by rfl) T.isinstance (by decide +kernel) (pa_cons (pv 0) (pa_cons (pe_glob (v := .ref A.Overfull) rfl T.e_Overfull.m rfl) pa_nil)))) (pe_lst (pa_cons (VEv.pe_fldV (pv 0)) (pa_cons (VEv.pe_fldV (pv 0)) pa_nil))) (pe_lst pa_nil)))))))), ?_⟩
    have F : ∀ {H' : Hp} {f g : Str}, Same H H' → fd i = [f, g] → tLst (tCons (VEv.tFldV K f (tVar 0)) (tCons (VEv.tFldV K g (tVar 0)) tNil)) [some (V.ref e)] H' Q := fun {H' f g} s h => by
      rw [h] at hu
      match us, hu with
      | [x, y], _ =>
        exact t_fld (n := 0) (Q := fun u H1 => VEv.tFldV K g (tVar 0) [some (V.ref e)] H1 fun u2 H2 => [u, u2].length ≤ sizeLine ∧ ∀ p, H2 p = none → Q (.ref p) (upd H2 p (.lst [u, u2]))) T hi (E.gr (.same s)) rfl (by rw [h]; rfl) rfl
          (t_fld (n := 1) T hi (E.gr (.same s)) rfl (by rw [h]; rfl) rfl ⟨sz_le (by show 2 ≤ 1000; decide), fun p hp => q p _ (Same.upd s (s.free hp)) (s.free hp) upd_same⟩)
    refine s_if_tup T hi E rfl [0, 10] (fun _ => rfl) (by decide) (by decide) (fun c _ s => F s (f_two i c)) fun c1 H1 s1 => ?_
    have E1 := E.gr (.same s1)
    refine s_if_one T hi E1 rfl 26 rfl (by decide) (fun c => F s1 (by subst c; rfl)) fun c2 => ?_
    refine s_if_one T hi E1 rfl 28 rfl (by decide) (fun c => F s1 (by subst c; rfl)) fun c3 => ?_
    refine s_if_one T hi E1 rfl 37 rfl (by decide) (fun c => F s1 (by subst c; rfl)) fun c4 => ?_
    refine s_ret ?_
    refine i_one T hi E1 rfl 31 rfl (by decide) (fun c => F s1 (by subst c; rfl)) fun c5 => ?_
    rw [f_none hi hl c1 c2 c3 c4 c5] at hu
    match us, hu with
    | [], _ => exact ⟨sz_le (by show 0 ≤ 1000; decide), fun p hp => q p _ (Same.upd s1 (s1.free hp)) (s1.free hp) upd_same⟩
end
end VK


namespace VK
open PySem PySem.Spec PyProof.Rows L2 VM
def gE (A : Ad) (e : Addr) (i : Nat) (us : List V) : Gd := ⟨fun σ H => σ[0]? = some (some (.ref e)) ∧ ErF A H e i us, fun s h => ⟨h.1, h.2.gr (.same s)⟩⟩
def sp_l_classes (_ : PySem.W.Frag) (A : Ad) : Sp := fun vs H Q _ => ∃ e i us, vs = [.ref e] ∧ i < 40 ∧ ErF A H e i us ∧ ∀ l H', Same H H' → H l = none → H' l = some (.lst [.int (i : Nat)]) → Q (.ref l) H'
section
variable {P : Program} {w : World} {K : PySem.W.Frag} {mg : Str → Option Value} {base : Heap} {A : Ad} {H : Hp} {e p : Addr} {i j : Nat} {us : List V} {v : V} {f : Str} {Q : VK} {C : Addr}
theorem askR (T : Txt K mg A) (hi : i < 40) (j : Nat) (hC : cl A j = C) (hj : j < 40) : YE (tCB (VEv.rAskV K) (tCons (tVar 0) (tCons (tC (.ref C)) tNil))) (gE A e i us) (SR.val (.bl (decide (i = j)))) := fun σ H g Q k => t_ask1 T hi g.2 g.1 j hC hj (k _ H (Same.refl H) rfl)
/-- a comprehension whose source is evaluated -/
theorem c_enum {te tv : TE} {g : TG} {tt : TT} {vs : List Nat} {σ : L2.St} (h : te σ H fun x H1 => ∃ (a : Addr) (xs : List V), [x] = [V.ref a] ∧ SqL K H1 a xs ∧ tLc (fun _ _ R => R (Ite K a) H1) g tt tv vs σ H1 Q) : tLc (iEnum K (tCons te tNil)) g tt tv vs σ H Q := h
theorem allR_val : ∀ {us xs : List V}, AllR H (us.map SR.val) xs → xs = us
  | [], [], _ => rfl
  | u :: us, x :: xs, h => by
    obtain ⟨h1, h2⟩ := h
    have e : x = u := h1
    rw [e, allR_val h2]
  | [], _ :: _, h => h.elim
  | _ :: _, [], h => h.elim
def bls (i : Nat) : List V := (List.range 40).map fun j => V.bl (decide (i = j))
theorem bls_at {i j : Nat} (h : j < 40) : (bls i)[j]? = some (.bl (decide (i = j))) := by
  unfold bls
  rw [List.getElem?_map, List.getElem?_range h]
  rfl
theorem ok_l_classes (T : Txt K mg A) : FnOk P w K mg base CX0 2 A.f_l_classes A.d_l_classes ["_law_e"] (sp_l_classes K A) := by
  refine T.F_l_classes.ok sc_l_classes (fun vs H Q E h => ?_) (fun cdv A0 outer s H vs Q E hr h => ?_)
  · obtain ⟨e, i, us, rfl, hi, E, q⟩ := h
    rfl
  · obtain ⟨e, i, us, rfl, hi, E, q⟩ := h
    refine ⟨_, (pss_cons (ps_set (i := 1) sc_l_classes.nd rfl (by first | exact Or.inl rfl | exact Or.inr rfl) (pe_lst (pa_cons (pe_callB (r := VEv.rAskV K) VEv.call_askV (by rfl) T.isinstance (by decide +kernel) (pa_cons (pv 0) (pa_cons (pe_glob (v := .ref A.InvalidCurve) rfl T.e_InvalidCurve.m rfl) pa_nil))) (pa_cons (pe_callB (r := VEv.rAskV K) VEv.call_askV (by rfl) T.isinstance (by decide +kernel) (pa_cons (pv 0) (pa_cons (pe_glob (v := .ref A.InvalidPiece) rfl T.e_InvalidPiece.m rfl) pa_nil))) (pa_cons (pe_callB (r := VEv.rAskV K) VEv.call_askV (by rfl) T.isinstance (by decide +kernel) (pa_cons (pv 0) (pa_cons (pe_glob (v := .ref A.InvalidLength) rfl T.e_InvalidLength.m rfl) pa_nil))) pa_nil)))))
    (pss_cons (ps_set (i := 1) sc_l_classes.nd rfl (by first | exact Or.inl rfl | exact Or.inr rfl) (pe_op op_cat (pv 1) (pe_lst (pa_cons (pe_callB (r := VEv.rAskV K) VEv.call_askV (by rfl) T.isinstance (by decide +kernel) (pa_cons (pv 0) (pa_cons (pe_glob (v := .ref A.InvalidCount) rfl T.e_InvalidCount.m rfl) pa_nil))) (pa_cons (pe_callB (r := VEv.rAskV K) VEv.call_askV (by rfl) T.isinstance (by decide +kernel) (pa_cons (pv 0) (pa_cons (pe_glob (v := .ref A.InvalidRecord) rfl T.e_InvalidRecord.m rfl) pa_nil))) (pa_cons (pe_callB (r := VEv.rAskV K) VEv.call_askV (by rfl) T.isinstance (by decide +kernel) (pa_cons (pv 0) (pa_cons (pe_glob (v := .ref A.InvalidVisit) rfl T.e_InvalidVisit.m rfl) pa_nil))) pa_nil))))))
    (pss_cons (ps_set (i := 1) sc_l_classes.nd rfl (by first | exact Or.inl rfl | exact Or.inr rfl) (pe_op op_cat (pv 1) (pe_lst (pa_cons (pe_callB (r := VEv.rAskV K) VEv.call_askV (by rfl) T.isinstance (by decide +kernel) (pa_cons (pv 0) (pa_cons (pe_glob (v := .ref A.InvalidVisits) rfl T.e_InvalidVisits.m rfl) pa_nil))) (pa_cons (pe_callB (r := VEv.rAskV K) VEv.call_askV (by rfl) T.isinstance (by decide +kernel) (pa_cons (pv 0) (pa_cons (pe_glob (v := .ref A.InvalidSupply) rfl T.e_InvalidSupply.m rfl) pa_nil))) (pa_cons (pe_callB (r := VEv.rAskV K) VEv.call_askV (by rfl) T.isinstance (by decide +kernel) (pa_cons (pv 0) (pa_cons (pe_glob (v := .ref A.InvalidWindow) rfl T.e_InvalidWindow.m rfl) pa_nil))) pa_nil))))))
    (pss_cons (ps_set (i := 1) sc_l_classes.nd rfl (by first | exact Or.inl rfl | exact Or.inr rfl) (pe_op op_cat (pv 1) (pe_lst (pa_cons (pe_callB (r := VEv.rAskV K) VEv.call_askV (by rfl) T.isinstance (by decide +kernel) (pa_cons (pv 0) (pa_cons (pe_glob (v := .ref A.InvalidStation) rfl T.e_InvalidStation.m rfl) pa_nil))) (pa_cons (pe_callB (r := VEv.rAskV K) VEv.call_askV (by rfl) T.isinstance (by decide +kernel) (pa_cons (pv 0) (pa_cons (pe_glob (v := .ref A.InvalidNetwork) rfl T.e_InvalidNetwork.m rfl) pa_nil))) (pa_cons (pe_callB (r := VEv.rAskV K) VEv.call_askV (by rfl) T.isinstance (by decide +kernel) (pa_cons (pv 0) (pa_cons (pe_glob (v := .ref A.InvalidName) rfl T.e_InvalidName.m rfl) pa_nil))) pa_nil))))))
    (pss_cons (ps_set (i := 1) sc_l_classes.nd rfl (by first | exact Or.inl rfl | exact Or.inr rfl) (pe_op op_cat (pv 1) (pe_lst (pa_cons (pe_callB (r := VEv.rAskV K) VEv.call_askV (by rfl) T.isinstance (by decide +kernel) (pa_cons (pv 0) (pa_cons (pe_glob (v := .ref A.InvalidPath) rfl T.e_InvalidPath.m rfl) pa_nil))) (pa_cons (pe_callB (r := VEv.rAskV K) VEv.call_askV (by rfl) T.isinstance (by decide +kernel) (pa_cons (pv 0) (pa_cons (pe_glob (v := .ref A.InvalidSplit) rfl T.e_InvalidSplit.m rfl) pa_nil))) (pa_cons (pe_callB (r := VEv.rAskV K) VEv.call_askV (by rfl) T.isinstance (by decide +kernel) (pa_cons (pv 0) (pa_cons (pe_glob (v := .ref A.InvalidTime) rfl T.e_InvalidTime.m rfl) pa_nil))) pa_nil))))))
    (pss_cons (ps_set (i := 1) sc_l_classes.nd rfl (by first | exact Or.inl rfl | exact Or.inr rfl) (pe_op op_cat (pv 1) (pe_lst (pa_cons (pe_callB (r := VEv.rAskV K) VEv.call_askV (by rfl) T.isinstance (by decide +kernel) (pa_cons (pv 0) (pa_cons (pe_glob (v := .ref A.InvalidTick) rfl T.e_InvalidTick.m rfl) pa_nil))) (pa_cons (pe_callB (r := VEv.rAskV K) VEv.call_askV (by rfl) T.isinstance (by decide +kernel) (pa_cons (pv 0) (pa_cons (pe_glob (v := .ref A.InvalidFault) rfl T.e_InvalidFault.m rfl) pa_nil))) (pa_cons (pe_callB (r := VEv.rAskV K) VEv.call_askV (by rfl) T.isinstance (by decide +kernel) (pa_cons (pv 0) (pa_cons (pe_glob (v := .ref A.InvalidFaults) rfl T.e_InvalidFaults.m rfl) pa_nil))) pa_nil))))))
    (pss_cons (ps_set (i := 1) sc_l_classes.nd rfl (by first | exact Or.inl rfl | exact Or.inr rfl) (pe_op op_cat (pv 1) (pe_lst (pa_cons (pe_callB (r := VEv.rAskV K) VEv.call_askV (by rfl) T.isinstance (by decide +kernel) (pa_cons (pv 0) (pa_cons (pe_glob (v := .ref A.InvalidHanded) rfl T.e_InvalidHanded.m rfl) pa_nil))) (pa_cons (pe_callB (r := VEv.rAskV K) VEv.call_askV (by rfl) T.isinstance (by decide +kernel) (pa_cons (pv 0) (pa_cons (pe_glob (v := .ref A.InvalidBook) rfl T.e_InvalidBook.m rfl) pa_nil))) (pa_cons (pe_callB (r := VEv.rAskV K) VEv.call_askV (by rfl) T.isinstance (by decide +kernel) (pa_cons (pv 0) (pa_cons (pe_glob (v := .ref A.InvalidWeights) rfl T.e_InvalidWeights.m rfl) pa_nil))) pa_nil))))))
    (pss_cons (ps_set (i := 1) sc_l_classes.nd rfl (by first | exact Or.inl rfl | exact Or.inr rfl) (pe_op op_cat (pv 1) (pe_lst (pa_cons (pe_callB (r := VEv.rAskV K) VEv.call_askV (by rfl) T.isinstance (by decide +kernel) (pa_cons (pv 0) (pa_cons (pe_glob (v := .ref A.InvalidText) rfl T.e_InvalidText.m rfl) pa_nil))) (pa_cons (pe_callB (r := VEv.rAskV K) VEv.call_askV (by rfl) T.isinstance (by decide +kernel) (pa_cons (pv 0) (pa_cons (pe_glob (v := .ref A.InvalidCommand) rfl T.e_InvalidCommand.m rfl) pa_nil))) (pa_cons (pe_callB (r := VEv.rAskV K) VEv.call_askV (by rfl) T.isinstance (by decide +kernel) (pa_cons (pv 0) (pa_cons (pe_glob (v := .ref A.UnknownStation) rfl T.e_UnknownStation.m rfl) pa_nil))) pa_nil))))))
    (pss_cons (ps_set (i := 1) sc_l_classes.nd rfl (by first | exact Or.inl rfl | exact Or.inr rfl) (pe_op op_cat (pv 1) (pe_lst (pa_cons (pe_callB (r := VEv.rAskV K) VEv.call_askV (by rfl) T.isinstance (by decide +kernel) (pa_cons (pv 0) (pa_cons (pe_glob (v := .ref A.UnknownStream) rfl T.e_UnknownStream.m rfl) pa_nil))) (pa_cons (pe_callB (r := VEv.rAskV K) VEv.call_askV (by rfl) T.isinstance (by decide +kernel) (pa_cons (pv 0) (pa_cons (pe_glob (v := .ref A.UnknownUnit) rfl T.e_UnknownUnit.m rfl) pa_nil))) (pa_cons (pe_callB (r := VEv.rAskV K) VEv.call_askV (by rfl) T.isinstance (by decide +kernel) (pa_cons (pv 0) (pa_cons (pe_glob (v := .ref A.NoLink) rfl T.e_NoLink.m rfl) pa_nil))) pa_nil))))))
    (pss_cons (ps_set (i := 1) sc_l_classes.nd rfl (by first | exact Or.inl rfl | exact Or.inr rfl) (pe_op op_cat (pv 1) (pe_lst (pa_cons (pe_callB (r := VEv.rAskV K) VEv.call_askV (by rfl) T.isinstance (by decide +kernel) (pa_cons (pv 0) (pa_cons (pe_glob (v := .ref A.NameTaken) rfl T.e_NameTaken.m rfl) pa_nil))) (pa_cons (pe_callB (r := VEv.rAskV K) VEv.call_askV (by rfl) T.isinstance (by decide +kernel) (pa_cons (pv 0) (pa_cons (pe_glob (v := .ref A.NotGood) rfl T.e_NotGood.m rfl) pa_nil))) (pa_cons (pe_callB (r := VEv.rAskV K) VEv.call_askV (by rfl) T.isinstance (by decide +kernel) (pa_cons (pv 0) (pa_cons (pe_glob (v := .ref A.TooSlow) rfl T.e_TooSlow.m rfl) pa_nil))) (pa_cons (pe_callB (r := VEv.rAskV K) VEv.call_askV (by rfl) T.isinstance (by decide +kernel) (pa_cons (pv 0) (pa_cons (pe_glob (v := .ref A.Refused) rfl T.e_Refused.m rfl) pa_nil))) pa_nil)))))))
    (pss_cons (ps_set (i := 1) sc_l_classes.nd rfl (by first | exact Or.inl rfl | exact Or.inr rfl) (pe_op op_cat (pv 1) (pe_lst (pa_cons (pe_callB (r := VEv.rAskV K) VEv.call_askV (by rfl) T.isinstance (by decide +kernel) (pa_cons (pv 0) (pa_cons (pe_glob (v := .ref A.Overfull) rfl T.e_Overfull.m rfl) pa_nil))) (pa_cons (pe_callB (r := VEv.rAskV K) VEv.call_askV (by rfl) T.isinstance (by decide +kernel) (pa_cons (pv 0) (pa_cons (pe_glob (v := .ref A.NotPlain) rfl T.e_NotPlain.m rfl) pa_nil))) (pa_cons (pe_callB (r := VEv.rAskV K) VEv.call_askV (by rfl) T.isinstance (by decide +kernel) (pa_cons (pv 0) (pa_cons (pe_glob (v := .ref A.HasReserves) rfl T.e_HasReserves.m rfl) pa_nil))) pa_nil))))))
    (pss_cons (ps_set (i := 1) sc_l_classes.nd rfl (by first | exact Or.inl rfl | exact Or.inr rfl) (pe_op op_cat (pv 1) (pe_lst (pa_cons (pe_callB (r := VEv.rAskV K) VEv.call_askV (by rfl) T.isinstance (by decide +kernel) (pa_cons (pv 0) (pa_cons (pe_glob (v := .ref A.NoSplits) rfl T.e_NoSplits.m rfl) pa_nil))) (pa_cons (pe_callB (r := VEv.rAskV K) VEv.call_askV (by rfl) T.isinstance (by decide +kernel) (pa_cons (pv 0) (pa_cons (pe_glob (v := .ref A.Exposed) rfl T.e_Exposed.m rfl) pa_nil))) (pa_cons (pe_callB (r := VEv.rAskV K) VEv.call_askV (by rfl) T.isinstance (by decide +kernel) (pa_cons (pv 0) (pa_cons (pe_glob (v := .ref A.NotLate) rfl T.e_NotLate.m rfl) pa_nil))) (pa_cons (pe_callB (r := VEv.rAskV K) VEv.call_askV (by rfl) T.isinstance (by decide +kernel) (pa_cons (pv 0) (pa_cons (pe_glob (v := .ref A.RunFailed) rfl T.e_RunFailed.m rfl) pa_nil))) pa_nil)))))))
    (pss_one (ps_ret (pe_lc (own := [("_law_k", 2), ("_law_here", 3)]) (g := gTup K 2 (gCons (gName 2) (gCons (gName 3) gNil))) rfl sc_l_classes.nd (pi_enum (by rfl) T.enumerate (pa_cons (pe_op op_cat (pv 1) (pe_lst (pa_cons (pe_callB (r := VEv.rAskV K) VEv.call_askV (by rfl) T.isinstance (by decide +kernel) (pa_cons (pv 0) (pa_cons (pe_glob (v := .ref A.TooLong) rfl T.e_TooLong.m rfl) pa_nil))) (pa_cons (pe_callB (r := VEv.rAskV K) VEv.call_askV (by rfl) T.isinstance (by decide +kernel) (pa_cons (pv 0) (pa_cons (pe_glob (v := .ref A.TooMany) rfl T.e_TooMany.m rfl) pa_nil))) pa_nil)))) pa_nil)) (blkOk_by (own := [("_law_k", 2), ("_law_here", 3)]) (N := ["_law_e", "_law_found", "_law_k", "_law_here"]) (sc := defScope s_l_classes) (by decide +kernel)) (fun _ _ _ _ _ => pg_tup rfl (pgs_cons (pg_name (i := 2) sc_l_classes.nd rfl (by first | exact Or.inl rfl | exact Or.inr rfl)) (pgs_cons (pg_name (i := 3) sc_l_classes.nd rfl (by first | exact Or.inl rfl | exact Or.inr rfl)) pgs_nil))) (fun _ _ _ _ _ => (pts_one (pt_val (pv 3)))) (fun _ _ _ _ _ => (pv 2))))))))))))))))), ?_⟩
    refine s_set ?_
    refine y_lst (G := gE A e i us) (Rs := [SR.val (.bl (decide (i = 0))), SR.val (.bl (decide (i = 1))), SR.val (.bl (decide (i = 2)))]) ?y0 ⟨rfl, E⟩ (sz_le (by show 3 ≤ 1000; decide)) fun l0 xs0 H0 s0 n0 e0 r0 => ?_
    case y0 => exact (.cons (askR T hi 0 rfl (by decide)) (.cons (askR T hi 1 rfl (by decide)) (.cons (askR T hi 2 rfl (by decide)) .nil)))
    have t0 := s0
    refine s_set ?_
    refine y_cat (G := gE A e i us) (Ss := [SR.val (.bl (decide (i = 3))), SR.val (.bl (decide (i = 4))), SR.val (.bl (decide (i = 5)))]) ?y1 ⟨rfl, E.gr (.same t0)⟩ rfl e0 r0 (sz_le (by show 3 + 3 ≤ 1000; decide)) fun l1 xs1 H1 s1 n1 e1 r1 => ?_
    case y1 => exact (.cons (askR T hi 3 rfl (by decide)) (.cons (askR T hi 4 rfl (by decide)) (.cons (askR T hi 5 rfl (by decide)) .nil)))
    have t1 := t0.trans s1
    refine s_set ?_
    refine y_cat (G := gE A e i us) (Ss := [SR.val (.bl (decide (i = 6))), SR.val (.bl (decide (i = 7))), SR.val (.bl (decide (i = 8)))]) ?y2 ⟨rfl, E.gr (.same t1)⟩ rfl e1 r1 (sz_le (by show 6 + 3 ≤ 1000; decide)) fun l2 xs2 H2 s2 n2 e2 r2 => ?_
    case y2 => exact (.cons (askR T hi 6 rfl (by decide)) (.cons (askR T hi 7 rfl (by decide)) (.cons (askR T hi 8 rfl (by decide)) .nil)))
    have t2 := t1.trans s2
    refine s_set ?_
    refine y_cat (G := gE A e i us) (Ss := [SR.val (.bl (decide (i = 9))), SR.val (.bl (decide (i = 10))), SR.val (.bl (decide (i = 11)))]) ?y3 ⟨rfl, E.gr (.same t2)⟩ rfl e2 r2 (sz_le (by show 9 + 3 ≤ 1000; decide)) fun l3 xs3 H3 s3 n3 e3 r3 => ?_
    case y3 => exact (.cons (askR T hi 9 rfl (by decide)) (.cons (askR T hi 10 rfl (by decide)) (.cons (askR T hi 11 rfl (by decide)) .nil)))
    have t3 := t2.trans s3
    refine s_set ?_
    refine y_cat (G := gE A e i us) (Ss := [SR.val (.bl (decide (i = 12))), SR.val (.bl (decide (i = 13))), SR.val (.bl (decide (i = 14)))]) ?y4 ⟨rfl, E.gr (.same t3)⟩ rfl e3 r3 (sz_le (by show 12 + 3 ≤ 1000; decide)) fun l4 xs4 H4 s4 n4 e4 r4 => ?_
    case y4 => exact (.cons (askR T hi 12 rfl (by decide)) (.cons (askR T hi 13 rfl (by decide)) (.cons (askR T hi 14 rfl (by decide)) .nil)))
    have t4 := t3.trans s4
    refine s_set ?_
    refine y_cat (G := gE A e i us) (Ss := [SR.val (.bl (decide (i = 15))), SR.val (.bl (decide (i = 16))), SR.val (.bl (decide (i = 17)))]) ?y5 ⟨rfl, E.gr (.same t4)⟩ rfl e4 r4 (sz_le (by show 15 + 3 ≤ 1000; decide)) fun l5 xs5 H5 s5 n5 e5 r5 => ?_
    case y5 => exact (.cons (askR T hi 15 rfl (by decide)) (.cons (askR T hi 16 rfl (by decide)) (.cons (askR T hi 17 rfl (by decide)) .nil)))
    have t5 := t4.trans s5
    refine s_set ?_
    refine y_cat (G := gE A e i us) (Ss := [SR.val (.bl (decide (i = 18))), SR.val (.bl (decide (i = 19))), SR.val (.bl (decide (i = 20)))]) ?y6 ⟨rfl, E.gr (.same t5)⟩ rfl e5 r5 (sz_le (by show 18 + 3 ≤ 1000; decide)) fun l6 xs6 H6 s6 n6 e6 r6 => ?_
    case y6 => exact (.cons (askR T hi 18 rfl (by decide)) (.cons (askR T hi 19 rfl (by decide)) (.cons (askR T hi 20 rfl (by decide)) .nil)))
    have t6 := t5.trans s6
    refine s_set ?_
    refine y_cat (G := gE A e i us) (Ss := [SR.val (.bl (decide (i = 21))), SR.val (.bl (decide (i = 22))), SR.val (.bl (decide (i = 23)))]) ?y7 ⟨rfl, E.gr (.same t6)⟩ rfl e6 r6 (sz_le (by show 21 + 3 ≤ 1000; decide)) fun l7 xs7 H7 s7 n7 e7 r7 => ?_
    case y7 => exact (.cons (askR T hi 21 rfl (by decide)) (.cons (askR T hi 22 rfl (by decide)) (.cons (askR T hi 23 rfl (by decide)) .nil)))
    have t7 := t6.trans s7
    refine s_set ?_
    refine y_cat (G := gE A e i us) (Ss := [SR.val (.bl (decide (i = 24))), SR.val (.bl (decide (i = 25))), SR.val (.bl (decide (i = 26)))]) ?y8 ⟨rfl, E.gr (.same t7)⟩ rfl e7 r7 (sz_le (by show 24 + 3 ≤ 1000; decide)) fun l8 xs8 H8 s8 n8 e8 r8 => ?_
    case y8 => exact (.cons (askR T hi 24 rfl (by decide)) (.cons (askR T hi 25 rfl (by decide)) (.cons (askR T hi 26 rfl (by decide)) .nil)))
    have t8 := t7.trans s8
    refine s_set ?_
    refine y_cat (G := gE A e i us) (Ss := [SR.val (.bl (decide (i = 27))), SR.val (.bl (decide (i = 28))), SR.val (.bl (decide (i = 29))), SR.val (.bl (decide (i = 30)))]) ?y9 ⟨rfl, E.gr (.same t8)⟩ rfl e8 r8 (sz_le (by show 27 + 4 ≤ 1000; decide)) fun l9 xs9 H9 s9 n9 e9 r9 => ?_
    case y9 => exact (.cons (askR T hi 27 rfl (by decide)) (.cons (askR T hi 28 rfl (by decide)) (.cons (askR T hi 29 rfl (by decide)) (.cons (askR T hi 30 rfl (by decide)) .nil))))
    have t9 := t8.trans s9
    refine s_set ?_
    refine y_cat (G := gE A e i us) (Ss := [SR.val (.bl (decide (i = 31))), SR.val (.bl (decide (i = 32))), SR.val (.bl (decide (i = 33)))]) ?y10 ⟨rfl, E.gr (.same t9)⟩ rfl e9 r9 (sz_le (by show 31 + 3 ≤ 1000; decide)) fun l10 xs10 H10 s10 n10 e10 r10 => ?_
    case y10 => exact (.cons (askR T hi 31 rfl (by decide)) (.cons (askR T hi 32 rfl (by decide)) (.cons (askR T hi 33 rfl (by decide)) .nil)))
    have t10 := t9.trans s10
    refine s_set ?_
    refine y_cat (G := gE A e i us) (Ss := [SR.val (.bl (decide (i = 34))), SR.val (.bl (decide (i = 35))), SR.val (.bl (decide (i = 36))), SR.val (.bl (decide (i = 37)))]) ?y11 ⟨rfl, E.gr (.same t10)⟩ rfl e10 r10 (sz_le (by show 34 + 4 ≤ 1000; decide)) fun l11 xs11 H11 s11 n11 e11 r11 => ?_
    case y11 => exact (.cons (askR T hi 34 rfl (by decide)) (.cons (askR T hi 35 rfl (by decide)) (.cons (askR T hi 36 rfl (by decide)) (.cons (askR T hi 37 rfl (by decide)) .nil))))
    have t11 := t10.trans s11
    refine s_ret (σ := [some (.ref e), some (.ref l11), none, none]) ?_
    refine c_enum ?_
    refine y_cat (G := gE A e i us) (Ss := [SR.val (.bl (decide (i = 38))), SR.val (.bl (decide (i = 39)))]) ?y12 ⟨rfl, E.gr (.same t11)⟩ rfl e11 r11 (sz_le (by show 38 + 2 ≤ 1000; decide)) fun l12 xs12 H12 s12 n12 e12 r12 => ⟨l12, xs12, rfl, SqL.of e12, ?_⟩
    case y12 => exact .cons (askR T hi 38 rfl (by decide)) (.cons (askR T hi 39 rfl (by decide)) .nil)
    have r : AllR H12 ((bls i).map SR.val) xs12 := r12
    have t12 := t11.trans s12
    obtain rfl : xs12 = bls i := allR_val r
    refine fun D hD => ?_
    refine lc_it (walk_enum (K := K) (a := l12) (xs := bls i)) (fun j H' => H' D = some (.lst (if i < j then [.int (i : Nat)] else [])) ∧ Same H12 H') ⟨upd_same, Same.upd (Same.refl _) hD⟩ (fun j H' _ ⟨_, s⟩ => s.seq (SqL.of e12)) ?_ ?_
    · rintro j y Hc Hd hj ⟨hB2, sB⟩ ⟨T', a', b', rfl, hT, rfl, ea, eb⟩
      have hj' : j < 40 := by
        have z : (bls i).length = 40 := by unfold bls; rw [List.length_map, List.length_range]
        omega
      replace eb := (bls_at hj').symm.trans eb
      cases ea
      cases eb
      have nBT : D ≠ T' := ne_of_none hB2 hT
      refine ⟨T', _, rfl, SqT.of upd_same, rfl, _, _, rfl, _, _, rfl, rfl, rfl, _, rfl, _, rfl, ifD (fun c => ?_) (fun c => ?_)⟩
      · subst c
        rw [if_neg (by omega)] at hB2
        refine ⟨_, rfl, _, (by rw [upd_ne nBT]; exact hB2), small (by decide), ?_, Same.upd (Same.upd sB (sB.free hT)) hD⟩
        rw [upd_same, if_pos (by omega)]
        rfl
      · refine ⟨?_, Same.upd sB (sB.free hT)⟩
        rw [upd_ne nBT, hB2]
        by_cases z : i < j
        · rw [if_pos z, if_pos (by omega)]
        · rw [if_neg z, if_neg (by omega)]
    rintro H6 ⟨hD6, s6⟩
    rw [show (bls i).length = 40 by unfold bls; rw [List.length_map, List.length_range], if_pos hi] at hD6
    exact q D H6 (t12.trans s6) (t12.free hD) hD6
end
end VK


namespace VK
open PySem PySem.Spec PyProof.Rows L2 VM
def bw : Nat → Str
  | 0 => "dv"
  | 1 => "l"
  | 2 => "r"
  | _ => "a"
theorem bk_le : ∀ i, i < 40 → bk i ≤ 3 := by decide +kernel
def rMulS0 : R2 := fun x y H Q => ∃ (s : Str) (n : Int), x = .str s ∧ y = .int n ∧ ¬ n < -(2 ^ 63) ∧ n < 1 ∧ Q (.str Str.empty) H
theorem op_mulS0 {X : Cx} : OpR X (binaryOp .Mult) rMulS0 := by
  intro pins s σ H x y v u Q I rx ry h
  obtain ⟨z, n, rfl, rfl, h1, h2, q⟩ := h
  obtain ⟨t, rfl⟩ := rx
  obtain ⟨t', rfl⟩ := ry
  exact PySem.P.mul_str_none h2 h1 ⟨.str Str.empty, H, I.tok _, ⟨_, rfl⟩, q⟩
def sp_l_base (_ : PySem.W.Frag) (A : Ad) : Sp := fun vs H Q _ => ∃ e i us, vs = [.ref e] ∧ i < 40 ∧ ErF A H e i us ∧ ∀ H', Same H H' → Q (.str (bw (bk i))) H'
def sp_l_is_of (_ : PySem.W.Frag) (A : Ad) : Sp := fun vs H Q _ => ∃ e i us, vs = [.ref e, .str (wd (bk i))] ∧ i < 40 ∧ ErF A H e i us ∧ ∀ H', Same H H' → Q (.bl true) H'
abbrev exB : List String := ["ValueError", "LookupError", "RuntimeError", "ArithmeticError", "KeyError", "IndexError", "ZeroDivisionError", "OverflowError"]
theorem vals_ty : ∀ (js : List String) (ws : List Value), Vals (js.map fun j => V.ty j) ws → ws = js.map fun j => Value.type j
  | [], ws, r => by
    rw [List.map_nil] at r
    cases r
    rfl
  | j :: js, ws, r => by
    rw [List.map_cons] at r
    cases r with
    | cons h q =>
      cases h
      rw [List.map_cons, ← vals_ty js _ q]
/-- the five tests of a base -/
def fl (k : Nat) : List Bool := [decide (k = 0), isB k "ValueError", isB k "LookupError", isB k "RuntimeError", isB k "ArithmeticError"]
def ch : Nat → Str
  | 0 => "d"
  | 1 => "v"
  | 2 => "l"
  | 3 => "r"
  | _ => "a"
def pick (k j : Nat) : List Str := ((List.range j).filter fun n => (fl k).getD n false).map ch
theorem pick_succ (k j : Nat) : pick k (j + 1) = pick k j ++ if (fl k).getD j false = true then [ch j] else [] := by
  unfold pick
  rw [List.range_succ, List.filter_append, List.map_append]
  congr 1
  simp only [List.filter_cons, List.filter_nil]
  by_cases h : (fl k).getD j false = true
  · rw [if_pos h, if_pos h]
    rfl
  · rw [if_neg h, if_neg h]
    rfl
theorem ch_at : ∀ j, j < 5 → (Str.ofString "dvlra").cps[j]?.map (fun c => V.str ⟨#[c]⟩) = some (.str (ch j)) := by decide +kernel
theorem fl_at {k j : Nat} (h : j < 5) : ((fl k).map V.bl)[j]? = some (.bl ((fl k).getD j false)) := by
  have hj : j = 0 ∨ j = 1 ∨ j = 2 ∨ j = 3 ∨ j = 4 := by omega
  rcases hj with rfl | rfl | rfl | rfl | rfl <;> rfl
theorem walk_zipS {K : PySem.W.Frag} {x : Str} {b : Addr} {ys : List V} {n : Nat} (hn : n = min x.cps.size ys.length) : Walk (VZs.ItS K x b ys) n (fun H => SqL K H b ys) (YPair (fun i => x.cps[i]?.map fun c => V.str ⟨#[c]⟩) (fun i => ys[i]?)) := by
  refine ⟨fun i H hi q => ⟨q, by omega, by omega⟩, fun H q => ⟨q, by omega, by omega, by omega⟩, fun i H v H' _ q y => ?_⟩
  obtain ⟨T, c, y, h1, h2, h3, h4, h5⟩ := y
  exact ⟨T, .str ⟨#[c]⟩, y, h1, h2, h3, by show Option.map _ x.cps[i]? = _; rw [h4]; rfl, h5⟩
theorem pick_end : ∀ k, k ≤ 3 → Txt.join (Str.ofString "") (pick k 5) ++ Str.empty = bw k ∧ (pick k 5).length ≤ 5 ∧ ((pick k 5).map (·.length)).sum ≤ 5 ∧ (Txt.join (Str.ofString "") (pick k 5)).length ≤ 5 := by
  intro k hk
  have h : k = 0 ∨ k = 1 ∨ k = 2 ∨ k = 3 := by omega
  rcases h with rfl | rfl | rfl | rfl <;> decide +kernel
section
variable {P : Program} {w : World} {K : PySem.W.Frag} {mg : Str → Option Value} {base : Heap} {A : Ad} {H : Hp} {e p : Addr} {i j : Nat} {us : List V} {v : V} {f : Str} {Q : VK} {C : Addr}
theorem askRD (T : Txt K mg A) (hi : i < 40) : YE (tCB (VEv.rAskV K) (tCons (tVar 0) (tCons (tC (.ref A.DueError)) tNil))) (gE A e i us) (SR.val (.bl (decide (bk i = 0)))) := fun σ H g Q k => by
  have z : VEv.rAskV K [V.ref e, V.ref A.DueError] H Q := ask_due T hi g.2 (k _ H (Same.refl H) rfl)
  exact ⟨_, g.1, z⟩
theorem askRB (T : Txt K mg A) (hi : i < 40) (B : String) (hB : B ∈ exB) : YE (tCB (VEv.rAskV K) (tCons (tVar 0) (tCons (tC (.ty B)) tNil))) (gE A e i us) (SR.val (.bl (isB (bk i) B))) := fun σ H g Q k => by
  have z : VEv.rAskV K [V.ref e, V.ty B] H Q := ask_b T hi g.2 B hB (k _ H (Same.refl H) rfl)
  exact ⟨_, g.1, z⟩
theorem kitAnyB (T : Txt K mg A) (hi : i < 40) : ∀ js : List String, (∀ j ∈ js, j ∈ exB ∧ isB (bk i) j = false) → PySem.W.kitAny K (.ref (cl A i)) (js.map fun j => Value.type j) = some false
  | [], _ => rfl
  | j :: js, h => by
    rw [List.map_cons]
    unfold PySem.W.kitAny
    obtain ⟨h1, h2⟩ := h j List.mem_cons_self
    rw [kitB T hi h1, h2]
    exact kitAnyB T hi js fun k hk => h k (List.mem_cons_of_mem _ hk)
theorem t_askB {σ : L2.St} {ta : TA} (T : Txt K mg A) (hi : i < 40) (E : ErF A H e i us) (hσ : σ[0]? = some (some (.ref e))) (js : List String) (hta : ∀ Q, ta σ H Q = Q (js.map fun j => V.ty j) H) (hjs : ∀ j ∈ js, j ∈ exB ∧ isB (bk i) j = false) (hz : js.length ≤ 1000)
    (q : ∀ H', Same H H' → Q (.bl false) H') : tCB (VEv.rAskV K) (tCons (tVar 0) (tCons (tTup ta) tNil)) σ H Q := by
  have z : tTup ta σ H fun x H1 => VEv.rAskV K [V.ref e, x] H1 Q := by
    show ta σ H _
    rw [hta]
    refine ⟨by rw [List.length_map]; exact sz_le hz, fun p hp => ?_⟩
    have s1 := Same.upd (o := .tup (js.map fun j => V.ty j)) (Same.refl H) hp
    exact ⟨e, cl A i, .ref p, false, rfl, (cn T i hi).as, (E.gr (.same s1)).at, .inr ⟨p, _, _, rfl, upd_same, vals_ty js, kitAnyB T hi js hjs⟩, q _ s1⟩
  exact ⟨_, hσ, z⟩
theorem ok_l_base (T : Txt K mg A) : FnOk P w K mg base CX0 2 A.f_l_base A.d_l_base ["_law_e"] (sp_l_base K A) := by
  refine T.F_l_base.ok sc_l_base (fun vs H Q E h => ?_) (fun cdv A0 outer s H vs Q E hr h => ?_)
  · obtain ⟨e, i, us, rfl, hi, E, q⟩ := h
    rfl
  · obtain ⟨e, i, us, rfl, hi, E, q⟩ := h
    refine ⟨_, (pss_cons (ps_set (i := 1) sc_l_base.nd rfl (by first | exact Or.inl rfl | exact Or.inr rfl) (pe_lst (pa_cons (pe_callB (r := VEv.rAskV K) VEv.call_askV (by rfl) T.isinstance (by decide +kernel) (pa_cons (pv 0) (pa_cons (pe_glob (v := .ref A.DueError) rfl T.e_DueError.m rfl) pa_nil))) (pa_cons (pe_callB (r := VEv.rAskV K) VEv.call_askV (by rfl) T.isinstance (by decide +kernel) (pa_cons (pv 0) (pa_cons (pe_bltn (v := .ty "ValueError") (u := .type "ValueError") (by rfl) T.ValueError (by decide +kernel) (by exact rfl)) pa_nil))) (pa_cons (pe_callB (r := VEv.rAskV K) VEv.call_askV (by rfl) T.isinstance (by decide +kernel) (pa_cons (pv 0) (pa_cons (pe_bltn (v := .ty "LookupError") (u := .type "LookupError") (by rfl) T.LookupError (by decide +kernel) (by exact rfl)) pa_nil))) pa_nil)))))
    (pss_cons (ps_set (i := 1) sc_l_base.nd rfl (by first | exact Or.inl rfl | exact Or.inr rfl) (pe_op op_cat (pv 1) (pe_lst (pa_cons (pe_callB (r := VEv.rAskV K) VEv.call_askV (by rfl) T.isinstance (by decide +kernel) (pa_cons (pv 0) (pa_cons (pe_bltn (v := .ty "RuntimeError") (u := .type "RuntimeError") (by rfl) T.RuntimeError (by decide +kernel) (by exact rfl)) pa_nil))) (pa_cons (pe_callB (r := VEv.rAskV K) VEv.call_askV (by rfl) T.isinstance (by decide +kernel) (pa_cons (pv 0) (pa_cons (pe_bltn (v := .ty "ArithmeticError") (u := .type "ArithmeticError") (by rfl) T.ArithmeticError (by decide +kernel) (by exact rfl)) pa_nil))) pa_nil)))))
    (pss_cons (ps_set (i := 2) sc_l_base.nd rfl (by first | exact Or.inl rfl | exact Or.inr rfl) (pe_callB (r := VEv.rAskV K) VEv.call_askV (by rfl) T.isinstance (by decide +kernel) (pa_cons (pv 0) (pa_cons (pe_tup (pa_cons (pe_bltn (v := .ty "KeyError") (u := .type "KeyError") (by rfl) T.KeyError (by decide +kernel) (by exact rfl)) (pa_cons (pe_bltn (v := .ty "IndexError") (u := .type "IndexError") (by rfl) T.IndexError (by decide +kernel) (by exact rfl)) (pa_cons (pe_bltn (v := .ty "ZeroDivisionError") (u := .type "ZeroDivisionError") (by rfl) T.ZeroDivisionError (by decide +kernel) (by exact rfl)) (pa_cons (pe_bltn (v := .ty "OverflowError") (u := .type "OverflowError") (by rfl) T.OverflowError (by decide +kernel) (by exact rfl)) pa_nil))))) pa_nil))))
    (pss_one (ps_ret (pe_op op_add_str (pe_join pe_str (pe_lc (own := [("_law_word", 3), ("_law_here", 4)]) (g := gTup K 2 (gCons (gName 3) (gCons (gName 4) gNil))) rfl sc_l_base.nd (VZs.pi_zipS (by rfl) T.zip (pa_cons pe_str (pa_cons (pv 1) pa_nil))) (blkOk_by (own := [("_law_word", 3), ("_law_here", 4)]) (N := ["_law_e", "_law_found", "_law_low", "_law_word", "_law_here"]) (sc := defScope s_l_base) (by decide +kernel)) (fun _ _ _ _ _ => pg_tup rfl (pgs_cons (pg_name (i := 3) sc_l_base.nd rfl (by first | exact Or.inl rfl | exact Or.inr rfl)) (pgs_cons (pg_name (i := 4) sc_l_base.nd rfl (by first | exact Or.inl rfl | exact Or.inr rfl)) pgs_nil))) (fun _ _ _ _ _ => (pts_one (pt_val (pv 4)))) (fun _ _ _ _ _ => (pv 3)))) (pe_op op_mulS0 pe_str (pe_callTy call_int1 (by rfl) T.int (by decide +kernel) (pa_cons (pv 2) pa_nil))))))))), ?_⟩
    refine s_set ?_
    refine y_lst (G := gE A e i us) (Rs := [SR.val (.bl (decide (bk i = 0))), SR.val (.bl (isB (bk i) "ValueError")), SR.val (.bl (isB (bk i) "LookupError"))]) ?y0 ⟨rfl, E⟩ (sz_le (by show 3 ≤ 1000; decide)) fun l0 xs0 H0 s0 n0 e0 r0 => ?_
    case y0 => exact .cons (askRD T hi) (.cons (askRB T hi _ (by decide)) (.cons (askRB T hi _ (by decide)) .nil))
    refine s_set ?_
    refine y_cat (G := gE A e i us) (Ss := [SR.val (.bl (isB (bk i) "RuntimeError")), SR.val (.bl (isB (bk i) "ArithmeticError"))]) ?y1 ⟨rfl, E.gr (.same s0)⟩ rfl e0 r0 (sz_le (by show 3 + 2 ≤ 1000; decide)) fun l1 xs1 H1 s1 n1 e1 r1 => ?_
    case y1 => exact .cons (askRB T hi _ (by decide)) (.cons (askRB T hi _ (by decide)) .nil)
    have t1 := s0.trans s1
    have r : AllR H1 (((fl (bk i)).map V.bl).map SR.val) xs1 := r1
    obtain rfl : xs1 = (fl (bk i)).map V.bl := allR_val r
    refine s_set ?_
    refine t_askB T hi (E.gr (.same t1)) rfl ["KeyError", "IndexError", "ZeroDivisionError", "OverflowError"] (fun _ => rfl) (by
      have hk := bk_le i hi
      generalize bk i = k at hk
      have h : k = 0 ∨ k = 1 ∨ k = 2 ∨ k = 3 := by omega
      rcases h with rfl | rfl | rfl | rfl <;> decide) (by decide) fun H2 s2 => ?_
    have t2 := t1.trans s2
    have e2 := s2 _ _ e1
    refine s_ret (σ := [some (.ref e), some (.ref l1), some (.bl false), none, none]) ?_
    have hk := bk_le i hi
    generalize bk i = k at hk e2 q
    obtain ⟨je, jl, js, jn⟩ := pick_end k hk
    refine ⟨⟨_, rfl⟩, _, rfl, _, _, _, rfl, (by decide +kernel), SqL.of e2, fun D hD => ?_⟩
    refine lc_it (walk_zipS (K := K) (x := Str.ofString "dvlra") (b := l1) (ys := (fl k).map V.bl) (n := 5) (by rw [List.length_map]; show 5 = min _ 5; decide +kernel)) (fun j H' => H' D = some (.lst ((pick k j).map V.str)) ∧ Same H2 H') ⟨upd_same, Same.upd (Same.refl _) hD⟩ (fun j H' _ ⟨_, s⟩ => s.seq (SqL.of e2)) ?_ ?_
    · rintro j y Hc Hd hj ⟨hB2, sB⟩ ⟨T', a', b', rfl, hT, rfl, ea, eb⟩
      replace ea := (ch_at j hj).symm.trans ea
      replace eb := (fl_at hj).symm.trans eb
      cases ea
      cases eb
      have nBT : D ≠ T' := ne_of_none hB2 hT
      have hlen : (pick k j).length ≤ 5 := by
        unfold pick
        rw [List.length_map]
        exact Nat.le_trans (List.length_filter_le _ _) (by rw [List.length_range]; omega)
      refine ⟨T', _, rfl, SqT.of upd_same, rfl, _, _, rfl, _, _, rfl, rfl, rfl, _, rfl, _, rfl, ite2 (fun c => ?_) (fun c => ?_)⟩
      · refine ⟨_, rfl, _, (by rw [upd_ne nBT]; exact hB2), small (by rw [List.length_map]; omega), ?_, Same.upd (Same.upd sB (sB.free hT)) hD⟩
        rw [upd_same, pick_succ, if_pos c, List.map_append]
        rfl
      · refine ⟨?_, Same.upd sB (sB.free hT)⟩
        rw [upd_ne nBT, hB2, pick_succ, if_neg c, List.append_nil]
    rintro H6 ⟨hD6, s6⟩
    refine ⟨_, D, pick k 5, rfl, rfl, .inl (SqL.of hD6), (by
      show _ + _ * 0 ≤ _
      omega), ?_⟩
    refine ⟨_, rfl, .inr ⟨false, rfl, _, _, rfl, rfl, (by decide), (by decide), _, _, rfl, rfl, ?_, ?_⟩⟩
    · rw [sizeLine_eq]
      show _ + 0 ≤ _
      omega
    · rw [je]
      exact q H6 (t2.trans s6)
end
end VK


namespace VK
open PySem PySem.Spec PyProof.Rows L2 VM
abbrev wds : List (Key × V) := [(Sum.inr "due", V.str "dv"), (Sum.inr "lookup", V.str "l"), (Sum.inr "run", V.str "r"), (Sum.inr "sum", V.str "a")]
theorem wds_at : ∀ k, k ≤ 3 → some (V.str (bw k)) = valV (mergeK [] wds) (Sum.inr (wd k)) := by
  intro k hk
  have h : k = 0 ∨ k = 1 ∨ k = 2 ∨ k = 3 := by omega
  rcases h with rfl | rfl | rfl | rfl <;> decide +kernel
section
variable {P : Program} {w : World} {K : PySem.W.Frag} {mg : Str → Option Value} {base : Heap} {A : Ad} {H : Hp} {e p : Addr} {i j : Nat} {us : List V} {v : V} {f : Str} {Q : VK} {C : Addr}
theorem ok_l_is_of (T : Txt K mg A) : FnOk P w K mg base CX0 3 A.f_l_is_of A.d_l_is_of ["_law_e", "_law_word"] (sp_l_is_of K A) := by
  have G_l_base := ok_l_base (P := P) (w := w) (base := base) T
  refine T.F_l_is_of.ok sc_l_is_of (fun vs H Q E h => ?_) (fun cdv A0 outer s H vs Q E hr h => ?_)
  · obtain ⟨e, i, us, rfl, hi, E, q⟩ := h
    rfl
  · obtain ⟨e, i, us, rfl, hi, E, q⟩ := h
    refine ⟨_, (pss_one (ps_ret (pe_cmpR op_eq (pe_call G_l_base (hr.mono (by decide)) rfl T.m_l_base T.k_l_base T.b_l_base .nil pass0 (pa_cons (pv 0) pa_nil)) (pe_dget (VN.units1 hr) (pe_disp (pps_cons pe_str pe_str (pps_cons pe_str pe_str (pps_cons pe_str pe_str (pps_cons pe_str pe_str pps_nil)))) (by rfl) (by rfl) (by simp) (by decide)) (pv 1) (fun _ _ => rfl)) (nomark _)))), ?_⟩
    refine ⟨_, rfl, e, i, us, rfl, hi, E, fun H1 s1 p hp => ⟨upd_same, wds, rfl, (by decide), _, rfl, p, .str (bw (bk i)), rfl, ?_, ?_⟩⟩
    · exact .inl ⟨_, Sum.inr (wd (bk i)), .inl upd_same, rfl, wds_at _ (bk_le i hi)⟩
    · have e2 : ∀ b, upd (upd H1 p (HO.dK [])) p (HO.dK (mergeK [] wds)) b = upd H1 p (HO.dK (mergeK [] wds)) b := fun b => by
        by_cases z : b = p
        · subst z; rw [upd_same, upd_same]
        · rw [upd_ne z, upd_ne z, upd_ne z]
      refine ⟨rfl, ?_⟩
      rw [decide_eq_true rfl]
      exact q _ fun b o h => by rw [e2]; exact Same.upd s1 (s1.free hp) b o h
end
end VK


namespace VK
open PySem PySem.Spec PyProof.Rows L2 VM
/-- all but what lies in S stands -/
def Ex (S : List Addr) (H H' : Hp) : Prop := ∀ b o, b ∉ S → H b = some o → H' b = some o
theorem Ex.refl {S : List Addr} {H : Hp} : Ex S H H := fun _ _ _ e => e
theorem Ex.trans {S : List Addr} {H H1 H2 : Hp} (a : Ex S H H1) (b : Ex S H1 H2) : Ex S H H2 := fun c o n e => b c o n (a c o n e)
theorem Ex.same {S : List Addr} {H H' : Hp} (s : Same H H') : Ex S H H' := fun b o _ e => s b o e
theorem Ex.ext {S : List Addr} {p : Addr} {H H' : Hp} (s : Ext p H H') (hp : p ∈ S) : Ex S H H' := fun b o n e => s.keep b o (fun z => n (z ▸ hp)) e
theorem Ex.put {S : List Addr} {a : Addr} {H : Hp} {o : HO} (ha : a ∈ S) : Ex S H (upd H a o) := fun b u n e => by
  have nb : b ≠ a := fun z => n (by rw [z]; exact ha)
  rw [upd_ne nb]; exact e
/-- a thing that can be shown, whatever becomes of what lies in S -/
def Th (K : PySem.W.Frag) (H : Hp) (S : List Addr) (v : V) : Prop := ∃ d, (∀ H', Ex S H H' → VQ.Dm K H' v d) ∧ VR.Sz 3 400 d
theorem Th.ex {K : PySem.W.Frag} {H H' : Hp} {S : List Addr} {v : V} (h : Th K H S v) (e : Ex S H H') : Th K H' S v := by
  obtain ⟨d, h, z⟩ := h
  exact ⟨d, fun G s => h G (e.trans s), z⟩
def sp_l_thing (K : PySem.W.Frag) (_ : Ad) : Sp := fun vs H Q _ => ∃ r, vs = [.ref r] ∧ Rng H r ∧ ∀ H' v, Ext r H H' → Th K H' [r] v → Q v H'
def Rr (r : Addr) (H : Hp) : Prop := ∃ o, H r = some o
def YT (K : PySem.W.Frag) (r : Addr) (te : TE) : Prop := ∀ σ H, Rr r H → ∀ Q : VK, (∀ x H', Same H H' → Th K H' [r] x → Q x H') → te σ H Q
def YTs (K : PySem.W.Frag) (r : Addr) (n : Nat) (ta : TA) : Prop := ∀ σ H, Rr r H → ∀ Q : List V → Hp → Prop, (∀ xs H', Same H H' → (∀ x ∈ xs, Th K H' [r] x) → xs.length = n → Q xs H') → ta σ H Q
section
variable {K : PySem.W.Frag} {r p : Addr} {te : TE} {ta : TA} {n : Nat} {v : V} {d : PyData} {H : Hp} {xs : List V} {ds : List PyData}
theorem Rr.same {H' : Hp} (s : Same H H') (h : Rr r H) : Rr r H' := by
  obtain ⟨o, e⟩ := h
  exact ⟨o, s _ _ e⟩
theorem Rr.no (h : Rr r H) (hp : H p = none) : p ∉ [r] := by
  obtain ⟨o, e⟩ := h
  intro z
  rw [List.mem_singleton] at z
  rw [z, e] at hp
  cases hp
theorem YTs.nil : YTs K r 0 tNil := fun σ H g Q k => k [] H (Same.refl H) (fun x h => by cases h) rfl
theorem YTs.cons (a : YT K r te) (b : YTs K r n ta) : YTs K r (n + 1) (tCons te ta) := fun σ H g Q k => a σ H g _ fun x H1 s1 r1 => b σ H1 (g.same s1) _ fun xs H2 s2 r2 hn => k (x :: xs) H2 (s1.trans s2) (fun y hy => by
  rcases List.mem_cons.mp hy with rfl | hy
  · exact r1.ex (.same s2)
  · exact r2 y hy) (by rw [List.length_cons, hn])
theorem YT.con (h : ∀ H, VQ.Dm K H v d) (sz : VR.Sz 3 400 d) : YT K r (tC v) := fun σ H g Q k => k v H (Same.refl H) ⟨d, fun G _ => h G, sz⟩
theorem YT.neg : YT K r (tUn (rU fun i => .int (-i)) (tC (.int 1))) := fun σ H g Q k => ⟨1, rfl, k _ H (Same.refl H) ⟨.int (-1), fun G _ => .flat (.int _), ⟨rfl, by decide, by decide +kernel⟩⟩⟩
theorem YT.pow : YT K r (tOp (rI CPow fun i j => .int (i ^ j.toNat)) (tC (.int 10)) (tC (.int 17))) := fun σ H g Q k => ⟨10, 17, rfl, rfl, ⟨by decide, by decide, by decide⟩, k _ H (Same.refl H) ⟨.int (10 ^ 17), fun G _ => .flat (.int _), ⟨rfl, by decide, by decide +kernel⟩⟩⟩
theorem YT.lst (ht : ∀ σ H Q, ta σ H Q = Q xs H) (h : ∀ H, VQ.DmAll K H xs ds) (sz : VR.Sz 3 400 (.list ds)) (hz : xs.length ≤ 1000) : YT K r (tLst ta) := fun σ H g Q k => by
  show ta σ H _
  rw [ht]
  exact ⟨sz_le hz, fun p hp => k _ _ (Same.upd (Same.refl H) hp) ⟨.list ds, fun G s => .lst (SqL.of (s p _ (g.no hp) upd_same)) (h G), sz⟩⟩
theorem YT.tup (ht : ∀ σ H Q, ta σ H Q = Q xs H) (h : ∀ H, VQ.DmAll K H xs ds) (sz : VR.Sz 3 400 (.tuple ds)) (hz : xs.length ≤ 1000) : YT K r (tTup ta) := fun σ H g Q k => by
  show ta σ H _
  rw [ht]
  exact ⟨sz_le hz, fun p hp => k _ _ (Same.upd (Same.refl H) hp) ⟨.tuple ds, fun G s => .tup (SqT.of (s p _ (g.no hp) upd_same)) (h G), sz⟩⟩
theorem YT.dnew : YT K r tDNewK := fun σ H g Q k p hp => k _ _ (Same.upd (Same.refl H) hp) ⟨.dict [], fun G s => .dct (ds := []) (s p _ (g.no hp) upd_same) .nil, ⟨rfl, by decide, by decide +kernel⟩⟩
theorem YT.disp : YT K r (tDisp [(tC (.str (Str.ofString "a")), tTup (tCons (tC (.int 1)) (tCons (tLst (tCons (tC (.int 0)) tNil)) tNil)))]) := fun σ H g Q k p hp => by
  refine ⟨sz_le (by show 1 ≤ 1000; decide), fun q hq => ⟨sz_le (by show 2 ≤ 1000; decide), fun t ht => ?_⟩⟩
  have npq : p ≠ q := ne_of_none upd_same hq
  have npt : p ≠ t := fun z => by rw [← z, upd_ne npq, upd_same] at ht; cases ht
  have nqt : q ≠ t := ne_of_none upd_same ht
  have hq0 : H q = none := by rw [upd_ne (Ne.symm npq)] at hq; exact hq
  have ht0 : H t = none := by rw [upd_ne (Ne.symm nqt), upd_ne (Ne.symm npt)] at ht; exact ht
  refine ⟨by rw [upd_ne npt, upd_ne npq]; exact upd_same, [(Sum.inr "a", .ref t)], rfl, (by show 1 ≤ 15; decide), k _ _ (fun b o e => ?_) ⟨.dict [(.str "a", .tuple [.int 1, .list [.int 0]])], fun G s => ?_, ⟨rfl, by decide, by decide +kernel⟩⟩⟩
  · rw [upd_ne (ne_of_none e hp), upd_ne (ne_of_none e ht0), upd_ne (ne_of_none e hq0), upd_ne (ne_of_none e hp)]
    exact e
  · refine .dct (kvs := [(Sum.inr "a", .ref t)]) (ds := [.tuple [.int 1, .list [.int 0]]]) (s p _ (g.no hp) upd_same) (.cons (.tup (SqT.of (s t _ (g.no ht0) (by rw [upd_ne (Ne.symm npt)]; exact upd_same))) (.cons (.flat (.int 1)) (.cons (.lst (SqL.of (s q _ (g.no hq0) ?_)) (.cons (.flat (.int 0)) .nil)) .nil))) .nil)
    rw [upd_ne (Ne.symm npq), upd_ne nqt]; exact upd_same
end
section
variable {P : Program} {w : World} {K : PySem.W.Frag} {mg : Str → Option Value} {base : Heap} {A : Ad}
theorem ok_l_thing (T : Txt K mg A) : FnOk P w K mg base CX0 2 A.f_l_thing A.d_l_thing ["_law_rng_here"] (sp_l_thing K A) := by
  have G_l_draw := ok_l_draw (P := P) (w := w) (base := base) T
  refine T.F_l_thing.ok sc_l_thing (fun vs H Q E h => ?_) (fun cdv A0 outer s H vs Q E hr h => ?_)
  · obtain ⟨r, rfl, hr0, q⟩ := h
    rfl
  · obtain ⟨r, rfl, hr0, q⟩ := h
    refine ⟨_, (pss_cons (ps_set (i := 1) sc_l_thing.nd rfl (by first | exact Or.inl rfl | exact Or.inr rfl) (pe_lst (pa_cons pe_int (pa_cons pe_int (pa_cons (pe_un un_neg pe_int) (pa_cons (pe_op op_pow pe_int pe_int) (pa_cons pe_bl (pa_cons pe_bl (pa_cons pe_non (pa_cons pe_str (pa_cons pe_str (pa_cons pe_str (pa_cons (pe_lst pa_nil) (pa_cons (pe_lst (pa_cons pe_int (pa_cons pe_int pa_nil))) (pa_cons (pe_tup pa_nil) (pa_cons (pe_tup (pa_cons pe_int (pa_cons pe_int pa_nil))) (pa_cons pe_dnewK (pa_cons (pe_disp (pps_cons pe_str (pe_tup (pa_cons pe_int (pa_cons (pe_lst (pa_cons pe_int pa_nil)) pa_nil))) pps_nil) (by rfl) (by rfl) (by simp) (by decide)) pa_nil))))))))))))))))))
    (pss_one (ps_ret (pe_ix (r := rIxL K) ix_list (pv 1) (pe_call G_l_draw (hr.mono (by decide)) rfl T.m_l_draw T.k_l_draw T.b_l_draw .nil pass0 (pa_cons (pv 0) (pa_cons pe_int pa_nil))) (fun _ _ => rfl))))), ?_⟩
    have g : Rr r H := by
      obtain ⟨a, b, e, _⟩ := hr0
      exact ⟨_, e⟩
    refine s_set ?_
    have y : YTs K r 16 _ := .cons (.con (v := .int 0) (fun _ => .flat (.int 0)) ⟨rfl, by decide, by decide +kernel⟩) (.cons (.con (v := .int 1) (fun _ => .flat (.int 1)) ⟨rfl, by decide, by decide +kernel⟩) (.cons .neg (.cons .pow
      (.cons (.con (v := .bl true) (fun _ => .flat (.bl true)) ⟨rfl, by decide, by decide +kernel⟩) (.cons (.con (v := .bl false) (fun _ => .flat (.bl false)) ⟨rfl, by decide, by decide +kernel⟩) (.cons (.con (v := .non) (fun _ => .flat .non) ⟨rfl, by decide, by decide +kernel⟩)
      (.cons (.con (v := .str (Str.ofString "")) (fun _ => .flat (.str _)) ⟨rfl, by decide, by decide +kernel⟩) (.cons (.con (v := .str (Str.ofString "a")) (fun _ => .flat (.str _)) ⟨rfl, by decide, by decide +kernel⟩) (.cons (.con (v := .str (Str.ofString "2,2/2/1")) (fun _ => .flat (.str _)) ⟨rfl, by decide, by decide +kernel⟩)
      (.cons (.lst (ta := tNil) (xs := []) (ds := []) (fun _ _ _ => rfl) (fun _ => .nil) ⟨rfl, by decide, by decide +kernel⟩ (by decide))
      (.cons (.lst (ta := tCons (tC (.int 1)) (tCons (tC (.int 2)) tNil)) (xs := [.int 1, .int 2]) (ds := [.int 1, .int 2]) (fun _ _ _ => rfl) (fun _ => .cons (.flat (.int 1)) (.cons (.flat (.int 2)) .nil)) ⟨rfl, by decide, by decide +kernel⟩ (by decide))
      (.cons (.tup (ta := tNil) (xs := []) (ds := []) (fun _ _ _ => rfl) (fun _ => .nil) ⟨rfl, by decide, by decide +kernel⟩ (by decide))
      (.cons (.tup (ta := tCons (tC (.int 0)) (tCons (tC (.int 3)) tNil)) (xs := [.int 0, .int 3]) (ds := [.int 0, .int 3]) (fun _ _ _ => rfl) (fun _ => .cons (.flat (.int 0)) (.cons (.flat (.int 3)) .nil)) ⟨rfl, by decide, by decide +kernel⟩ (by decide))
      (.cons .dnew (.cons .disp .nil)))))))))))))))
    refine y _ H g _ fun xs H1 s1 hx hn => ⟨sz_le (by omega), fun l hl => ?_⟩
    have s2 : Same H1 (upd H1 l (.lst xs)) := Same.upd (Same.refl _) hl
    have hr2 := hr0.same (s1.trans s2)
    refine ⟨_, rfl, _, rfl, r, 16, rfl, hr2, by decide, by decide, fun H3 d e3 d0 d1 => ?_⟩
    have lr : l ≠ r := fun z => by
      obtain ⟨o, e⟩ := g.same s1
      rw [z, e] at hl; cases hl
    have hd : d.toNat < xs.length := by omega
    refine ⟨l, xs, d, xs[d.toNat], rfl, rfl, SqL.of (e3.keep _ _ lr upd_same), ?_, ?_⟩
    · exact at_of (j := d.toNat) (by omega) (List.getElem?_eq_getElem hd)
    · exact q _ _ ((Ext.of hr0 (s1.trans s2)).trans e3) (((hx _ (List.getElem_mem hd)).ex (.same s2)).ex (.ext e3 (by simp)))
end
end VK


namespace VK
open PySem PySem.Spec PyProof.Rows L2 VM
/-- the lists of one number so far, in the list at c -/
structure Acc (H0 H : Hp) (c : Addr) (is : List Nat) : Prop where
  at0 : ∃ ys, H0 c = some (.lst ys)
  ex : Ex [c] H0 H
  ac : ∃ ts : List (Addr × Int), H c = some (.lst (ts.map fun t => V.ref t.1)) ∧ ts.map (·.2) = is.map (fun i : Nat => (i : Int)) ∧ ∀ t ∈ ts, t.1 ≠ c ∧ H t.1 = some (.lst [.int t.2])
section
variable {K : PySem.W.Frag} {A : Ad} {H0 H H' : Hp} {c e p : Addr} {is : List Nat} {i : Nat} {v u : V} {d : PyData} {σ : L2.St} {Q : VK} {us : List V}
theorem Acc.same (a : Acc H0 H c is) (s : Same H H') : Acc H0 H' c is := by
  obtain ⟨ts, h1, h2, h3⟩ := a.ac
  exact ⟨a.at0, a.ex.trans (.same s), ts, s _ _ h1, h2, fun t ht => ⟨(h3 t ht).1, s _ _ (h3 t ht).2⟩⟩
theorem Acc.gr (a : Acc H0 H c is) : Gr H0 H := fun b o h n => by
  obtain ⟨ys, hy⟩ := a.at0
  refine a.ex b o (fun z => ?_) h
  rw [List.mem_singleton] at z
  rw [z, hy] at h
  exact n ys (Option.some.inj h).symm
theorem Acc.base (a : Acc H0 H c is) : Acc H H c is := by
  obtain ⟨ts, h1, h2, h3⟩ := a.ac
  exact ⟨⟨_, h1⟩, .refl, ts, h1, h2, h3⟩
/-- a test that comes out false -/
def FT (t : TT) (σ : L2.St) (H : Hp) : Prop := ∀ Q : Bool → Hp → Prop, (∀ H', Same H H' → Q false H') → t σ H Q
theorem FT.or {t u : TT} (h1 : FT t σ H) (h2 : ∀ H', Same H H' → FT u σ H') : FT (tOr t u) σ H := fun Q k => h1 _ fun H' s => h2 H' s Q fun H2 s2 => k H2 (s.trans s2)
theorem s_if_ft {t : TT} {a rest : TS} {D : Ends} (h : FT t σ H) (k : ∀ H', Same H H' → rest D σ H') : tSeq (tIfS t a tNext) rest D σ H := h _ fun H' s => k H' s
theorem sz_rep {d : PyData} (z : VR.Sz 60 16777000 d) : d.shown.length ≤ sizeLine := by
  rw [sizeLine_eq]
  exact Nat.le_trans z.ln (by decide)
abbrev tReprTold (K : PySem.W.Frag) (A : Ad) (j : Nat) : TE := tCB (VQ.rReprM K) (tCons (tCall (sp_l_told K A) [] E0 (tCons (tVar j) tNil)) tNil)
abbrev tReprParts (K : PySem.W.Frag) (A : Ad) (j : Nat) : TE := tCB (VQ.rReprM K) (tCons (tCall (sp_l_parts K A) [] E0 (tCons (tVar j) tNil)) tNil)
abbrev tReprVar (K : PySem.W.Frag) (j : Nat) : TE := tCB (VQ.rReprM K) (tCons (tVar j) tNil)
abbrev tClasses (K : PySem.W.Frag) (A : Ad) (j : Nat) : TE := tCall (sp_l_classes K A) [] E0 (tCons (tVar j) tNil)
abbrev tIsOf (K : PySem.W.Frag) (A : Ad) (j : Nat) : TT := tNot (tB (tCall (sp_l_is_of K A) [] E0 (tCons (tVar j) (tCons (tVar 6) tNil))))
theorem r_var {j : Nat} (hσ : σ[j]? = some (some v)) (hd : VQ.Dm K H v d) (sz : VR.Sz 60 16777000 d) (k : Q (.str d.shown) H) : tReprVar K j σ H Q := ⟨_, hσ, v, d, rfl, hd, sz.sh, sz.dp, sz_rep sz, k⟩
theorem r_told {j : Nat} (hσ : σ[j]? = some (some (.ref e))) (hi : i < 40) (hl : (fd i).length = 1) (E : ErF A H e i [v]) (hd : ∀ H', Same H H' → VQ.Dm K H' v d) (sz : VR.Sz 60 16777000 d) (k : ∀ H', Same H H' → Q (.str d.shown) H') : tReprTold K A j σ H Q :=
  ⟨_, hσ, e, i, v, rfl, hi, hl, E, fun H' s => ⟨v, d, rfl, hd H' s, sz.sh, sz.dp, sz_rep sz, k H' s⟩⟩
theorem r_parts {j : Nat} {ds : List PyData} (hσ : σ[j]? = some (some (.ref e))) (hi : i < 40) (hl : (fd i).length ≠ 1) (hu : us.length = (fd i).length) (E : ErF A H e i us) (hd : ∀ H', Same H H' → VQ.DmAll K H' us ds) (sz : VR.Sz 60 16777000 (.list ds)) (k : ∀ H', Same H H' → Q (.str (PyData.list ds).shown) H') : tReprParts K A j σ H Q :=
  ⟨_, hσ, e, i, us, rfl, hi, hl, hu, E, fun l H' s hn hl' => ⟨.ref l, .list ds, rfl, .lst (SqL.of hl') (hd H' s), sz.sh, sz.dp, sz_rep sz, k H' s⟩⟩
theorem ft_told {j l : Nat} (hσ : σ[j]? = some (some (.ref e))) (hσ2 : σ[l]? = some (some v)) (hi : i < 40) (hl : (fd i).length = 1) (E : ErF A H e i [v]) (hd : ∀ H', Same H H' → VQ.Dm K H' v d) (sz : VR.Sz 60 16777000 d) : FT (tTest (tOp rNe (tReprTold K A j) (tReprVar K l))) σ H := by
  intro Q k
  refine r_told (Q := fun x H1 => tReprVar K l σ H1 fun y H2 => rNe x y H2 fun z H' => ∃ k, z = .bl k ∧ Q k H') hσ hi hl E hd sz fun H' s => ?_
  refine r_var (Q := fun y H2 => rNe (.str d.shown) y H2 fun z H' => ∃ k, z = .bl k ∧ Q k H') hσ2 (hd H' s) sz ⟨rfl, _, rfl, ?_⟩
  rw [decide_eq_true rfl]
  exact k H' s
theorem ft_parts {j l : Nat} {p : Addr} {ds : List PyData} (hσ : σ[j]? = some (some (.ref e))) (hσ2 : σ[l]? = some (some (.ref p))) (hp : H p = some (.lst us)) (hi : i < 40) (hl : (fd i).length ≠ 1) (hu : us.length = (fd i).length) (E : ErF A H e i us) (hd : ∀ H', Same H H' → VQ.DmAll K H' us ds) (sz : VR.Sz 60 16777000 (.list ds)) :
    FT (tTest (tOp rNe (tReprParts K A j) (tReprVar K l))) σ H := by
  intro Q k
  refine r_parts (Q := fun x H1 => tReprVar K l σ H1 fun y H2 => rNe x y H2 fun z H' => ∃ k, z = .bl k ∧ Q k H') hσ hi hl hu E hd sz fun H' s => ?_
  refine r_var (d := .list ds) (Q := fun y H2 => rNe (.str (PyData.list ds).shown) y H2 fun z H' => ∃ k, z = .bl k ∧ Q k H') hσ2 (.lst (SqL.of (s _ _ hp)) (hd H' s)) sz ⟨rfl, _, rfl, ?_⟩
  rw [decide_eq_true rfl]
  exact k H' s
theorem ft_isof {j : Nat} (hσ : σ[j]? = some (some (.ref e))) (hσ2 : σ[6]? = some (some (.str (wd (bk i))))) (hi : i < 40) (E : ErF A H e i us) : FT (tIsOf K A j) σ H := fun Q k =>
  ⟨_, hσ, _, hσ2, e, i, us, rfl, hi, E, fun H' s => ⟨_, rfl, k H' s⟩⟩
theorem cls_eqv (i : Int) : PyData.eqv (.list [.int i]) (.list [.int i]) = true := by simp [PyData.eqv, PyData.eqvAll]
theorem ft_cls {a b : Nat} {e2 : Addr} {us2 : List V} (hσ : σ[a]? = some (some (.ref e))) (hσ2 : σ[b]? = some (some (.ref e2))) (hi : i < 40) (E : ErF A H e i us) (E2 : ErF A H e2 i us2) : FT (tTest (tOp (rNeD K) (tClasses K A a) (tClasses K A b))) σ H := fun Q k =>
  ⟨_, hσ, e, i, us, rfl, hi, E, fun l H1 s1 n1 h1 => ⟨_, hσ2, e2, i, us2, rfl, hi, E2.gr (.same s1), fun l2 H2 s2 n2 h2 => ⟨.list [.int (i : Nat)], .list [.int (i : Nat)], .lst (SqL.of (s2 _ _ h1)) (.cons (.int _) .nil), .lst (SqL.of h2) (.cons (.int _) .nil), rfl, rfl, _, rfl, by
    rw [cls_eqv]
    exact k H2 (s1.trans s2)⟩⟩⟩
/-- classes_here.append(classes(e)) -/
theorem s_push {D : Ends} (a : Acc H0 H c is) (hσ : σ[4]? = some (some (.ref c))) (hσ5 : σ[5]? = some (some (.ref e))) (hi : i < 40) (E : ErF A H e i us) (hn : is.length ≤ 100) (k : ∀ H', Acc H0 H' c (is ++ [i]) → D.nx σ H') :
    tDrop (tBM K "list" rAppend (tVar 4) (tCons (tClasses K A 5) tNil)) D σ H := by
  obtain ⟨ts, h1, h2, h3⟩ := a.ac
  have ln : ts.length = is.length := by
    have := congrArg List.length h2
    rw [List.length_map, List.length_map] at this
    exact this
  refine ⟨_, hσ, .inl ⟨rfl, _, SqL.of h1⟩, _, hσ5, e, i, us, rfl, hi, E, fun l H1 s1 n1 hl => ⟨c, _, .ref l, rfl, rfl, s1 _ _ h1, small (by rw [List.length_map]; omega), k _ ?_⟩⟩
  have nlc : l ≠ c := fun z => by rw [z, h1] at n1; cases n1
  refine ⟨a.at0, (a.ex.trans (.same s1)).trans (.put (List.mem_singleton.mpr rfl)), ts ++ [(l, ((i : Nat) : Int))], ?_, ?_, fun t ht => ?_⟩
  · rw [upd_same, List.map_append]
    rfl
  · rw [List.map_append, List.map_append, h2]
    rfl
  · rcases List.mem_append.mp ht with ht | ht
    · exact ⟨(h3 t ht).1, by rw [upd_ne (h3 t ht).1]; exact s1 _ _ (h3 t ht).2⟩
    · rw [List.mem_singleton] at ht
      subst ht
      exact ⟨nlc, by rw [upd_ne nlc]; exact hl⟩
abbrev retF : TS := tRet (tC (.bl false))
abbrev body1 (K : PySem.W.Frag) (A : Ad) : TS :=
  tSeq (tIfS (tOr (tTest (tOp rNe (tReprTold K A 5) (tReprVar K 1))) (tTest (tOp rNe (tReprTold K A 7) (tReprVar K 2)))) retF tNext)
    (tSeq (tIfS (tOr (tIsOf K A 5) (tTest (tOp (rNeD K) (tClasses K A 5) (tClasses K A 7)))) retF tNext)
      (tDrop (tBM K "list" rAppend (tVar 4) (tCons (tClasses K A 5) tNil))))
theorem b1 {D : Ends} {e2 : Addr} {d2 : PyData} (a : Acc H0 H c is) (s1 : σ[1]? = some (some v)) (s2 : σ[2]? = some (some u)) (s4 : σ[4]? = some (some (.ref c))) (s5 : σ[5]? = some (some (.ref e))) (s6 : σ[6]? = some (some (.str (wd (bk i))))) (s7 : σ[7]? = some (some (.ref e2)))
    (hi : i < 40) (hl : (fd i).length = 1) (E : ErF A H e i [v]) (E2 : ErF A H e2 i [u]) (hd : ∀ H', Same H H' → VQ.Dm K H' v d) (sz : VR.Sz 60 16777000 d) (hd2 : ∀ H', Same H H' → VQ.Dm K H' u d2) (sz2 : VR.Sz 60 16777000 d2) (hn : is.length ≤ 100)
    (k : ∀ H', Acc H0 H' c (is ++ [i]) → D.nx σ H') : body1 K A D σ H := by
  refine s_if_ft ((ft_told s5 s1 hi hl E hd sz).or fun H1 q => ft_told s7 s2 hi hl (E2.gr (.same q)) (fun G z => hd2 G (q.trans z)) sz2) fun H1 q1 => ?_
  have E1 := E.gr (.same q1)
  refine s_if_ft ((ft_isof s5 s6 hi E1).or fun H2 q2 => ft_cls s5 s7 hi (E1.gr (.same q2)) (E2.gr (.same (q1.trans q2)))) fun H2 q2 => ?_
  exact s_push (a.same (q1.trans q2)) s4 s5 hi (E1.gr (.same q2)) hn k
end
end VK


namespace VK
open PySem PySem.Spec PyProof.Rows L2 VM
abbrev tDue (K : PySem.W.Frag) (A : Ad) : TE := tSl (rSlL K) (tLst (tCons (tVar 1) (tCons (tVar 2) tNil))) tNoPart (tPart (tCB (VG.rLen K) (tCons (tCall (sp_l_parts K A) [] E0 (tCons (tVar 5) tNil)) tNil)))
abbrev body2 (K : PySem.W.Frag) (A : Ad) : TS :=
  tSeq (tAsg (tDue K A) (gName 8))
    (tSeq (tIfS (tOr (tTest (tOp rNe (tReprParts K A 5) (tReprVar K 8))) (tTest (tOp rNe (tReprParts K A 7) (tReprVar K 8)))) retF tNext)
      (tSeq (tIfS (tOr (tIsOf K A 5) (tOr (tIsOf K A 7) (tTest (tOp (rNeD K) (tClasses K A 5) (tClasses K A 7))))) retF tNext)
        (tDrop (tBM K "list" rAppend (tVar 4) (tCons (tClasses K A 5) tNil)))))
theorem cut_due {v u : V} {us : List V} (h : us = [] ∨ us = [v, u]) : cutV [v, u] none (some (us.length : Int)) = us := by
  rcases h with rfl | rfl <;> rfl
section
variable {K : PySem.W.Frag} {A : Ad} {H0 H H' : Hp} {c e p : Addr} {is : List Nat} {i : Nat} {v u : V} {d : PyData} {σ : L2.St} {Q : VK} {us : List V}
theorem t_due (s1 : σ[1]? = some (some v)) (s2 : σ[2]? = some (some u)) (s5 : σ[5]? = some (some (.ref e))) (hi : i < 40) (hl : (fd i).length ≠ 1) (hu : us.length = (fd i).length) (hv : us = [] ∨ us = [v, u]) (E : ErF A H e i us)
    (k : ∀ p H', Same H H' → H' p = some (.lst us) → Q (.ref p) H') : tDue K A σ H Q := by
  refine ⟨v, s1, u, s2, sz_le (by show 2 ≤ 1000; decide), fun q hq => ?_⟩
  have t1 := Same.upd (o := .lst [v, u]) (Same.refl H) hq
  refine ⟨_, s5, e, i, us, rfl, hi, hl, hu, E.gr (.same t1), fun l H2 t2 hn hl2 => ⟨l, us, rfl, .inl (SqL.of hl2), (us.length : Int), rfl, q, [v, u], rfl, SqL.of (t2 _ _ upd_same), fun p hp => ?_⟩⟩
  refine k p _ (Same.upd (t1.trans t2) ((t1.trans t2).free hp)) ?_
  rw [upd_same, cut_due hv]
theorem b2 {D : Ends} {e2 : Addr} {ds : List PyData} {z0 z3 z8 z9 : Option V} (a : Acc H0 H c is) (hi : i < 40) (hl : (fd i).length ≠ 1) (hu : us.length = (fd i).length) (hv : us = [] ∨ us = [v, u]) (E : ErF A H e i us) (E2 : ErF A H e2 i us)
    (hd : ∀ H', Same H H' → VQ.DmAll K H' us ds) (sz : VR.Sz 60 16777000 (.list ds)) (hn : is.length ≤ 100)
    (k : ∀ p H', Acc H0 H' c (is ++ [i]) → D.nx [z0, some v, some u, z3, some (.ref c), some (.ref e), some (.str (wd (bk i))), some (.ref e2), some (.ref p), z9] H') :
    body2 K A D [z0, some v, some u, z3, some (.ref c), some (.ref e), some (.str (wd (bk i))), some (.ref e2), z8, z9] H := by
  refine s_set (t_due (v := v) (u := u) rfl rfl rfl hi hl hu hv E fun p H1 q1 hp => ?_)
  have E1 := E.gr (.same q1)
  show tSeq _ _ D [z0, some v, some u, z3, some (.ref c), some (.ref e), some (.str (wd (bk i))), some (.ref e2), some (.ref p), z9] H1
  refine s_if_ft ((ft_parts (p := p) (us := us) rfl rfl hp hi hl hu E1 (fun G z => hd G (q1.trans z)) sz).or fun H2 q2 => ft_parts (p := p) (us := us) rfl rfl (q2 _ _ hp) hi hl hu (E2.gr (.same (q1.trans q2))) (fun G z => hd G (q1.trans (q2.trans z))) sz) fun H2 q2 => ?_
  have E3 := E1.gr (.same q2)
  refine s_if_ft ((ft_isof rfl rfl hi E3).or fun H3 q3 => (ft_isof rfl rfl hi (E2.gr (.same (q1.trans (q2.trans q3))))).or fun H4 q4 => ft_cls rfl rfl hi (E3.gr (.same (q3.trans q4))) (E2.gr (.same (q1.trans (q2.trans (q3.trans q4)))))) fun H3 q3 => ?_
  exact s_push (a.same (q1.trans (q2.trans q3))) rfl rfl hi (E3.gr (.same q3)) hn fun H' a' => k p H' a'
end
end VK


namespace VK
open PySem PySem.Spec PyProof.Rows L2 VM
def ks : List Int := (List.range 40).map fun k : Nat => (k : Int)
def dKs : PyData := .list (ks.map fun i => .list [.int i])
theorem dKs_ok : SeqAt.shaped dKs = true ∧ PyData.eqv dKs dKs = true := by decide +kernel
theorem all_perm : ((onesI ++ moreI).map fun i : Nat => (i : Int)).Perm ks := by decide +kernel
theorem all_sorted : ((onesI ++ moreI).map fun i : Nat => (i : Int)).mergeSort (fun x y => decide (x ≤ y)) = ks := by
  have p : (((onesI ++ moreI).map fun i : Nat => (i : Int)).mergeSort (fun x y => decide (x ≤ y))).Perm ks := (List.mergeSort_perm _ _).trans all_perm
  have s1 := List.pairwise_mergeSort (le := fun x y : Int => decide (x ≤ y)) (fun a b c h1 h2 => by simp at *; omega) (fun a b => by simp; omega) ((onesI ++ moreI).map fun i : Nat => (i : Int))
  have s2 : ks.Pairwise fun a b => decide (a ≤ b) = true := by decide +kernel
  exact p.eq_of_pairwise (fun a b _ _ h1 h2 => by simp at h1 h2; omega) s1 s2
theorem dpl {K : PySem.W.Frag} {H : Hp} : ∀ ts : List (Addr × Int), (∀ t ∈ ts, H t.1 = some (.lst [.int t.2])) → DpAll K H (ts.map fun t => V.ref t.1) ((ts.map (·.2)).map fun i => PyData.list [.int i])
  | [], _ => .nil
  | t :: ts, h => .cons (.lst (SqL.of (h t List.mem_cons_self)) (.cons (.int _) .nil)) (dpl ts fun u hu => h u (List.mem_cons_of_mem _ hu))
section
variable {K : PySem.W.Frag} {A : Ad} {H0 H H' : Hp} {c e p : Addr} {Q : VK}
theorem t_end {z0 z1 z2 z3 z5 z6 z7 z8 z9 : Option V} (a : Acc H0 H c (onesI ++ moreI)) (k : ∀ H', Same H H' → Q (.bl true) H') :
    tOp (rEqD K) (tCB (VSl.rSortedL1 K) (tCons (tVar 4) tNil)) (tLc (iRng1 (tCons (tC (.int 40)) tNil)) (gName 9) tYes (tLst (tCons (tVar 9) tNil)) [9]) [z0, z1, z2, z3, some (.ref c), z5, z6, z7, z8, z9] H Q := by
  obtain ⟨ts, h1, h2, h3⟩ := a.ac
  have ln : ts.length ≤ 1000 := by
    have := congrArg List.length h2
    rw [List.length_map, List.length_map] at this
    rw [this]
    decide
  refine ⟨_, rfl, c, ts, rfl, SqL.of h1, fun t ht => (h3 t ht).2, ln, fun ts' p e1 e2 hp => ?_⟩
  rw [h2, all_sorted] at e1
  have s1 := Same.upd (o := .lst (ts'.map fun t => V.ref t.1)) (Same.refl H) hp
  have hp1 : upd H p (.lst (ts'.map fun t => V.ref t.1)) p = some (.lst (ts'.map fun t => V.ref t.1)) := upd_same
  have e3 : ∀ t ∈ ts', upd H p (.lst (ts'.map fun t => V.ref t.1)) t.1 = some (.lst [.int t.2]) := fun t ht => s1 _ _ (e2 t ht)
  generalize upd H p (.lst (ts'.map fun t => V.ref t.1)) = H1 at *
  refine ⟨40, rfl, by decide, by decide, fun D hD => ?_⟩
  refine lc_range (lo := 0) (n := 40) (fun j H' => ∃ t2 : List (Addr × Int), H' D = some (.lst (t2.map fun t => V.ref t.1)) ∧ t2.map (·.2) = (List.range j).map (fun k : Nat => (k : Int)) ∧ (∀ t ∈ t2, t.1 ≠ D ∧ H' t.1 = some (.lst [.int t.2])) ∧ Same H1 H')
    ⟨[], upd_same, rfl, (fun t h => by cases h), Same.upd (Same.refl _) hD⟩ ?_ ?_
  · rintro j Hc hj ⟨t2, q1, q2, q3, q4⟩
    refine ⟨rfl, _, rfl, sz_le (by show 1 ≤ 1000; decide), fun q hq => ?_⟩
    have nDq : D ≠ q := ne_of_none q1 hq
    have lt : t2.length = j := by
      have := congrArg List.length q2
      rw [List.length_map, List.length_map, List.length_range] at this
      exact this
    refine ⟨_, by rw [upd_ne nDq]; exact q1, small (by rw [List.length_map]; omega), t2 ++ [(q, ((j : Nat) : Int))], ?_, ?_, fun t ht => ?_, Same.upd (Same.upd q4 (q4.free hq)) hD⟩
    · rw [upd_same, List.map_append]
      rfl
    · rw [List.map_append, q2, List.range_succ, List.map_append]
      rfl
    · rcases List.mem_append.mp ht with ht | ht
      · obtain ⟨n1, n2⟩ := q3 t ht
        exact ⟨n1, by rw [upd_ne n1, upd_ne (ne_of_none n2 hq)]; exact n2⟩
      · rw [List.mem_singleton] at ht
        subst ht
        refine ⟨Ne.symm nDq, ?_⟩
        rw [upd_ne (Ne.symm nDq), upd_same]
        congr 3
        show V.int (0 + (j : Int)) = V.int (j : Int)
        rw [Int.zero_add]
  · rintro H2 ⟨t2, q1, q2, q3, q4⟩
    refine ⟨dKs, dKs, ?_, ?_, dKs_ok.1, dKs_ok.1, ?_⟩
    · have := dpl (K := K) (H := H2) ts' fun t ht => q4 _ _ (e3 t ht)
      rw [e1] at this
      exact .lst (SqL.of (q4 _ _ hp1)) this
    · have := dpl (K := K) (H := H2) t2 fun t ht => (q3 t ht).2
      rw [q2] at this
      exact .lst (SqL.of q1) this
    · rw [dKs_ok.2]
      exact k H2 (s1.trans q4)
end
end VK


namespace VK
open PySem PySem.Spec PyProof.Rows L2 VM
def sp_l_right (_ : PySem.W.Frag) (_ : Ad) : Sp := fun vs H Q _ => ∃ r, vs = [.ref r] ∧ Rng H r ∧ ∀ H', Ext r H H' → Q (.bl true) H'
theorem two {H : Hp} {R S : SR} {xs : List V} (h : AllR H [R, S] xs) : ∃ x y, xs = [x, y] ∧ R.R H x ∧ S.R H y := by
  match xs, h with
  | [x, y], ⟨h1, h2, _⟩ => exact ⟨x, y, rfl, h1, h2⟩
theorem three {H : Hp} {R S U : SR} {xs : List V} (h : AllR H [R, S, U] xs) : ∃ x y z, xs = [x, y, z] ∧ R.R H x ∧ S.R H y ∧ U.R H z := by
  match xs, h with
  | [x, y, z], ⟨h1, h2, h3, _⟩ => exact ⟨x, y, z, rfl, h1, h2, h3⟩
theorem ones_ok : ∀ i ∈ onesI, i < 40 ∧ (fd i).length = 1 := by decide +kernel
theorem more_ok : ∀ i ∈ moreI, i < 40 ∧ (fd i).length ≠ 1 ∧ (fd i = [] ∨ (fd i).length = 2) := by decide +kernel
theorem mVs_ok {v u : V} {i : Nat} (h : fd i = [] ∨ (fd i).length = 2) : (mVs v u i).length = (fd i).length ∧ (mVs v u i = [] ∨ mVs v u i = [v, u]) := by
  unfold mVs
  rcases h with h | h
  · rw [if_pos h, h]
    exact ⟨rfl, .inl rfl⟩
  · rw [if_neg (fun z => by rw [z] at h; cases h), h]
    exact ⟨rfl, .inr rfl⟩
theorem dm_mVs {K : PySem.W.Frag} {v u : V} {i : Nat} {d d2 : PyData} {p : Hp → Prop} (hd : ∀ H, p H → VQ.Dm K H v d) (hd2 : ∀ H, p H → VQ.Dm K H u d2) (z : VR.Sz 3 400 d) (z2 : VR.Sz 3 400 d2) : ∃ ds, (∀ H, p H → VQ.DmAll K H (mVs v u i) ds) ∧ VR.Sz 60 16777000 (.list ds) := by
  unfold mVs
  by_cases h : fd i = []
  · rw [if_pos h]
    exact ⟨[], fun _ _ => .nil, ⟨rfl, by decide, by decide⟩⟩
  · rw [if_neg h]
    refine ⟨[d, d2], fun H q => .cons (hd H q) (.cons (hd2 H q) .nil), (VR.Sz.list (k := 3) (L := 400) (n := 2) (ds := [d, d2]) (fun x hx => ?_) (Nat.le_refl 2)).mono (by decide) (by decide)⟩
    rcases List.mem_cons.mp hx with rfl | hx
    · exact z
    · rw [List.mem_singleton] at hx
      rw [hx]; exact z2
section
variable {P : Program} {w : World} {K : PySem.W.Frag} {mg : Str → Option Value} {base : Heap} {A : Ad}
theorem ok_l_right (T : Txt K mg A) : VG.FnG P w K mg base CX0 4 A.f_l_right A.d_l_right ["_law_rng_here"] (sp_l_right K A) := by
  have G_l_classes := ok_l_classes (P := P) (w := w) (base := base) T
  have G_l_is_of := ok_l_is_of (P := P) (w := w) (base := base) T
  have G_l_more := ok_l_more (P := P) (w := w) (base := base) T
  have G_l_ones := ok_l_ones (P := P) (w := w) (base := base) T
  have G_l_ones_by_place := ok_l_ones_by_place (P := P) (w := w) (base := base) T
  have G_l_parts := ok_l_parts (P := P) (w := w) (base := base) T
  have G_l_thing := ok_l_thing (P := P) (w := w) (base := base) T
  have G_l_told := ok_l_told (P := P) (w := w) (base := base) T
  refine VG.okG0 T.F_l_right sc_l_right (fun vs H Q E h => ?_) (fun cdv A0 outer s H vs Q E hA hr h => ?_)
  · obtain ⟨r, rfl, hr0, q⟩ := h
    rfl
  · obtain ⟨r, rfl, hr0, q⟩ := h
    refine ⟨_, (pss_cons (ps_par (i := 1) (j := 2) (by rfl) sc_l_right.nd rfl rfl (by decide) rfl rfl (pa_cons (pe_call G_l_thing (hr.mono (by decide)) rfl T.m_l_thing T.k_l_thing T.b_l_thing .nil pass0 (pa_cons (pv 0) pa_nil)) (pa_cons (pe_call G_l_thing (hr.mono (by decide)) rfl T.m_l_thing T.k_l_thing T.b_l_thing .nil pass0 (pa_cons (pv 0) pa_nil)) pa_nil)) (by rfl))
    (pss_cons (ps_par (i := 3) (j := 4) (by rfl) sc_l_right.nd rfl rfl (by decide) rfl rfl (pa_cons (pe_call G_l_ones (hr.mono (by decide)) rfl T.m_l_ones T.k_l_ones T.b_l_ones .nil pass0 (pa_cons (pv 1) pa_nil)) (pa_cons (pe_lst pa_nil) pa_nil)) (by rfl))
    (pss_cons (ps_for PassesOwn.never rfl (pi_zip (by rfl) T.zip (pa_cons (pv 3) (pa_cons (pe_call G_l_ones_by_place (hr.mono (by decide)) rfl T.m_l_ones_by_place T.k_l_ones_by_place T.b_l_ones_by_place .nil pass0 (pa_cons (pv 2) pa_nil)) pa_nil))) (pg_tup rfl (pgs_cons (pg_tup rfl (pgs_cons (pg_name (i := 5) sc_l_right.nd rfl (by first | exact Or.inl rfl | exact Or.inr rfl)) (pgs_cons (pg_name (i := 6) sc_l_right.nd rfl (by first | exact Or.inl rfl | exact Or.inr rfl)) pgs_nil))) (pgs_cons (pg_name (i := 7) sc_l_right.nd rfl (by first | exact Or.inl rfl | exact Or.inr rfl)) pgs_nil)))
      (pss_cons (ps_if (PW.pt (pw_or (pt_cmpR op_ne (pe_callB (r := VQ.rReprM K) (VQ.call_reprM hA hr.units) (by rfl) T.repr (by decide +kernel) (pa_cons (pe_call G_l_told (hr.mono (by decide)) rfl T.m_l_told T.k_l_told T.b_l_told .nil pass0 (pa_cons (pv 5) pa_nil)) pa_nil)) (pe_callB (r := VQ.rReprM K) (VQ.call_reprM hA hr.units) (by rfl) T.repr (by decide +kernel) (pa_cons (pv 1) pa_nil)) (nomark _)) (pw_or1 (pt_cmpR op_ne (pe_callB (r := VQ.rReprM K) (VQ.call_reprM hA hr.units) (by rfl) T.repr (by decide +kernel) (pa_cons (pe_call G_l_told (hr.mono (by decide)) rfl T.m_l_told T.k_l_told T.b_l_told .nil pass0 (pa_cons (pv 7) pa_nil)) pa_nil)) (pe_callB (r := VQ.rReprM K) (VQ.call_reprM hA hr.units) (by rfl) T.repr (by decide +kernel) (pa_cons (pv 2) pa_nil)) (nomark _))))) (pss_one (ps_ret pe_bl)) pss_nil)
    (pss_cons (ps_if (PW.pt (pw_or (pt_not (pt_val (pe_call G_l_is_of (hr.mono (by decide)) rfl T.m_l_is_of T.k_l_is_of T.b_l_is_of .nil pass0 (pa_cons (pv 5) (pa_cons (pv 6) pa_nil))))) (pw_or1 (pt_cmpR (op_neD hr.units) (pe_call G_l_classes (hr.mono (by decide)) rfl T.m_l_classes T.k_l_classes T.b_l_classes .nil pass0 (pa_cons (pv 5) pa_nil)) (pe_call G_l_classes (hr.mono (by decide)) rfl T.m_l_classes T.k_l_classes T.b_l_classes .nil pass0 (pa_cons (pv 7) pa_nil)) (nomark _))))) (pss_one (ps_ret pe_bl)) pss_nil)
    (pss_one (ps_expr (pe_bm PySem.F.plainAttrs_list PySem.F.slot_list_append PySem.F.type_list_append mt_append (pv 4) (pa_cons (pe_call G_l_classes (hr.mono (by decide)) rfl T.m_l_classes T.k_l_classes T.b_l_classes .nil pass0 (pa_cons (pv 5) pa_nil)) pa_nil)))))))
    (pss_cons (ps_for PassesOwn.never rfl (pi_list (pe_call G_l_more (hr.mono (by decide)) rfl T.m_l_more T.k_l_more T.b_l_more .nil pass0 (pa_cons (pv 1) (pa_cons (pv 2) pa_nil)))) (pg_tup rfl (pgs_cons (pg_name (i := 5) sc_l_right.nd rfl (by first | exact Or.inl rfl | exact Or.inr rfl)) (pgs_cons (pg_name (i := 7) sc_l_right.nd rfl (by first | exact Or.inl rfl | exact Or.inr rfl)) (pgs_cons (pg_name (i := 6) sc_l_right.nd rfl (by first | exact Or.inl rfl | exact Or.inr rfl)) pgs_nil))))
      (pss_cons (ps_set (i := 8) sc_l_right.nd rfl (by first | exact Or.inl rfl | exact Or.inr rfl) (pe_slice (r := rSlL K) sl_list (pe_lst (pa_cons (pv 1) (pa_cons (pv 2) pa_nil))) po_none (po_some (pe_callB (r := VG.rLen K) VG.call_len (by rfl) T.len (by decide +kernel) (pa_cons (pe_call G_l_parts (hr.mono (by decide)) rfl T.m_l_parts T.k_l_parts T.b_l_parts .nil pass0 (pa_cons (pv 5) pa_nil)) pa_nil)))))
    (pss_cons (ps_if (PW.pt (pw_or (pt_cmpR op_ne (pe_callB (r := VQ.rReprM K) (VQ.call_reprM hA hr.units) (by rfl) T.repr (by decide +kernel) (pa_cons (pe_call G_l_parts (hr.mono (by decide)) rfl T.m_l_parts T.k_l_parts T.b_l_parts .nil pass0 (pa_cons (pv 5) pa_nil)) pa_nil)) (pe_callB (r := VQ.rReprM K) (VQ.call_reprM hA hr.units) (by rfl) T.repr (by decide +kernel) (pa_cons (pv 8) pa_nil)) (nomark _)) (pw_or1 (pt_cmpR op_ne (pe_callB (r := VQ.rReprM K) (VQ.call_reprM hA hr.units) (by rfl) T.repr (by decide +kernel) (pa_cons (pe_call G_l_parts (hr.mono (by decide)) rfl T.m_l_parts T.k_l_parts T.b_l_parts .nil pass0 (pa_cons (pv 7) pa_nil)) pa_nil)) (pe_callB (r := VQ.rReprM K) (VQ.call_reprM hA hr.units) (by rfl) T.repr (by decide +kernel) (pa_cons (pv 8) pa_nil)) (nomark _))))) (pss_one (ps_ret pe_bl)) pss_nil)
    (pss_cons (ps_if (PW.pt (pw_or (pt_not (pt_val (pe_call G_l_is_of (hr.mono (by decide)) rfl T.m_l_is_of T.k_l_is_of T.b_l_is_of .nil pass0 (pa_cons (pv 5) (pa_cons (pv 6) pa_nil))))) (pw_or (pt_not (pt_val (pe_call G_l_is_of (hr.mono (by decide)) rfl T.m_l_is_of T.k_l_is_of T.b_l_is_of .nil pass0 (pa_cons (pv 7) (pa_cons (pv 6) pa_nil))))) (pw_or1 (pt_cmpR (op_neD hr.units) (pe_call G_l_classes (hr.mono (by decide)) rfl T.m_l_classes T.k_l_classes T.b_l_classes .nil pass0 (pa_cons (pv 5) pa_nil)) (pe_call G_l_classes (hr.mono (by decide)) rfl T.m_l_classes T.k_l_classes T.b_l_classes .nil pass0 (pa_cons (pv 7) pa_nil)) (nomark _)))))) (pss_one (ps_ret pe_bl)) pss_nil)
    (pss_one (ps_expr (pe_bm PySem.F.plainAttrs_list PySem.F.slot_list_append PySem.F.type_list_append mt_append (pv 4) (pa_cons (pe_call G_l_classes (hr.mono (by decide)) rfl T.m_l_classes T.k_l_classes T.b_l_classes .nil pass0 (pa_cons (pv 5) pa_nil)) pa_nil))))))))
    (pss_one (ps_ret (pe_cmpR (op_eqD hr.units) (pe_callB (r := VSl.rSortedL1 K) (VSl.cr_sortedL1 hr.units) (by rfl) T.sorted (by decide +kernel) (pa_cons (pv 4) pa_nil)) (pe_lc (own := [("_law_k", 9)]) (g := gName 9) (tt := tYes) rfl sc_l_right.nd (pi_range1 rfl T.range (pa_cons pe_int pa_nil)) (blkOk_by (own := [("_law_k", 9)]) (N := ["_law_rng_here", "_law_thing_here", "_law_other", "_law_ones_here", "_law_classes_here", "_law_e", "_law_word", "_law_twin", "_law_due", "_law_k"]) (sc := defScope s_l_right) (by decide +kernel)) (fun _ _ _ _ _ => pg_name (i := 9) sc_l_right.nd rfl (by first | exact Or.inl rfl | exact Or.inr rfl)) (fun _ _ _ _ _ => pts_nil) (fun _ _ _ _ _ => (pe_lst (pa_cons (pv 9) pa_nil)))) (nomark _)))))))), ?_⟩
    refine ⟨_, rfl, r, rfl, hr0, fun H1 v e1 h1 => ⟨_, rfl, r, rfl, e1.rng, fun H2 u e2 h2' => ?_⟩⟩
    have h2 := h1.ex (.ext e2 (by simp))
    refine ⟨_, _, rfl, ?_⟩
    refine ⟨_, rfl, v, rfl, fun l1 xs1 H3 s3 n3 e3 r3 => ⟨sz_le (by show 0 ≤ 1000; decide), fun c hc => ⟨_, _, rfl, ?_⟩⟩⟩
    have s4 : Same H3 (upd H3 c (.lst [])) := Same.upd (Same.refl _) hc
    refine ⟨_, rfl, _, rfl, u, rfl, fun l2 xs2 H5 s5 n5 e5 r5 => ?_⟩
    have l1c : l1 ≠ c := ne_of_none e3 hc
    have l2c : l2 ≠ c := fun z => by rw [z, upd_same] at n5; cases n5
    have cH5 : H5 c = some (.lst []) := s5 _ _ upd_same
    have e3' : H5 l1 = some (.lst xs1) := s5 _ _ (s4 _ _ e3)
    have R1 := r3.gr (.same (s4.trans s5))
    have a0 : Acc H5 H5 c [] := ⟨⟨_, cH5⟩, .refl, [], cH5, rfl, fun t h => by cases h⟩
    have up : ∀ H', Ex [c] H5 H' → Ex [r] H2 H' := fun H' x b o _ e => x b o (fun z => by
      rw [List.mem_singleton] at z
      have := s3.free hc
      rw [← z, e] at this
      cases this) (s5 _ _ (s4 _ _ (s3 _ _ e)))
    obtain ⟨d1, dv, z1⟩ := h2
    obtain ⟨d2, du, z2⟩ := h2'
    have dv' : ∀ H', Ex [c] H5 H' → VQ.Dm K H' v d1 := fun H' x => dv H' (up H' x)
    have du' : ∀ H', Ex [c] H5 H' → VQ.Dm K H' u d2 := fun H' x => du H' (up H' x)
    have ext2 := (e1.trans e2).same (s3.trans (s4.trans s5))
    have rc : r ≠ c := fun z => by
      obtain ⟨_, _, q0, _⟩ := e2.rng
      have := s3.free hc
      rw [← z, q0] at this
      cases this
    clear dv du up
    refine ⟨l1, l2, xs1, xs2, rfl, SqL.of e3', SqL.of e5, for_it (walk_zip (K := K) (a := l1) (b := l2) (xs := xs1) (ys := xs2) (n := 29) (by rw [R1.len, r5.len]; rfl))
      (fun j σ H' => (∃ x5 x6 x7, σ = [some (.ref r), some v, some u, some (.ref l1), some (.ref c), x5, x6, x7, none, none]) ∧ Acc H5 H' c (onesI.take j)) ⟨⟨_, _, _, rfl⟩, a0⟩
      (fun j σ H' _ ⟨_, a⟩ => ⟨SqL.of (a.ex _ _ (by simp [l1c]) e3'), SqL.of (a.ex _ _ (by simp [l2c]) e5)⟩) ?_ ?_⟩
    · rintro j y σ Hc Hd hj ⟨⟨x5, x6, x7, rfl⟩, a⟩ ⟨T', a', b', rfl, hT, rfl, ea, eb⟩
      obtain ⟨i, hio⟩ : ∃ i, onesI[j]? = some i := ⟨_, List.getElem?_eq_getElem (l := onesI) (by show j < 29; exact hj)⟩
      obtain ⟨hi, hl⟩ := ones_ok i (List.mem_of_getElem? hio)
      obtain ⟨t, xs, rfl, ht, hxs⟩ := R1.at (j := j) (R := oneR A v i) (by rw [List.getElem?_map, hio]; rfl) ea
      obtain ⟨x, y, rfl, ⟨e, rfl, E⟩, hy⟩ := two hxs
      obtain rfl : y = .str (wd (bk i)) := hy
      obtain ⟨e', rfl, E'⟩ := r5.at (j := j) (R := SR.err A i [u]) (by rw [List.getElem?_map, hio]; rfl) eb
      have a1 : Acc H5 (upd Hc T' (.tup [.ref t, .ref e'])) c (onesI.take j) := a.same (Same.upd (Same.refl _) hT)
      have g1 := a1.gr
      have hn : (onesI.take j).length ≤ 100 := Nat.le_trans (List.length_take_le _ _) (by show j ≤ 100; omega)
      refine ⟨T', _, rfl, SqT.of upd_same, rfl, _, _, rfl, t, _, rfl, SqT.of (g1 _ _ ht (fun _ z => nomatch z)), rfl, _, _, rfl, _, _, rfl, rfl, _, _, rfl, rfl, ?_⟩
      refine b1 (A := A) (K := K) (c := c) (i := i) (v := v) (u := u) (e := e) (e2 := e') a1 rfl rfl rfl rfl rfl rfl hi hl (E.gr g1) (E'.gr g1) (fun G z => dv' G (a1.ex.trans (.same z))) (z1.mono (by decide) (by decide)) (fun G z => du' G (a1.ex.trans (.same z))) (z2.mono (by decide) (by decide)) hn fun H' a' => ⟨⟨_, _, _, rfl⟩, ?_⟩
      rw [List.take_add_one, hio]
      exact a'
    rintro σ6 H6 ⟨⟨x5, x6, x7, rfl⟩, a⟩
    replace a : Acc H5 H6 c onesI := a
    refine ⟨_, rfl, _, rfl, v, u, rfl, fun l3 xs3 H7 s7 n7 e7 r7 => ⟨l3, rfl, ⟨xs3, SqL.of e7⟩, ?_⟩⟩
    have l3c : l3 ≠ c := fun z => by
      obtain ⟨ts, q0, _⟩ := a.ac
      rw [z, q0] at n7; cases n7
    have ex7 : Ex [c] H5 H7 := a.ex.trans (.same s7)
    refine for_it (walk_list (K := K) (a := l3) (xs := xs3)) (fun j σ H' => (∃ x5 x6 x7 x8, σ = [some (.ref r), some v, some u, some (.ref l1), some (.ref c), x5, x6, x7, x8, none]) ∧ Acc H7 H' c (onesI ++ moreI.take j)) ⟨⟨_, _, _, _, rfl⟩, ?_⟩
      (fun j σ H' _ ⟨_, a⟩ => SqL.of (a.ex _ _ (by simp [l3c]) e7)) ?_ ?_
    · show Acc H7 H7 c onesI
      exact (a.same s7).base
    · rintro j y σ Hc Hd hj ⟨⟨x5, x6, x7, x8, rfl⟩, a⟩ ⟨rfl, ea⟩
      have hj' : j < 11 := by
        rw [r7.len] at hj
        exact hj
      obtain ⟨i, hio⟩ : ∃ i, moreI[j]? = some i := ⟨_, List.getElem?_eq_getElem (l := moreI) (by show j < 11; exact hj')⟩
      obtain ⟨hi, hl, hf⟩ := more_ok i (List.mem_of_getElem? hio)
      obtain ⟨hu, hv⟩ := mVs_ok (v := v) (u := u) hf
      obtain ⟨t, xs, rfl, ht, hxs⟩ := r7.at (j := j) (R := moreR A v u i) (by rw [List.getElem?_map, hio]; rfl) ea
      obtain ⟨x, y, z, rfl, ⟨e, rfl, E⟩, ⟨e', rfl, E'⟩, hz⟩ := three hxs
      obtain rfl : z = .str (wd (bk i)) := hz
      have g1 := a.gr
      obtain ⟨ds, dd, zd⟩ := dm_mVs (K := K) (i := i) dv' du' z1 z2
      have hn : (onesI ++ moreI.take j).length ≤ 100 := by
        rw [List.length_append]
        have := List.length_take_le j moreI
        show 29 + _ ≤ 100
        omega
      refine ⟨t, _, rfl, SqT.of (g1 _ _ ht (fun _ z => nomatch z)), rfl, _, _, rfl, _, _, rfl, _, _, rfl, rfl, ?_⟩
      refine b2 (A := A) (K := K) (c := c) (i := i) (v := v) (u := u) (e := e) (e2 := e') (us := mVs v u i) (ds := ds) a hi hl hu hv (E.gr g1) (E'.gr g1) (fun G z => dd G (ex7.trans (a.ex.trans (.same z)))) zd hn fun p H' a' => ⟨⟨_, _, _, _, rfl⟩, ?_⟩
      rw [List.take_add_one, hio]
      rw [List.append_assoc] at a'
      exact a'
    rintro σ8 H8 ⟨⟨x5, x6, x7, x8, rfl⟩, a8⟩
    replace a8 : Acc H7 H8 c (onesI ++ moreI) := by
      rw [r7.len] at a8
      exact a8
    show tRet (tOp (rEqD K) (tCB (VSl.rSortedL1 K) (tCons (tVar 4) tNil)) (tLc (iRng1 (tCons (tC (.int 40)) tNil)) (gName 9) tYes (tLst (tCons (tVar 9) tNil)) [9])) _ _ _
    refine t_end (Q := Q) (c := c) a8 fun H9 s9 => q H9 ?_
    have x9 : Ex [c] H5 H9 := ex7.trans (a8.ex.trans (.same s9))
    refine ⟨fun b o nb hb => x9 b o (fun z => ?_) (ext2.keep b o nb hb), ?_⟩
    · rw [List.mem_singleton] at z
      have q1 := s3.free hc
      rw [← z, (e1.trans e2).keep b o nb hb] at q1
      cases q1
    · obtain ⟨a, b, q0, p1, p2, p3⟩ := ext2.rng
      exact ⟨a, b, x9 _ _ (by simp [rc]) q0, p1, p2, p3⟩
end
end VK


namespace VK
open PySem PySem.Spec PyProof.Rows L2 VM
def spL (K : PySem.W.Frag) : Sp := fun vs H Q _ => ∃ (a : Addr) (ns : List Int), vs = [.ref a] ∧ SqL K H a (ns.map V.int) ∧ ns.length ≤ 63 ∧ ∀ H', Q (.bl true) H'
def sp_law (K : PySem.W.Frag) (_ : Ad) : Sp := spL K
section
variable {P : Program} {w : World} {K : PySem.W.Frag} {mg : Str → Option Value} {base : Heap} {A : Ad}
theorem ok_law (T : Txt K mg A) : VG.FnG P w K mg base CX0 5 A.f_law A.d_law ["_law_script"] (sp_law K A) := by
  have G_l_right := ok_l_right (P := P) (w := w) (base := base) T
  have G_l_rng := ok_l_rng (P := P) (w := w) (base := base) T
  refine VG.okG0 T.F_law sc_law (fun vs H Q E h => ?_) (fun cdv A0 outer s H vs Q E hA hr h => ?_)
  · obtain ⟨a, ns, rfl, hS, hn, k⟩ := h
    rfl
  · obtain ⟨a, ns, rfl, hS, hn, k⟩ := h
    refine ⟨_, (pss_one (ps_ret (pe_callB (r := rAll K) (cr_all rfl) (by rfl) T.all (by decide +kernel) (pa_cons (pe_lc (own := [("_law_k", 1)]) (g := gName 1) (tt := tYes) rfl sc_law.nd (pi_range1 rfl T.range (pa_cons (pe_callB (call_max2 rfl) (by rfl) T.max (by decide +kernel) (pa_cons pe_int (pa_cons (pe_callB (call_min2 rfl) (by rfl) T.min (by decide +kernel) (pa_cons pe_int (pa_cons (pe_callB (r := VG.rLen K) VG.call_len (by rfl) T.len (by decide +kernel) (pa_cons (pv 0) pa_nil)) pa_nil))) pa_nil))) pa_nil)) (blkOk_by (own := [("_law_k", 1)]) (N := ["_law_script", "_law_k"]) (sc := defScope s_law) (by decide +kernel)) (fun _ _ _ _ _ => pg_name (i := 1) sc_law.nd rfl (by first | exact Or.inl rfl | exact Or.inr rfl)) (fun _ _ _ _ _ => pts_nil) (fun _ _ _ _ _ => (VG.pe_callG G_l_right hA (hr.mono (by decide)) rfl T.m_l_right T.k_l_right T.b_l_right pass0 (pa_cons (pe_call G_l_rng (hr.mono (by decide)) rfl T.m_l_rng T.k_l_rng T.b_l_rng .nil pass0 (pa_cons (pv 0) (pa_cons (pv 1) pa_nil))) pa_nil)))) pa_nil)))), ?_⟩
    refine ⟨_, rfl, a, _, rfl, .inl hS, _, _, rfl, _, _, rfl, _, rfl, ?_⟩
    have b6 : (if (if ((ns.map V.int).length : Int) < (4 : Int) then ((ns.map V.int).length : Int) else (4 : Int)) > 1 then (if ((ns.map V.int).length : Int) < (4 : Int) then ((ns.map V.int).length : Int) else (4 : Int)) else 1) ≤ 4 := by
      split <;> split <;> omega
    have b0 : 0 ≤ (if (if ((ns.map V.int).length : Int) < (4 : Int) then ((ns.map V.int).length : Int) else (4 : Int)) > 1 then (if ((ns.map V.int).length : Int) < (4 : Int) then ((ns.map V.int).length : Int) else (4 : Int)) else 1) := by
      split <;> split <;> omega
    generalize (if (if ((ns.map V.int).length : Int) < (4 : Int) then ((ns.map V.int).length : Int) else (4 : Int)) > 1 then (if ((ns.map V.int).length : Int) < (4 : Int) then ((ns.map V.int).length : Int) else (4 : Int)) else 1) = N at *
    refine ⟨by omega, by omega, fun D hD => lc_range (lo := 0) (n := N.toNat) (fun j H' => H' D = some (.lst ((List.replicate j true).map V.bl)) ∧ Same H H') ⟨upd_same, Same.upd (Same.refl _) hD⟩ ?_ ?_⟩
    · rintro j H' hj ⟨hD2, s2⟩
      refine ⟨rfl, _, rfl, _, rfl, a, ns, _, rfl, s2.seq hS, by omega, by omega, fun H1 p s3 hp0 hp => ⟨p, rfl, hp, fun H2 e2 => ?_⟩⟩
      have nDp : D ≠ p := ne_of_none hD2 hp0
      refine ⟨_, e2.keep _ _ nDp (s3 _ _ hD2), small (by rw [List.length_map, List.length_replicate]; omega), ?_, ?_⟩
      · rw [upd_same, List.replicate_succ', List.map_append]; rfl
      · intro b o e
        rw [upd_ne (ne_of_none e hD)]
        exact e2.keep b o (ne_of_none (s2 _ _ e) hp0) (s3 _ _ (s2 _ _ e))
    · rintro H' ⟨hD2, s2⟩
      refine ⟨D, _, rfl, SqL.of hD2, ?_⟩
      have e : (List.replicate N.toNat true).all id = true := by
        rw [List.all_eq_true]
        intro x hx
        exact (List.eq_of_mem_replicate hx)
      rw [e]
      exact k H'
end
end VK


namespace VK
open PySem PySem.Spec PyProof.Rows L2 VM
theorem mro_mk {K : PySem.W.Frag} {C : Addr} {l : List Value} {cd : ClassData} (h : PySem.W.clsIn K C = some cd) (h2 : cd.mro = l) : ∃ cd, PySem.W.clsIn K C = some cd ∧ cd.mro = l := ⟨cd, h, h2⟩
theorem all_mk {l : PySem.W.OpenLaw} {w : World} {K : PySem.W.Frag} {h : Heap} {mg : Str → Option Value} {fa : Addr} (X : K.In h) (G : h.Ns mainGlobals mg) (hfa : mg "law" = some (.ref fa))
    {C_InvalidCurve : Addr}
    {C_InvalidPiece : Addr}
    {C_InvalidLength : Addr}
    {C_InvalidCount : Addr}
    {C_InvalidRecord : Addr}
    {C_InvalidVisit : Addr}
    {C_InvalidVisits : Addr}
    {C_InvalidSupply : Addr}
    {C_InvalidWindow : Addr}
    {C_InvalidStation : Addr}
    {C_InvalidNetwork : Addr}
    {C_InvalidName : Addr}
    {C_InvalidPath : Addr}
    {C_InvalidSplit : Addr}
    {C_InvalidTime : Addr}
    {C_InvalidTick : Addr}
    {C_InvalidFault : Addr}
    {C_InvalidFaults : Addr}
    {C_InvalidHanded : Addr}
    {C_InvalidBook : Addr}
    {C_InvalidWeights : Addr}
    {C_InvalidText : Addr}
    {C_InvalidCommand : Addr}
    {C_UnknownStation : Addr}
    {C_UnknownStream : Addr}
    {C_UnknownUnit : Addr}
    {C_NoLink : Addr}
    {C_NameTaken : Addr}
    {C_NotGood : Addr}
    {C_TooSlow : Addr}
    {C_Refused : Addr}
    {C_Overfull : Addr}
    {C_NotPlain : Addr}
    {C_HasReserves : Addr}
    {C_NoSplits : Addr}
    {C_Exposed : Addr}
    {C_NotLate : Addr}
    {C_RunFailed : Addr}
    {C_TooLong : Addr}
    {C_TooMany : Addr}
    {C_DueError : Addr}
    {f_InvalidCurve_init : Addr} {od_InvalidCurve_init an_InvalidCurve_init : Option Addr} {sl_InvalidCurve_init : Array (Option Value)} {oc_InvalidCurve_init kV_InvalidCurve_init dc_InvalidCurve_init pm_InvalidCurve_init cd_InvalidCurve_init ct_InvalidCurve_init : Value}
    {f_InvalidPiece_init : Addr} {od_InvalidPiece_init an_InvalidPiece_init : Option Addr} {sl_InvalidPiece_init : Array (Option Value)} {oc_InvalidPiece_init kV_InvalidPiece_init dc_InvalidPiece_init pm_InvalidPiece_init cd_InvalidPiece_init ct_InvalidPiece_init : Value}
    {f_InvalidLength_init : Addr} {od_InvalidLength_init an_InvalidLength_init : Option Addr} {sl_InvalidLength_init : Array (Option Value)} {oc_InvalidLength_init kV_InvalidLength_init dc_InvalidLength_init pm_InvalidLength_init cd_InvalidLength_init ct_InvalidLength_init : Value}
    {f_InvalidCount_init : Addr} {od_InvalidCount_init an_InvalidCount_init : Option Addr} {sl_InvalidCount_init : Array (Option Value)} {oc_InvalidCount_init kV_InvalidCount_init dc_InvalidCount_init pm_InvalidCount_init cd_InvalidCount_init ct_InvalidCount_init : Value}
    {f_InvalidRecord_init : Addr} {od_InvalidRecord_init an_InvalidRecord_init : Option Addr} {sl_InvalidRecord_init : Array (Option Value)} {oc_InvalidRecord_init kV_InvalidRecord_init dc_InvalidRecord_init pm_InvalidRecord_init cd_InvalidRecord_init ct_InvalidRecord_init : Value}
    {f_InvalidVisit_init : Addr} {od_InvalidVisit_init an_InvalidVisit_init : Option Addr} {sl_InvalidVisit_init : Array (Option Value)} {oc_InvalidVisit_init kV_InvalidVisit_init dc_InvalidVisit_init pm_InvalidVisit_init cd_InvalidVisit_init ct_InvalidVisit_init : Value}
    {f_InvalidVisits_init : Addr} {od_InvalidVisits_init an_InvalidVisits_init : Option Addr} {sl_InvalidVisits_init : Array (Option Value)} {oc_InvalidVisits_init kV_InvalidVisits_init dc_InvalidVisits_init pm_InvalidVisits_init cd_InvalidVisits_init ct_InvalidVisits_init : Value}
    {f_InvalidSupply_init : Addr} {od_InvalidSupply_init an_InvalidSupply_init : Option Addr} {sl_InvalidSupply_init : Array (Option Value)} {oc_InvalidSupply_init kV_InvalidSupply_init dc_InvalidSupply_init pm_InvalidSupply_init cd_InvalidSupply_init ct_InvalidSupply_init : Value}
    {f_InvalidWindow_init : Addr} {od_InvalidWindow_init an_InvalidWindow_init : Option Addr} {sl_InvalidWindow_init : Array (Option Value)} {oc_InvalidWindow_init kV_InvalidWindow_init dc_InvalidWindow_init pm_InvalidWindow_init cd_InvalidWindow_init ct_InvalidWindow_init : Value}
    {f_InvalidStation_init : Addr} {od_InvalidStation_init an_InvalidStation_init : Option Addr} {sl_InvalidStation_init : Array (Option Value)} {oc_InvalidStation_init kV_InvalidStation_init dc_InvalidStation_init pm_InvalidStation_init cd_InvalidStation_init ct_InvalidStation_init : Value}
    {f_InvalidNetwork_init : Addr} {od_InvalidNetwork_init an_InvalidNetwork_init : Option Addr} {sl_InvalidNetwork_init : Array (Option Value)} {oc_InvalidNetwork_init kV_InvalidNetwork_init dc_InvalidNetwork_init pm_InvalidNetwork_init cd_InvalidNetwork_init ct_InvalidNetwork_init : Value}
    {f_InvalidName_init : Addr} {od_InvalidName_init an_InvalidName_init : Option Addr} {sl_InvalidName_init : Array (Option Value)} {oc_InvalidName_init kV_InvalidName_init dc_InvalidName_init pm_InvalidName_init cd_InvalidName_init ct_InvalidName_init : Value}
    {f_InvalidPath_init : Addr} {od_InvalidPath_init an_InvalidPath_init : Option Addr} {sl_InvalidPath_init : Array (Option Value)} {oc_InvalidPath_init kV_InvalidPath_init dc_InvalidPath_init pm_InvalidPath_init cd_InvalidPath_init ct_InvalidPath_init : Value}
    {f_InvalidSplit_init : Addr} {od_InvalidSplit_init an_InvalidSplit_init : Option Addr} {sl_InvalidSplit_init : Array (Option Value)} {oc_InvalidSplit_init kV_InvalidSplit_init dc_InvalidSplit_init pm_InvalidSplit_init cd_InvalidSplit_init ct_InvalidSplit_init : Value}
    {f_InvalidTime_init : Addr} {od_InvalidTime_init an_InvalidTime_init : Option Addr} {sl_InvalidTime_init : Array (Option Value)} {oc_InvalidTime_init kV_InvalidTime_init dc_InvalidTime_init pm_InvalidTime_init cd_InvalidTime_init ct_InvalidTime_init : Value}
    {f_InvalidTick_init : Addr} {od_InvalidTick_init an_InvalidTick_init : Option Addr} {sl_InvalidTick_init : Array (Option Value)} {oc_InvalidTick_init kV_InvalidTick_init dc_InvalidTick_init pm_InvalidTick_init cd_InvalidTick_init ct_InvalidTick_init : Value}
    {f_InvalidFault_init : Addr} {od_InvalidFault_init an_InvalidFault_init : Option Addr} {sl_InvalidFault_init : Array (Option Value)} {oc_InvalidFault_init kV_InvalidFault_init dc_InvalidFault_init pm_InvalidFault_init cd_InvalidFault_init ct_InvalidFault_init : Value}
    {f_InvalidFaults_init : Addr} {od_InvalidFaults_init an_InvalidFaults_init : Option Addr} {sl_InvalidFaults_init : Array (Option Value)} {oc_InvalidFaults_init kV_InvalidFaults_init dc_InvalidFaults_init pm_InvalidFaults_init cd_InvalidFaults_init ct_InvalidFaults_init : Value}
    {f_InvalidText_init : Addr} {od_InvalidText_init an_InvalidText_init : Option Addr} {sl_InvalidText_init : Array (Option Value)} {oc_InvalidText_init kV_InvalidText_init dc_InvalidText_init pm_InvalidText_init cd_InvalidText_init ct_InvalidText_init : Value}
    {f_InvalidCommand_init : Addr} {od_InvalidCommand_init an_InvalidCommand_init : Option Addr} {sl_InvalidCommand_init : Array (Option Value)} {oc_InvalidCommand_init kV_InvalidCommand_init dc_InvalidCommand_init pm_InvalidCommand_init cd_InvalidCommand_init ct_InvalidCommand_init : Value}
    {f_UnknownStation_init : Addr} {od_UnknownStation_init an_UnknownStation_init : Option Addr} {sl_UnknownStation_init : Array (Option Value)} {oc_UnknownStation_init kV_UnknownStation_init dc_UnknownStation_init pm_UnknownStation_init cd_UnknownStation_init ct_UnknownStation_init : Value}
    {f_UnknownStream_init : Addr} {od_UnknownStream_init an_UnknownStream_init : Option Addr} {sl_UnknownStream_init : Array (Option Value)} {oc_UnknownStream_init kV_UnknownStream_init dc_UnknownStream_init pm_UnknownStream_init cd_UnknownStream_init ct_UnknownStream_init : Value}
    {f_UnknownUnit_init : Addr} {od_UnknownUnit_init an_UnknownUnit_init : Option Addr} {sl_UnknownUnit_init : Array (Option Value)} {oc_UnknownUnit_init kV_UnknownUnit_init dc_UnknownUnit_init pm_UnknownUnit_init cd_UnknownUnit_init ct_UnknownUnit_init : Value}
    {f_NoLink_init : Addr} {od_NoLink_init an_NoLink_init : Option Addr} {sl_NoLink_init : Array (Option Value)} {oc_NoLink_init kV_NoLink_init dc_NoLink_init pm_NoLink_init cd_NoLink_init ct_NoLink_init : Value}
    {f_NameTaken_init : Addr} {od_NameTaken_init an_NameTaken_init : Option Addr} {sl_NameTaken_init : Array (Option Value)} {oc_NameTaken_init kV_NameTaken_init dc_NameTaken_init pm_NameTaken_init cd_NameTaken_init ct_NameTaken_init : Value}
    {f_NotGood_init : Addr} {od_NotGood_init an_NotGood_init : Option Addr} {sl_NotGood_init : Array (Option Value)} {oc_NotGood_init kV_NotGood_init dc_NotGood_init pm_NotGood_init cd_NotGood_init ct_NotGood_init : Value}
    {f_TooSlow_init : Addr} {od_TooSlow_init an_TooSlow_init : Option Addr} {sl_TooSlow_init : Array (Option Value)} {oc_TooSlow_init kV_TooSlow_init dc_TooSlow_init pm_TooSlow_init cd_TooSlow_init ct_TooSlow_init : Value}
    {f_Refused_init : Addr} {od_Refused_init an_Refused_init : Option Addr} {sl_Refused_init : Array (Option Value)} {oc_Refused_init kV_Refused_init dc_Refused_init pm_Refused_init cd_Refused_init ct_Refused_init : Value}
    {f_Overfull_init : Addr} {od_Overfull_init an_Overfull_init : Option Addr} {sl_Overfull_init : Array (Option Value)} {oc_Overfull_init kV_Overfull_init dc_Overfull_init pm_Overfull_init cd_Overfull_init ct_Overfull_init : Value}
    {f_NoSplits_init : Addr} {od_NoSplits_init an_NoSplits_init : Option Addr} {sl_NoSplits_init : Array (Option Value)} {oc_NoSplits_init kV_NoSplits_init dc_NoSplits_init pm_NoSplits_init cd_NoSplits_init ct_NoSplits_init : Value}
    {f_Exposed_init : Addr} {od_Exposed_init an_Exposed_init : Option Addr} {sl_Exposed_init : Array (Option Value)} {oc_Exposed_init kV_Exposed_init dc_Exposed_init pm_Exposed_init cd_Exposed_init ct_Exposed_init : Value}
    {f_NotLate_init : Addr} {od_NotLate_init an_NotLate_init : Option Addr} {sl_NotLate_init : Array (Option Value)} {oc_NotLate_init kV_NotLate_init dc_NotLate_init pm_NotLate_init cd_NotLate_init ct_NotLate_init : Value}
    {f_RunFailed_init : Addr} {od_RunFailed_init an_RunFailed_init : Option Addr} {sl_RunFailed_init : Array (Option Value)} {oc_RunFailed_init kV_RunFailed_init dc_RunFailed_init pm_RunFailed_init cd_RunFailed_init ct_RunFailed_init : Value}
    {f_TooLong_init : Addr} {od_TooLong_init an_TooLong_init : Option Addr} {sl_TooLong_init : Array (Option Value)} {oc_TooLong_init kV_TooLong_init dc_TooLong_init pm_TooLong_init cd_TooLong_init ct_TooLong_init : Value}
    {f_TooMany_init : Addr} {od_TooMany_init an_TooMany_init : Option Addr} {sl_TooMany_init : Array (Option Value)} {oc_TooMany_init kV_TooMany_init dc_TooMany_init pm_TooMany_init cd_TooMany_init ct_TooMany_init : Value}
    {f_l_rng : Addr} {od_l_rng an_l_rng : Option Addr} {sl_l_rng : Array (Option Value)} {oc_l_rng kV_l_rng dc_l_rng pm_l_rng cd_l_rng ct_l_rng : Value}
    {f_l_draw : Addr} {od_l_draw an_l_draw : Option Addr} {sl_l_draw : Array (Option Value)} {oc_l_draw kV_l_draw dc_l_draw pm_l_draw cd_l_draw ct_l_draw : Value}
    {f_l_thing : Addr} {od_l_thing an_l_thing : Option Addr} {sl_l_thing : Array (Option Value)} {oc_l_thing kV_l_thing dc_l_thing pm_l_thing cd_l_thing ct_l_thing : Value}
    {f_l_ones : Addr} {od_l_ones an_l_ones : Option Addr} {sl_l_ones : Array (Option Value)} {oc_l_ones kV_l_ones dc_l_ones pm_l_ones cd_l_ones ct_l_ones : Value}
    {f_l_ones_by_place : Addr} {od_l_ones_by_place an_l_ones_by_place : Option Addr} {sl_l_ones_by_place : Array (Option Value)} {oc_l_ones_by_place kV_l_ones_by_place dc_l_ones_by_place pm_l_ones_by_place cd_l_ones_by_place ct_l_ones_by_place : Value}
    {f_l_told : Addr} {od_l_told an_l_told : Option Addr} {sl_l_told : Array (Option Value)} {oc_l_told kV_l_told dc_l_told pm_l_told cd_l_told ct_l_told : Value}
    {f_l_more : Addr} {od_l_more an_l_more : Option Addr} {sl_l_more : Array (Option Value)} {oc_l_more kV_l_more dc_l_more pm_l_more cd_l_more ct_l_more : Value}
    {f_l_parts : Addr} {od_l_parts an_l_parts : Option Addr} {sl_l_parts : Array (Option Value)} {oc_l_parts kV_l_parts dc_l_parts pm_l_parts cd_l_parts ct_l_parts : Value}
    {f_l_classes : Addr} {od_l_classes an_l_classes : Option Addr} {sl_l_classes : Array (Option Value)} {oc_l_classes kV_l_classes dc_l_classes pm_l_classes cd_l_classes ct_l_classes : Value}
    {f_l_base : Addr} {od_l_base an_l_base : Option Addr} {sl_l_base : Array (Option Value)} {oc_l_base kV_l_base dc_l_base pm_l_base cd_l_base ct_l_base : Value}
    {f_l_is_of : Addr} {od_l_is_of an_l_is_of : Option Addr} {sl_l_is_of : Array (Option Value)} {oc_l_is_of kV_l_is_of dc_l_is_of pm_l_is_of cd_l_is_of ct_l_is_of : Value}
    {f_l_right : Addr} {od_l_right an_l_right : Option Addr} {sl_l_right : Array (Option Value)} {oc_l_right kV_l_right dc_l_right pm_l_right cd_l_right ct_l_right : Value}
    {f_law : Addr} {od_law an_law : Option Addr} {sl_law : Array (Option Value)} {oc_law kV_law dc_law pm_law cd_law ct_law : Value}
    (g_InvalidCurve : PySem.W.nsIn K mainGlobals "InvalidCurve" = some (some (.ref C_InvalidCurve)))
    (hd_InvalidCurve : PySem.W.hasDictIn K C_InvalidCurve = true)
    (xe_InvalidCurve : PySem.W.subIn K (.ref C_InvalidCurve) (.type "BaseException") = some true)
    (ty_InvalidCurve : PySem.W.typeIn K (.ref C_InvalidCurve) = some (.type "type"))
    (kc_InvalidCurve : PySem.W.keepIn K (.ref C_InvalidCurve) = true)
    (ga_InvalidCurve : PySem.W.findIn K (.ref C_InvalidCurve) "__getattribute__" = some (some (.builtin "BaseException.__getattribute__")))
    (gt_InvalidCurve : PySem.W.findIn K (.ref C_InvalidCurve) "__getattr__" = some none)
    (cc_InvalidCurve : PySem.W.findIn K (.ref C_InvalidCurve) "__class__" = some (some (.builtin "object.__class__")))
    (mr_InvalidCurve : PySem.W.mroIn K C_InvalidCurve (.type "object") = some true)
    (cd_InvalidCurve : ∃ cd, PySem.W.clsIn K C_InvalidCurve = some cd ∧ cd.mro = [.ref C_InvalidCurve, .ref C_DueError, .type "ValueError", .type "Exception", .type "BaseException", .type "object"])
    (q_gn : PySem.W.specialIn K (.builtin "object.__class__") "__get__" = some (some (.builtin "getset_descriptor.__get__")))
    (q_tk : PySem.W.takesIn K (.builtin "object.__class__") = some true)
    (xi_InvalidCurve : PySem.W.excInitIn K C_InvalidCurve [.type "ValueError", .type "Exception", .type "BaseException", .type "object"] "ValueError.__new__" = true)
    (xo_InvalidCurve : PySem.W.excOver K C_InvalidCurve [.type "ValueError", .type "Exception", .type "BaseException", .type "object"] = true)
    (sa_InvalidCurve : PySem.W.findIn K (.ref C_InvalidCurve) "__setattr__" = some (some (.builtin "object.__setattr__")))
    (n_InvalidCurve_problem : PySem.W.findIn K (.ref C_InvalidCurve) "problem" = some none)
    (n_InvalidCurve_position : PySem.W.findIn K (.ref C_InvalidCurve) "position" = some none)
    (g_InvalidPiece : PySem.W.nsIn K mainGlobals "InvalidPiece" = some (some (.ref C_InvalidPiece)))
    (hd_InvalidPiece : PySem.W.hasDictIn K C_InvalidPiece = true)
    (xe_InvalidPiece : PySem.W.subIn K (.ref C_InvalidPiece) (.type "BaseException") = some true)
    (ty_InvalidPiece : PySem.W.typeIn K (.ref C_InvalidPiece) = some (.type "type"))
    (kc_InvalidPiece : PySem.W.keepIn K (.ref C_InvalidPiece) = true)
    (ga_InvalidPiece : PySem.W.findIn K (.ref C_InvalidPiece) "__getattribute__" = some (some (.builtin "BaseException.__getattribute__")))
    (gt_InvalidPiece : PySem.W.findIn K (.ref C_InvalidPiece) "__getattr__" = some none)
    (cc_InvalidPiece : PySem.W.findIn K (.ref C_InvalidPiece) "__class__" = some (some (.builtin "object.__class__")))
    (mr_InvalidPiece : PySem.W.mroIn K C_InvalidPiece (.type "object") = some true)
    (cd_InvalidPiece : ∃ cd, PySem.W.clsIn K C_InvalidPiece = some cd ∧ cd.mro = [.ref C_InvalidPiece, .ref C_DueError, .type "ValueError", .type "Exception", .type "BaseException", .type "object"])
    (xi_InvalidPiece : PySem.W.excInitIn K C_InvalidPiece [.type "ValueError", .type "Exception", .type "BaseException", .type "object"] "ValueError.__new__" = true)
    (xo_InvalidPiece : PySem.W.excOver K C_InvalidPiece [.type "ValueError", .type "Exception", .type "BaseException", .type "object"] = true)
    (sa_InvalidPiece : PySem.W.findIn K (.ref C_InvalidPiece) "__setattr__" = some (some (.builtin "object.__setattr__")))
    (n_InvalidPiece_position : PySem.W.findIn K (.ref C_InvalidPiece) "position" = some none)
    (g_InvalidLength : PySem.W.nsIn K mainGlobals "InvalidLength" = some (some (.ref C_InvalidLength)))
    (hd_InvalidLength : PySem.W.hasDictIn K C_InvalidLength = true)
    (xe_InvalidLength : PySem.W.subIn K (.ref C_InvalidLength) (.type "BaseException") = some true)
    (ty_InvalidLength : PySem.W.typeIn K (.ref C_InvalidLength) = some (.type "type"))
    (kc_InvalidLength : PySem.W.keepIn K (.ref C_InvalidLength) = true)
    (ga_InvalidLength : PySem.W.findIn K (.ref C_InvalidLength) "__getattribute__" = some (some (.builtin "BaseException.__getattribute__")))
    (gt_InvalidLength : PySem.W.findIn K (.ref C_InvalidLength) "__getattr__" = some none)
    (cc_InvalidLength : PySem.W.findIn K (.ref C_InvalidLength) "__class__" = some (some (.builtin "object.__class__")))
    (mr_InvalidLength : PySem.W.mroIn K C_InvalidLength (.type "object") = some true)
    (cd_InvalidLength : ∃ cd, PySem.W.clsIn K C_InvalidLength = some cd ∧ cd.mro = [.ref C_InvalidLength, .ref C_DueError, .type "ValueError", .type "Exception", .type "BaseException", .type "object"])
    (xi_InvalidLength : PySem.W.excInitIn K C_InvalidLength [.type "ValueError", .type "Exception", .type "BaseException", .type "object"] "ValueError.__new__" = true)
    (xo_InvalidLength : PySem.W.excOver K C_InvalidLength [.type "ValueError", .type "Exception", .type "BaseException", .type "object"] = true)
    (sa_InvalidLength : PySem.W.findIn K (.ref C_InvalidLength) "__setattr__" = some (some (.builtin "object.__setattr__")))
    (n_InvalidLength_value : PySem.W.findIn K (.ref C_InvalidLength) "value" = some none)
    (g_InvalidCount : PySem.W.nsIn K mainGlobals "InvalidCount" = some (some (.ref C_InvalidCount)))
    (hd_InvalidCount : PySem.W.hasDictIn K C_InvalidCount = true)
    (xe_InvalidCount : PySem.W.subIn K (.ref C_InvalidCount) (.type "BaseException") = some true)
    (ty_InvalidCount : PySem.W.typeIn K (.ref C_InvalidCount) = some (.type "type"))
    (kc_InvalidCount : PySem.W.keepIn K (.ref C_InvalidCount) = true)
    (ga_InvalidCount : PySem.W.findIn K (.ref C_InvalidCount) "__getattribute__" = some (some (.builtin "BaseException.__getattribute__")))
    (gt_InvalidCount : PySem.W.findIn K (.ref C_InvalidCount) "__getattr__" = some none)
    (cc_InvalidCount : PySem.W.findIn K (.ref C_InvalidCount) "__class__" = some (some (.builtin "object.__class__")))
    (mr_InvalidCount : PySem.W.mroIn K C_InvalidCount (.type "object") = some true)
    (cd_InvalidCount : ∃ cd, PySem.W.clsIn K C_InvalidCount = some cd ∧ cd.mro = [.ref C_InvalidCount, .ref C_DueError, .type "ValueError", .type "Exception", .type "BaseException", .type "object"])
    (xi_InvalidCount : PySem.W.excInitIn K C_InvalidCount [.type "ValueError", .type "Exception", .type "BaseException", .type "object"] "ValueError.__new__" = true)
    (xo_InvalidCount : PySem.W.excOver K C_InvalidCount [.type "ValueError", .type "Exception", .type "BaseException", .type "object"] = true)
    (sa_InvalidCount : PySem.W.findIn K (.ref C_InvalidCount) "__setattr__" = some (some (.builtin "object.__setattr__")))
    (n_InvalidCount_value : PySem.W.findIn K (.ref C_InvalidCount) "value" = some none)
    (g_InvalidRecord : PySem.W.nsIn K mainGlobals "InvalidRecord" = some (some (.ref C_InvalidRecord)))
    (hd_InvalidRecord : PySem.W.hasDictIn K C_InvalidRecord = true)
    (xe_InvalidRecord : PySem.W.subIn K (.ref C_InvalidRecord) (.type "BaseException") = some true)
    (ty_InvalidRecord : PySem.W.typeIn K (.ref C_InvalidRecord) = some (.type "type"))
    (kc_InvalidRecord : PySem.W.keepIn K (.ref C_InvalidRecord) = true)
    (ga_InvalidRecord : PySem.W.findIn K (.ref C_InvalidRecord) "__getattribute__" = some (some (.builtin "BaseException.__getattribute__")))
    (gt_InvalidRecord : PySem.W.findIn K (.ref C_InvalidRecord) "__getattr__" = some none)
    (cc_InvalidRecord : PySem.W.findIn K (.ref C_InvalidRecord) "__class__" = some (some (.builtin "object.__class__")))
    (mr_InvalidRecord : PySem.W.mroIn K C_InvalidRecord (.type "object") = some true)
    (cd_InvalidRecord : ∃ cd, PySem.W.clsIn K C_InvalidRecord = some cd ∧ cd.mro = [.ref C_InvalidRecord, .ref C_DueError, .type "ValueError", .type "Exception", .type "BaseException", .type "object"])
    (xi_InvalidRecord : PySem.W.excInitIn K C_InvalidRecord [.type "ValueError", .type "Exception", .type "BaseException", .type "object"] "ValueError.__new__" = true)
    (xo_InvalidRecord : PySem.W.excOver K C_InvalidRecord [.type "ValueError", .type "Exception", .type "BaseException", .type "object"] = true)
    (sa_InvalidRecord : PySem.W.findIn K (.ref C_InvalidRecord) "__setattr__" = some (some (.builtin "object.__setattr__")))
    (n_InvalidRecord_position : PySem.W.findIn K (.ref C_InvalidRecord) "position" = some none)
    (g_InvalidVisit : PySem.W.nsIn K mainGlobals "InvalidVisit" = some (some (.ref C_InvalidVisit)))
    (hd_InvalidVisit : PySem.W.hasDictIn K C_InvalidVisit = true)
    (xe_InvalidVisit : PySem.W.subIn K (.ref C_InvalidVisit) (.type "BaseException") = some true)
    (ty_InvalidVisit : PySem.W.typeIn K (.ref C_InvalidVisit) = some (.type "type"))
    (kc_InvalidVisit : PySem.W.keepIn K (.ref C_InvalidVisit) = true)
    (ga_InvalidVisit : PySem.W.findIn K (.ref C_InvalidVisit) "__getattribute__" = some (some (.builtin "BaseException.__getattribute__")))
    (gt_InvalidVisit : PySem.W.findIn K (.ref C_InvalidVisit) "__getattr__" = some none)
    (cc_InvalidVisit : PySem.W.findIn K (.ref C_InvalidVisit) "__class__" = some (some (.builtin "object.__class__")))
    (mr_InvalidVisit : PySem.W.mroIn K C_InvalidVisit (.type "object") = some true)
    (cd_InvalidVisit : ∃ cd, PySem.W.clsIn K C_InvalidVisit = some cd ∧ cd.mro = [.ref C_InvalidVisit, .ref C_DueError, .type "ValueError", .type "Exception", .type "BaseException", .type "object"])
    (xi_InvalidVisit : PySem.W.excInitIn K C_InvalidVisit [.type "ValueError", .type "Exception", .type "BaseException", .type "object"] "ValueError.__new__" = true)
    (xo_InvalidVisit : PySem.W.excOver K C_InvalidVisit [.type "ValueError", .type "Exception", .type "BaseException", .type "object"] = true)
    (sa_InvalidVisit : PySem.W.findIn K (.ref C_InvalidVisit) "__setattr__" = some (some (.builtin "object.__setattr__")))
    (n_InvalidVisit_problem : PySem.W.findIn K (.ref C_InvalidVisit) "problem" = some none)
    (g_InvalidVisits : PySem.W.nsIn K mainGlobals "InvalidVisits" = some (some (.ref C_InvalidVisits)))
    (hd_InvalidVisits : PySem.W.hasDictIn K C_InvalidVisits = true)
    (xe_InvalidVisits : PySem.W.subIn K (.ref C_InvalidVisits) (.type "BaseException") = some true)
    (ty_InvalidVisits : PySem.W.typeIn K (.ref C_InvalidVisits) = some (.type "type"))
    (kc_InvalidVisits : PySem.W.keepIn K (.ref C_InvalidVisits) = true)
    (ga_InvalidVisits : PySem.W.findIn K (.ref C_InvalidVisits) "__getattribute__" = some (some (.builtin "BaseException.__getattribute__")))
    (gt_InvalidVisits : PySem.W.findIn K (.ref C_InvalidVisits) "__getattr__" = some none)
    (cc_InvalidVisits : PySem.W.findIn K (.ref C_InvalidVisits) "__class__" = some (some (.builtin "object.__class__")))
    (mr_InvalidVisits : PySem.W.mroIn K C_InvalidVisits (.type "object") = some true)
    (cd_InvalidVisits : ∃ cd, PySem.W.clsIn K C_InvalidVisits = some cd ∧ cd.mro = [.ref C_InvalidVisits, .ref C_DueError, .type "ValueError", .type "Exception", .type "BaseException", .type "object"])
    (xi_InvalidVisits : PySem.W.excInitIn K C_InvalidVisits [.type "ValueError", .type "Exception", .type "BaseException", .type "object"] "ValueError.__new__" = true)
    (xo_InvalidVisits : PySem.W.excOver K C_InvalidVisits [.type "ValueError", .type "Exception", .type "BaseException", .type "object"] = true)
    (sa_InvalidVisits : PySem.W.findIn K (.ref C_InvalidVisits) "__setattr__" = some (some (.builtin "object.__setattr__")))
    (n_InvalidVisits_position : PySem.W.findIn K (.ref C_InvalidVisits) "position" = some none)
    (g_InvalidSupply : PySem.W.nsIn K mainGlobals "InvalidSupply" = some (some (.ref C_InvalidSupply)))
    (hd_InvalidSupply : PySem.W.hasDictIn K C_InvalidSupply = true)
    (xe_InvalidSupply : PySem.W.subIn K (.ref C_InvalidSupply) (.type "BaseException") = some true)
    (ty_InvalidSupply : PySem.W.typeIn K (.ref C_InvalidSupply) = some (.type "type"))
    (kc_InvalidSupply : PySem.W.keepIn K (.ref C_InvalidSupply) = true)
    (ga_InvalidSupply : PySem.W.findIn K (.ref C_InvalidSupply) "__getattribute__" = some (some (.builtin "BaseException.__getattribute__")))
    (gt_InvalidSupply : PySem.W.findIn K (.ref C_InvalidSupply) "__getattr__" = some none)
    (cc_InvalidSupply : PySem.W.findIn K (.ref C_InvalidSupply) "__class__" = some (some (.builtin "object.__class__")))
    (mr_InvalidSupply : PySem.W.mroIn K C_InvalidSupply (.type "object") = some true)
    (cd_InvalidSupply : ∃ cd, PySem.W.clsIn K C_InvalidSupply = some cd ∧ cd.mro = [.ref C_InvalidSupply, .ref C_DueError, .type "ValueError", .type "Exception", .type "BaseException", .type "object"])
    (xi_InvalidSupply : PySem.W.excInitIn K C_InvalidSupply [.type "ValueError", .type "Exception", .type "BaseException", .type "object"] "ValueError.__new__" = true)
    (xo_InvalidSupply : PySem.W.excOver K C_InvalidSupply [.type "ValueError", .type "Exception", .type "BaseException", .type "object"] = true)
    (sa_InvalidSupply : PySem.W.findIn K (.ref C_InvalidSupply) "__setattr__" = some (some (.builtin "object.__setattr__")))
    (n_InvalidSupply_position : PySem.W.findIn K (.ref C_InvalidSupply) "position" = some none)
    (g_InvalidWindow : PySem.W.nsIn K mainGlobals "InvalidWindow" = some (some (.ref C_InvalidWindow)))
    (hd_InvalidWindow : PySem.W.hasDictIn K C_InvalidWindow = true)
    (xe_InvalidWindow : PySem.W.subIn K (.ref C_InvalidWindow) (.type "BaseException") = some true)
    (ty_InvalidWindow : PySem.W.typeIn K (.ref C_InvalidWindow) = some (.type "type"))
    (kc_InvalidWindow : PySem.W.keepIn K (.ref C_InvalidWindow) = true)
    (ga_InvalidWindow : PySem.W.findIn K (.ref C_InvalidWindow) "__getattribute__" = some (some (.builtin "BaseException.__getattribute__")))
    (gt_InvalidWindow : PySem.W.findIn K (.ref C_InvalidWindow) "__getattr__" = some none)
    (cc_InvalidWindow : PySem.W.findIn K (.ref C_InvalidWindow) "__class__" = some (some (.builtin "object.__class__")))
    (mr_InvalidWindow : PySem.W.mroIn K C_InvalidWindow (.type "object") = some true)
    (cd_InvalidWindow : ∃ cd, PySem.W.clsIn K C_InvalidWindow = some cd ∧ cd.mro = [.ref C_InvalidWindow, .ref C_DueError, .type "ValueError", .type "Exception", .type "BaseException", .type "object"])
    (xi_InvalidWindow : PySem.W.excInitIn K C_InvalidWindow [.type "ValueError", .type "Exception", .type "BaseException", .type "object"] "ValueError.__new__" = true)
    (xo_InvalidWindow : PySem.W.excOver K C_InvalidWindow [.type "ValueError", .type "Exception", .type "BaseException", .type "object"] = true)
    (sa_InvalidWindow : PySem.W.findIn K (.ref C_InvalidWindow) "__setattr__" = some (some (.builtin "object.__setattr__")))
    (n_InvalidWindow_value : PySem.W.findIn K (.ref C_InvalidWindow) "value" = some none)
    (g_InvalidStation : PySem.W.nsIn K mainGlobals "InvalidStation" = some (some (.ref C_InvalidStation)))
    (hd_InvalidStation : PySem.W.hasDictIn K C_InvalidStation = true)
    (xe_InvalidStation : PySem.W.subIn K (.ref C_InvalidStation) (.type "BaseException") = some true)
    (ty_InvalidStation : PySem.W.typeIn K (.ref C_InvalidStation) = some (.type "type"))
    (kc_InvalidStation : PySem.W.keepIn K (.ref C_InvalidStation) = true)
    (ga_InvalidStation : PySem.W.findIn K (.ref C_InvalidStation) "__getattribute__" = some (some (.builtin "BaseException.__getattribute__")))
    (gt_InvalidStation : PySem.W.findIn K (.ref C_InvalidStation) "__getattr__" = some none)
    (cc_InvalidStation : PySem.W.findIn K (.ref C_InvalidStation) "__class__" = some (some (.builtin "object.__class__")))
    (mr_InvalidStation : PySem.W.mroIn K C_InvalidStation (.type "object") = some true)
    (cd_InvalidStation : ∃ cd, PySem.W.clsIn K C_InvalidStation = some cd ∧ cd.mro = [.ref C_InvalidStation, .ref C_DueError, .type "ValueError", .type "Exception", .type "BaseException", .type "object"])
    (xi_InvalidStation : PySem.W.excInitIn K C_InvalidStation [.type "ValueError", .type "Exception", .type "BaseException", .type "object"] "ValueError.__new__" = true)
    (xo_InvalidStation : PySem.W.excOver K C_InvalidStation [.type "ValueError", .type "Exception", .type "BaseException", .type "object"] = true)
    (sa_InvalidStation : PySem.W.findIn K (.ref C_InvalidStation) "__setattr__" = some (some (.builtin "object.__setattr__")))
    (n_InvalidStation_problem : PySem.W.findIn K (.ref C_InvalidStation) "problem" = some none)
    (g_InvalidNetwork : PySem.W.nsIn K mainGlobals "InvalidNetwork" = some (some (.ref C_InvalidNetwork)))
    (hd_InvalidNetwork : PySem.W.hasDictIn K C_InvalidNetwork = true)
    (xe_InvalidNetwork : PySem.W.subIn K (.ref C_InvalidNetwork) (.type "BaseException") = some true)
    (ty_InvalidNetwork : PySem.W.typeIn K (.ref C_InvalidNetwork) = some (.type "type"))
    (kc_InvalidNetwork : PySem.W.keepIn K (.ref C_InvalidNetwork) = true)
    (ga_InvalidNetwork : PySem.W.findIn K (.ref C_InvalidNetwork) "__getattribute__" = some (some (.builtin "BaseException.__getattribute__")))
    (gt_InvalidNetwork : PySem.W.findIn K (.ref C_InvalidNetwork) "__getattr__" = some none)
    (cc_InvalidNetwork : PySem.W.findIn K (.ref C_InvalidNetwork) "__class__" = some (some (.builtin "object.__class__")))
    (mr_InvalidNetwork : PySem.W.mroIn K C_InvalidNetwork (.type "object") = some true)
    (cd_InvalidNetwork : ∃ cd, PySem.W.clsIn K C_InvalidNetwork = some cd ∧ cd.mro = [.ref C_InvalidNetwork, .ref C_DueError, .type "ValueError", .type "Exception", .type "BaseException", .type "object"])
    (xi_InvalidNetwork : PySem.W.excInitIn K C_InvalidNetwork [.type "ValueError", .type "Exception", .type "BaseException", .type "object"] "ValueError.__new__" = true)
    (xo_InvalidNetwork : PySem.W.excOver K C_InvalidNetwork [.type "ValueError", .type "Exception", .type "BaseException", .type "object"] = true)
    (sa_InvalidNetwork : PySem.W.findIn K (.ref C_InvalidNetwork) "__setattr__" = some (some (.builtin "object.__setattr__")))
    (n_InvalidNetwork_problem : PySem.W.findIn K (.ref C_InvalidNetwork) "problem" = some none)
    (n_InvalidNetwork_position : PySem.W.findIn K (.ref C_InvalidNetwork) "position" = some none)
    (g_InvalidName : PySem.W.nsIn K mainGlobals "InvalidName" = some (some (.ref C_InvalidName)))
    (hd_InvalidName : PySem.W.hasDictIn K C_InvalidName = true)
    (xe_InvalidName : PySem.W.subIn K (.ref C_InvalidName) (.type "BaseException") = some true)
    (ty_InvalidName : PySem.W.typeIn K (.ref C_InvalidName) = some (.type "type"))
    (kc_InvalidName : PySem.W.keepIn K (.ref C_InvalidName) = true)
    (ga_InvalidName : PySem.W.findIn K (.ref C_InvalidName) "__getattribute__" = some (some (.builtin "BaseException.__getattribute__")))
    (gt_InvalidName : PySem.W.findIn K (.ref C_InvalidName) "__getattr__" = some none)
    (cc_InvalidName : PySem.W.findIn K (.ref C_InvalidName) "__class__" = some (some (.builtin "object.__class__")))
    (mr_InvalidName : PySem.W.mroIn K C_InvalidName (.type "object") = some true)
    (cd_InvalidName : ∃ cd, PySem.W.clsIn K C_InvalidName = some cd ∧ cd.mro = [.ref C_InvalidName, .ref C_DueError, .type "ValueError", .type "Exception", .type "BaseException", .type "object"])
    (xi_InvalidName : PySem.W.excInitIn K C_InvalidName [.type "ValueError", .type "Exception", .type "BaseException", .type "object"] "ValueError.__new__" = true)
    (xo_InvalidName : PySem.W.excOver K C_InvalidName [.type "ValueError", .type "Exception", .type "BaseException", .type "object"] = true)
    (sa_InvalidName : PySem.W.findIn K (.ref C_InvalidName) "__setattr__" = some (some (.builtin "object.__setattr__")))
    (n_InvalidName_value : PySem.W.findIn K (.ref C_InvalidName) "value" = some none)
    (g_InvalidPath : PySem.W.nsIn K mainGlobals "InvalidPath" = some (some (.ref C_InvalidPath)))
    (hd_InvalidPath : PySem.W.hasDictIn K C_InvalidPath = true)
    (xe_InvalidPath : PySem.W.subIn K (.ref C_InvalidPath) (.type "BaseException") = some true)
    (ty_InvalidPath : PySem.W.typeIn K (.ref C_InvalidPath) = some (.type "type"))
    (kc_InvalidPath : PySem.W.keepIn K (.ref C_InvalidPath) = true)
    (ga_InvalidPath : PySem.W.findIn K (.ref C_InvalidPath) "__getattribute__" = some (some (.builtin "BaseException.__getattribute__")))
    (gt_InvalidPath : PySem.W.findIn K (.ref C_InvalidPath) "__getattr__" = some none)
    (cc_InvalidPath : PySem.W.findIn K (.ref C_InvalidPath) "__class__" = some (some (.builtin "object.__class__")))
    (mr_InvalidPath : PySem.W.mroIn K C_InvalidPath (.type "object") = some true)
    (cd_InvalidPath : ∃ cd, PySem.W.clsIn K C_InvalidPath = some cd ∧ cd.mro = [.ref C_InvalidPath, .ref C_DueError, .type "ValueError", .type "Exception", .type "BaseException", .type "object"])
    (xi_InvalidPath : PySem.W.excInitIn K C_InvalidPath [.type "ValueError", .type "Exception", .type "BaseException", .type "object"] "ValueError.__new__" = true)
    (xo_InvalidPath : PySem.W.excOver K C_InvalidPath [.type "ValueError", .type "Exception", .type "BaseException", .type "object"] = true)
    (sa_InvalidPath : PySem.W.findIn K (.ref C_InvalidPath) "__setattr__" = some (some (.builtin "object.__setattr__")))
    (n_InvalidPath_position : PySem.W.findIn K (.ref C_InvalidPath) "position" = some none)
    (g_InvalidSplit : PySem.W.nsIn K mainGlobals "InvalidSplit" = some (some (.ref C_InvalidSplit)))
    (hd_InvalidSplit : PySem.W.hasDictIn K C_InvalidSplit = true)
    (xe_InvalidSplit : PySem.W.subIn K (.ref C_InvalidSplit) (.type "BaseException") = some true)
    (ty_InvalidSplit : PySem.W.typeIn K (.ref C_InvalidSplit) = some (.type "type"))
    (kc_InvalidSplit : PySem.W.keepIn K (.ref C_InvalidSplit) = true)
    (ga_InvalidSplit : PySem.W.findIn K (.ref C_InvalidSplit) "__getattribute__" = some (some (.builtin "BaseException.__getattribute__")))
    (gt_InvalidSplit : PySem.W.findIn K (.ref C_InvalidSplit) "__getattr__" = some none)
    (cc_InvalidSplit : PySem.W.findIn K (.ref C_InvalidSplit) "__class__" = some (some (.builtin "object.__class__")))
    (mr_InvalidSplit : PySem.W.mroIn K C_InvalidSplit (.type "object") = some true)
    (cd_InvalidSplit : ∃ cd, PySem.W.clsIn K C_InvalidSplit = some cd ∧ cd.mro = [.ref C_InvalidSplit, .ref C_DueError, .type "ValueError", .type "Exception", .type "BaseException", .type "object"])
    (xi_InvalidSplit : PySem.W.excInitIn K C_InvalidSplit [.type "ValueError", .type "Exception", .type "BaseException", .type "object"] "ValueError.__new__" = true)
    (xo_InvalidSplit : PySem.W.excOver K C_InvalidSplit [.type "ValueError", .type "Exception", .type "BaseException", .type "object"] = true)
    (sa_InvalidSplit : PySem.W.findIn K (.ref C_InvalidSplit) "__setattr__" = some (some (.builtin "object.__setattr__")))
    (n_InvalidSplit_position : PySem.W.findIn K (.ref C_InvalidSplit) "position" = some none)
    (g_InvalidTime : PySem.W.nsIn K mainGlobals "InvalidTime" = some (some (.ref C_InvalidTime)))
    (hd_InvalidTime : PySem.W.hasDictIn K C_InvalidTime = true)
    (xe_InvalidTime : PySem.W.subIn K (.ref C_InvalidTime) (.type "BaseException") = some true)
    (ty_InvalidTime : PySem.W.typeIn K (.ref C_InvalidTime) = some (.type "type"))
    (kc_InvalidTime : PySem.W.keepIn K (.ref C_InvalidTime) = true)
    (ga_InvalidTime : PySem.W.findIn K (.ref C_InvalidTime) "__getattribute__" = some (some (.builtin "BaseException.__getattribute__")))
    (gt_InvalidTime : PySem.W.findIn K (.ref C_InvalidTime) "__getattr__" = some none)
    (cc_InvalidTime : PySem.W.findIn K (.ref C_InvalidTime) "__class__" = some (some (.builtin "object.__class__")))
    (mr_InvalidTime : PySem.W.mroIn K C_InvalidTime (.type "object") = some true)
    (cd_InvalidTime : ∃ cd, PySem.W.clsIn K C_InvalidTime = some cd ∧ cd.mro = [.ref C_InvalidTime, .ref C_DueError, .type "ValueError", .type "Exception", .type "BaseException", .type "object"])
    (xi_InvalidTime : PySem.W.excInitIn K C_InvalidTime [.type "ValueError", .type "Exception", .type "BaseException", .type "object"] "ValueError.__new__" = true)
    (xo_InvalidTime : PySem.W.excOver K C_InvalidTime [.type "ValueError", .type "Exception", .type "BaseException", .type "object"] = true)
    (sa_InvalidTime : PySem.W.findIn K (.ref C_InvalidTime) "__setattr__" = some (some (.builtin "object.__setattr__")))
    (n_InvalidTime_value : PySem.W.findIn K (.ref C_InvalidTime) "value" = some none)
    (g_InvalidTick : PySem.W.nsIn K mainGlobals "InvalidTick" = some (some (.ref C_InvalidTick)))
    (hd_InvalidTick : PySem.W.hasDictIn K C_InvalidTick = true)
    (xe_InvalidTick : PySem.W.subIn K (.ref C_InvalidTick) (.type "BaseException") = some true)
    (ty_InvalidTick : PySem.W.typeIn K (.ref C_InvalidTick) = some (.type "type"))
    (kc_InvalidTick : PySem.W.keepIn K (.ref C_InvalidTick) = true)
    (ga_InvalidTick : PySem.W.findIn K (.ref C_InvalidTick) "__getattribute__" = some (some (.builtin "BaseException.__getattribute__")))
    (gt_InvalidTick : PySem.W.findIn K (.ref C_InvalidTick) "__getattr__" = some none)
    (cc_InvalidTick : PySem.W.findIn K (.ref C_InvalidTick) "__class__" = some (some (.builtin "object.__class__")))
    (mr_InvalidTick : PySem.W.mroIn K C_InvalidTick (.type "object") = some true)
    (cd_InvalidTick : ∃ cd, PySem.W.clsIn K C_InvalidTick = some cd ∧ cd.mro = [.ref C_InvalidTick, .ref C_DueError, .type "ValueError", .type "Exception", .type "BaseException", .type "object"])
    (xi_InvalidTick : PySem.W.excInitIn K C_InvalidTick [.type "ValueError", .type "Exception", .type "BaseException", .type "object"] "ValueError.__new__" = true)
    (xo_InvalidTick : PySem.W.excOver K C_InvalidTick [.type "ValueError", .type "Exception", .type "BaseException", .type "object"] = true)
    (sa_InvalidTick : PySem.W.findIn K (.ref C_InvalidTick) "__setattr__" = some (some (.builtin "object.__setattr__")))
    (n_InvalidTick_value : PySem.W.findIn K (.ref C_InvalidTick) "value" = some none)
    (g_InvalidFault : PySem.W.nsIn K mainGlobals "InvalidFault" = some (some (.ref C_InvalidFault)))
    (hd_InvalidFault : PySem.W.hasDictIn K C_InvalidFault = true)
    (xe_InvalidFault : PySem.W.subIn K (.ref C_InvalidFault) (.type "BaseException") = some true)
    (ty_InvalidFault : PySem.W.typeIn K (.ref C_InvalidFault) = some (.type "type"))
    (kc_InvalidFault : PySem.W.keepIn K (.ref C_InvalidFault) = true)
    (ga_InvalidFault : PySem.W.findIn K (.ref C_InvalidFault) "__getattribute__" = some (some (.builtin "BaseException.__getattribute__")))
    (gt_InvalidFault : PySem.W.findIn K (.ref C_InvalidFault) "__getattr__" = some none)
    (cc_InvalidFault : PySem.W.findIn K (.ref C_InvalidFault) "__class__" = some (some (.builtin "object.__class__")))
    (mr_InvalidFault : PySem.W.mroIn K C_InvalidFault (.type "object") = some true)
    (cd_InvalidFault : ∃ cd, PySem.W.clsIn K C_InvalidFault = some cd ∧ cd.mro = [.ref C_InvalidFault, .ref C_DueError, .type "ValueError", .type "Exception", .type "BaseException", .type "object"])
    (xi_InvalidFault : PySem.W.excInitIn K C_InvalidFault [.type "ValueError", .type "Exception", .type "BaseException", .type "object"] "ValueError.__new__" = true)
    (xo_InvalidFault : PySem.W.excOver K C_InvalidFault [.type "ValueError", .type "Exception", .type "BaseException", .type "object"] = true)
    (sa_InvalidFault : PySem.W.findIn K (.ref C_InvalidFault) "__setattr__" = some (some (.builtin "object.__setattr__")))
    (n_InvalidFault_problem : PySem.W.findIn K (.ref C_InvalidFault) "problem" = some none)
    (g_InvalidFaults : PySem.W.nsIn K mainGlobals "InvalidFaults" = some (some (.ref C_InvalidFaults)))
    (hd_InvalidFaults : PySem.W.hasDictIn K C_InvalidFaults = true)
    (xe_InvalidFaults : PySem.W.subIn K (.ref C_InvalidFaults) (.type "BaseException") = some true)
    (ty_InvalidFaults : PySem.W.typeIn K (.ref C_InvalidFaults) = some (.type "type"))
    (kc_InvalidFaults : PySem.W.keepIn K (.ref C_InvalidFaults) = true)
    (ga_InvalidFaults : PySem.W.findIn K (.ref C_InvalidFaults) "__getattribute__" = some (some (.builtin "BaseException.__getattribute__")))
    (gt_InvalidFaults : PySem.W.findIn K (.ref C_InvalidFaults) "__getattr__" = some none)
    (cc_InvalidFaults : PySem.W.findIn K (.ref C_InvalidFaults) "__class__" = some (some (.builtin "object.__class__")))
    (mr_InvalidFaults : PySem.W.mroIn K C_InvalidFaults (.type "object") = some true)
    (cd_InvalidFaults : ∃ cd, PySem.W.clsIn K C_InvalidFaults = some cd ∧ cd.mro = [.ref C_InvalidFaults, .ref C_DueError, .type "ValueError", .type "Exception", .type "BaseException", .type "object"])
    (xi_InvalidFaults : PySem.W.excInitIn K C_InvalidFaults [.type "ValueError", .type "Exception", .type "BaseException", .type "object"] "ValueError.__new__" = true)
    (xo_InvalidFaults : PySem.W.excOver K C_InvalidFaults [.type "ValueError", .type "Exception", .type "BaseException", .type "object"] = true)
    (sa_InvalidFaults : PySem.W.findIn K (.ref C_InvalidFaults) "__setattr__" = some (some (.builtin "object.__setattr__")))
    (n_InvalidFaults_position : PySem.W.findIn K (.ref C_InvalidFaults) "position" = some none)
    (g_InvalidHanded : PySem.W.nsIn K mainGlobals "InvalidHanded" = some (some (.ref C_InvalidHanded)))
    (hd_InvalidHanded : PySem.W.hasDictIn K C_InvalidHanded = true)
    (xe_InvalidHanded : PySem.W.subIn K (.ref C_InvalidHanded) (.type "BaseException") = some true)
    (ty_InvalidHanded : PySem.W.typeIn K (.ref C_InvalidHanded) = some (.type "type"))
    (kc_InvalidHanded : PySem.W.keepIn K (.ref C_InvalidHanded) = true)
    (ga_InvalidHanded : PySem.W.findIn K (.ref C_InvalidHanded) "__getattribute__" = some (some (.builtin "BaseException.__getattribute__")))
    (gt_InvalidHanded : PySem.W.findIn K (.ref C_InvalidHanded) "__getattr__" = some none)
    (cc_InvalidHanded : PySem.W.findIn K (.ref C_InvalidHanded) "__class__" = some (some (.builtin "object.__class__")))
    (mr_InvalidHanded : PySem.W.mroIn K C_InvalidHanded (.type "object") = some true)
    (cd_InvalidHanded : ∃ cd, PySem.W.clsIn K C_InvalidHanded = some cd ∧ cd.mro = [.ref C_InvalidHanded, .ref C_DueError, .type "ValueError", .type "Exception", .type "BaseException", .type "object"])
    (xn_InvalidHanded : PySem.W.excIn K C_InvalidHanded [.type "ValueError", .type "Exception", .type "BaseException", .type "object"] "ValueError.__new__" = true)
    (g_InvalidBook : PySem.W.nsIn K mainGlobals "InvalidBook" = some (some (.ref C_InvalidBook)))
    (hd_InvalidBook : PySem.W.hasDictIn K C_InvalidBook = true)
    (xe_InvalidBook : PySem.W.subIn K (.ref C_InvalidBook) (.type "BaseException") = some true)
    (ty_InvalidBook : PySem.W.typeIn K (.ref C_InvalidBook) = some (.type "type"))
    (kc_InvalidBook : PySem.W.keepIn K (.ref C_InvalidBook) = true)
    (ga_InvalidBook : PySem.W.findIn K (.ref C_InvalidBook) "__getattribute__" = some (some (.builtin "BaseException.__getattribute__")))
    (gt_InvalidBook : PySem.W.findIn K (.ref C_InvalidBook) "__getattr__" = some none)
    (cc_InvalidBook : PySem.W.findIn K (.ref C_InvalidBook) "__class__" = some (some (.builtin "object.__class__")))
    (mr_InvalidBook : PySem.W.mroIn K C_InvalidBook (.type "object") = some true)
    (cd_InvalidBook : ∃ cd, PySem.W.clsIn K C_InvalidBook = some cd ∧ cd.mro = [.ref C_InvalidBook, .ref C_DueError, .type "ValueError", .type "Exception", .type "BaseException", .type "object"])
    (xn_InvalidBook : PySem.W.excIn K C_InvalidBook [.type "ValueError", .type "Exception", .type "BaseException", .type "object"] "ValueError.__new__" = true)
    (g_InvalidWeights : PySem.W.nsIn K mainGlobals "InvalidWeights" = some (some (.ref C_InvalidWeights)))
    (hd_InvalidWeights : PySem.W.hasDictIn K C_InvalidWeights = true)
    (xe_InvalidWeights : PySem.W.subIn K (.ref C_InvalidWeights) (.type "BaseException") = some true)
    (ty_InvalidWeights : PySem.W.typeIn K (.ref C_InvalidWeights) = some (.type "type"))
    (kc_InvalidWeights : PySem.W.keepIn K (.ref C_InvalidWeights) = true)
    (ga_InvalidWeights : PySem.W.findIn K (.ref C_InvalidWeights) "__getattribute__" = some (some (.builtin "BaseException.__getattribute__")))
    (gt_InvalidWeights : PySem.W.findIn K (.ref C_InvalidWeights) "__getattr__" = some none)
    (cc_InvalidWeights : PySem.W.findIn K (.ref C_InvalidWeights) "__class__" = some (some (.builtin "object.__class__")))
    (mr_InvalidWeights : PySem.W.mroIn K C_InvalidWeights (.type "object") = some true)
    (cd_InvalidWeights : ∃ cd, PySem.W.clsIn K C_InvalidWeights = some cd ∧ cd.mro = [.ref C_InvalidWeights, .ref C_DueError, .type "ValueError", .type "Exception", .type "BaseException", .type "object"])
    (xn_InvalidWeights : PySem.W.excIn K C_InvalidWeights [.type "ValueError", .type "Exception", .type "BaseException", .type "object"] "ValueError.__new__" = true)
    (g_InvalidText : PySem.W.nsIn K mainGlobals "InvalidText" = some (some (.ref C_InvalidText)))
    (hd_InvalidText : PySem.W.hasDictIn K C_InvalidText = true)
    (xe_InvalidText : PySem.W.subIn K (.ref C_InvalidText) (.type "BaseException") = some true)
    (ty_InvalidText : PySem.W.typeIn K (.ref C_InvalidText) = some (.type "type"))
    (kc_InvalidText : PySem.W.keepIn K (.ref C_InvalidText) = true)
    (ga_InvalidText : PySem.W.findIn K (.ref C_InvalidText) "__getattribute__" = some (some (.builtin "BaseException.__getattribute__")))
    (gt_InvalidText : PySem.W.findIn K (.ref C_InvalidText) "__getattr__" = some none)
    (cc_InvalidText : PySem.W.findIn K (.ref C_InvalidText) "__class__" = some (some (.builtin "object.__class__")))
    (mr_InvalidText : PySem.W.mroIn K C_InvalidText (.type "object") = some true)
    (cd_InvalidText : ∃ cd, PySem.W.clsIn K C_InvalidText = some cd ∧ cd.mro = [.ref C_InvalidText, .ref C_DueError, .type "ValueError", .type "Exception", .type "BaseException", .type "object"])
    (xi_InvalidText : PySem.W.excInitIn K C_InvalidText [.type "ValueError", .type "Exception", .type "BaseException", .type "object"] "ValueError.__new__" = true)
    (xo_InvalidText : PySem.W.excOver K C_InvalidText [.type "ValueError", .type "Exception", .type "BaseException", .type "object"] = true)
    (sa_InvalidText : PySem.W.findIn K (.ref C_InvalidText) "__setattr__" = some (some (.builtin "object.__setattr__")))
    (n_InvalidText_line : PySem.W.findIn K (.ref C_InvalidText) "line" = some none)
    (g_InvalidCommand : PySem.W.nsIn K mainGlobals "InvalidCommand" = some (some (.ref C_InvalidCommand)))
    (hd_InvalidCommand : PySem.W.hasDictIn K C_InvalidCommand = true)
    (xe_InvalidCommand : PySem.W.subIn K (.ref C_InvalidCommand) (.type "BaseException") = some true)
    (ty_InvalidCommand : PySem.W.typeIn K (.ref C_InvalidCommand) = some (.type "type"))
    (kc_InvalidCommand : PySem.W.keepIn K (.ref C_InvalidCommand) = true)
    (ga_InvalidCommand : PySem.W.findIn K (.ref C_InvalidCommand) "__getattribute__" = some (some (.builtin "BaseException.__getattribute__")))
    (gt_InvalidCommand : PySem.W.findIn K (.ref C_InvalidCommand) "__getattr__" = some none)
    (cc_InvalidCommand : PySem.W.findIn K (.ref C_InvalidCommand) "__class__" = some (some (.builtin "object.__class__")))
    (mr_InvalidCommand : PySem.W.mroIn K C_InvalidCommand (.type "object") = some true)
    (cd_InvalidCommand : ∃ cd, PySem.W.clsIn K C_InvalidCommand = some cd ∧ cd.mro = [.ref C_InvalidCommand, .ref C_DueError, .type "ValueError", .type "Exception", .type "BaseException", .type "object"])
    (xi_InvalidCommand : PySem.W.excInitIn K C_InvalidCommand [.type "ValueError", .type "Exception", .type "BaseException", .type "object"] "ValueError.__new__" = true)
    (xo_InvalidCommand : PySem.W.excOver K C_InvalidCommand [.type "ValueError", .type "Exception", .type "BaseException", .type "object"] = true)
    (sa_InvalidCommand : PySem.W.findIn K (.ref C_InvalidCommand) "__setattr__" = some (some (.builtin "object.__setattr__")))
    (n_InvalidCommand_value : PySem.W.findIn K (.ref C_InvalidCommand) "value" = some none)
    (g_UnknownStation : PySem.W.nsIn K mainGlobals "UnknownStation" = some (some (.ref C_UnknownStation)))
    (hd_UnknownStation : PySem.W.hasDictIn K C_UnknownStation = true)
    (xe_UnknownStation : PySem.W.subIn K (.ref C_UnknownStation) (.type "BaseException") = some true)
    (ty_UnknownStation : PySem.W.typeIn K (.ref C_UnknownStation) = some (.type "type"))
    (kc_UnknownStation : PySem.W.keepIn K (.ref C_UnknownStation) = true)
    (ga_UnknownStation : PySem.W.findIn K (.ref C_UnknownStation) "__getattribute__" = some (some (.builtin "BaseException.__getattribute__")))
    (gt_UnknownStation : PySem.W.findIn K (.ref C_UnknownStation) "__getattr__" = some none)
    (cc_UnknownStation : PySem.W.findIn K (.ref C_UnknownStation) "__class__" = some (some (.builtin "object.__class__")))
    (mr_UnknownStation : PySem.W.mroIn K C_UnknownStation (.type "object") = some true)
    (cd_UnknownStation : ∃ cd, PySem.W.clsIn K C_UnknownStation = some cd ∧ cd.mro = [.ref C_UnknownStation, .type "LookupError", .type "Exception", .type "BaseException", .type "object"])
    (xi_UnknownStation : PySem.W.excInitIn K C_UnknownStation [.type "LookupError", .type "Exception", .type "BaseException", .type "object"] "LookupError.__new__" = true)
    (xo_UnknownStation : PySem.W.excOver K C_UnknownStation [.type "LookupError", .type "Exception", .type "BaseException", .type "object"] = true)
    (sa_UnknownStation : PySem.W.findIn K (.ref C_UnknownStation) "__setattr__" = some (some (.builtin "object.__setattr__")))
    (n_UnknownStation_value : PySem.W.findIn K (.ref C_UnknownStation) "value" = some none)
    (g_UnknownStream : PySem.W.nsIn K mainGlobals "UnknownStream" = some (some (.ref C_UnknownStream)))
    (hd_UnknownStream : PySem.W.hasDictIn K C_UnknownStream = true)
    (xe_UnknownStream : PySem.W.subIn K (.ref C_UnknownStream) (.type "BaseException") = some true)
    (ty_UnknownStream : PySem.W.typeIn K (.ref C_UnknownStream) = some (.type "type"))
    (kc_UnknownStream : PySem.W.keepIn K (.ref C_UnknownStream) = true)
    (ga_UnknownStream : PySem.W.findIn K (.ref C_UnknownStream) "__getattribute__" = some (some (.builtin "BaseException.__getattribute__")))
    (gt_UnknownStream : PySem.W.findIn K (.ref C_UnknownStream) "__getattr__" = some none)
    (cc_UnknownStream : PySem.W.findIn K (.ref C_UnknownStream) "__class__" = some (some (.builtin "object.__class__")))
    (mr_UnknownStream : PySem.W.mroIn K C_UnknownStream (.type "object") = some true)
    (cd_UnknownStream : ∃ cd, PySem.W.clsIn K C_UnknownStream = some cd ∧ cd.mro = [.ref C_UnknownStream, .type "LookupError", .type "Exception", .type "BaseException", .type "object"])
    (xi_UnknownStream : PySem.W.excInitIn K C_UnknownStream [.type "LookupError", .type "Exception", .type "BaseException", .type "object"] "LookupError.__new__" = true)
    (xo_UnknownStream : PySem.W.excOver K C_UnknownStream [.type "LookupError", .type "Exception", .type "BaseException", .type "object"] = true)
    (sa_UnknownStream : PySem.W.findIn K (.ref C_UnknownStream) "__setattr__" = some (some (.builtin "object.__setattr__")))
    (n_UnknownStream_value : PySem.W.findIn K (.ref C_UnknownStream) "value" = some none)
    (g_UnknownUnit : PySem.W.nsIn K mainGlobals "UnknownUnit" = some (some (.ref C_UnknownUnit)))
    (hd_UnknownUnit : PySem.W.hasDictIn K C_UnknownUnit = true)
    (xe_UnknownUnit : PySem.W.subIn K (.ref C_UnknownUnit) (.type "BaseException") = some true)
    (ty_UnknownUnit : PySem.W.typeIn K (.ref C_UnknownUnit) = some (.type "type"))
    (kc_UnknownUnit : PySem.W.keepIn K (.ref C_UnknownUnit) = true)
    (ga_UnknownUnit : PySem.W.findIn K (.ref C_UnknownUnit) "__getattribute__" = some (some (.builtin "BaseException.__getattribute__")))
    (gt_UnknownUnit : PySem.W.findIn K (.ref C_UnknownUnit) "__getattr__" = some none)
    (cc_UnknownUnit : PySem.W.findIn K (.ref C_UnknownUnit) "__class__" = some (some (.builtin "object.__class__")))
    (mr_UnknownUnit : PySem.W.mroIn K C_UnknownUnit (.type "object") = some true)
    (cd_UnknownUnit : ∃ cd, PySem.W.clsIn K C_UnknownUnit = some cd ∧ cd.mro = [.ref C_UnknownUnit, .type "LookupError", .type "Exception", .type "BaseException", .type "object"])
    (xi_UnknownUnit : PySem.W.excInitIn K C_UnknownUnit [.type "LookupError", .type "Exception", .type "BaseException", .type "object"] "LookupError.__new__" = true)
    (xo_UnknownUnit : PySem.W.excOver K C_UnknownUnit [.type "LookupError", .type "Exception", .type "BaseException", .type "object"] = true)
    (sa_UnknownUnit : PySem.W.findIn K (.ref C_UnknownUnit) "__setattr__" = some (some (.builtin "object.__setattr__")))
    (n_UnknownUnit_value : PySem.W.findIn K (.ref C_UnknownUnit) "value" = some none)
    (g_NoLink : PySem.W.nsIn K mainGlobals "NoLink" = some (some (.ref C_NoLink)))
    (hd_NoLink : PySem.W.hasDictIn K C_NoLink = true)
    (xe_NoLink : PySem.W.subIn K (.ref C_NoLink) (.type "BaseException") = some true)
    (ty_NoLink : PySem.W.typeIn K (.ref C_NoLink) = some (.type "type"))
    (kc_NoLink : PySem.W.keepIn K (.ref C_NoLink) = true)
    (ga_NoLink : PySem.W.findIn K (.ref C_NoLink) "__getattribute__" = some (some (.builtin "BaseException.__getattribute__")))
    (gt_NoLink : PySem.W.findIn K (.ref C_NoLink) "__getattr__" = some none)
    (cc_NoLink : PySem.W.findIn K (.ref C_NoLink) "__class__" = some (some (.builtin "object.__class__")))
    (mr_NoLink : PySem.W.mroIn K C_NoLink (.type "object") = some true)
    (cd_NoLink : ∃ cd, PySem.W.clsIn K C_NoLink = some cd ∧ cd.mro = [.ref C_NoLink, .type "LookupError", .type "Exception", .type "BaseException", .type "object"])
    (xi_NoLink : PySem.W.excInitIn K C_NoLink [.type "LookupError", .type "Exception", .type "BaseException", .type "object"] "LookupError.__new__" = true)
    (xo_NoLink : PySem.W.excOver K C_NoLink [.type "LookupError", .type "Exception", .type "BaseException", .type "object"] = true)
    (sa_NoLink : PySem.W.findIn K (.ref C_NoLink) "__setattr__" = some (some (.builtin "object.__setattr__")))
    (n_NoLink_source : PySem.W.findIn K (.ref C_NoLink) "source" = some none)
    (n_NoLink_target : PySem.W.findIn K (.ref C_NoLink) "target" = some none)
    (g_NameTaken : PySem.W.nsIn K mainGlobals "NameTaken" = some (some (.ref C_NameTaken)))
    (hd_NameTaken : PySem.W.hasDictIn K C_NameTaken = true)
    (xe_NameTaken : PySem.W.subIn K (.ref C_NameTaken) (.type "BaseException") = some true)
    (ty_NameTaken : PySem.W.typeIn K (.ref C_NameTaken) = some (.type "type"))
    (kc_NameTaken : PySem.W.keepIn K (.ref C_NameTaken) = true)
    (ga_NameTaken : PySem.W.findIn K (.ref C_NameTaken) "__getattribute__" = some (some (.builtin "BaseException.__getattribute__")))
    (gt_NameTaken : PySem.W.findIn K (.ref C_NameTaken) "__getattr__" = some none)
    (cc_NameTaken : PySem.W.findIn K (.ref C_NameTaken) "__class__" = some (some (.builtin "object.__class__")))
    (mr_NameTaken : PySem.W.mroIn K C_NameTaken (.type "object") = some true)
    (cd_NameTaken : ∃ cd, PySem.W.clsIn K C_NameTaken = some cd ∧ cd.mro = [.ref C_NameTaken, .type "RuntimeError", .type "Exception", .type "BaseException", .type "object"])
    (xi_NameTaken : PySem.W.excInitIn K C_NameTaken [.type "RuntimeError", .type "Exception", .type "BaseException", .type "object"] "RuntimeError.__new__" = true)
    (xo_NameTaken : PySem.W.excOver K C_NameTaken [.type "RuntimeError", .type "Exception", .type "BaseException", .type "object"] = true)
    (sa_NameTaken : PySem.W.findIn K (.ref C_NameTaken) "__setattr__" = some (some (.builtin "object.__setattr__")))
    (n_NameTaken_taken : PySem.W.findIn K (.ref C_NameTaken) "taken" = some none)
    (g_NotGood : PySem.W.nsIn K mainGlobals "NotGood" = some (some (.ref C_NotGood)))
    (hd_NotGood : PySem.W.hasDictIn K C_NotGood = true)
    (xe_NotGood : PySem.W.subIn K (.ref C_NotGood) (.type "BaseException") = some true)
    (ty_NotGood : PySem.W.typeIn K (.ref C_NotGood) = some (.type "type"))
    (kc_NotGood : PySem.W.keepIn K (.ref C_NotGood) = true)
    (ga_NotGood : PySem.W.findIn K (.ref C_NotGood) "__getattribute__" = some (some (.builtin "BaseException.__getattribute__")))
    (gt_NotGood : PySem.W.findIn K (.ref C_NotGood) "__getattr__" = some none)
    (cc_NotGood : PySem.W.findIn K (.ref C_NotGood) "__class__" = some (some (.builtin "object.__class__")))
    (mr_NotGood : PySem.W.mroIn K C_NotGood (.type "object") = some true)
    (cd_NotGood : ∃ cd, PySem.W.clsIn K C_NotGood = some cd ∧ cd.mro = [.ref C_NotGood, .type "RuntimeError", .type "Exception", .type "BaseException", .type "object"])
    (xi_NotGood : PySem.W.excInitIn K C_NotGood [.type "RuntimeError", .type "Exception", .type "BaseException", .type "object"] "RuntimeError.__new__" = true)
    (xo_NotGood : PySem.W.excOver K C_NotGood [.type "RuntimeError", .type "Exception", .type "BaseException", .type "object"] = true)
    (sa_NotGood : PySem.W.findIn K (.ref C_NotGood) "__setattr__" = some (some (.builtin "object.__setattr__")))
    (n_NotGood_first : PySem.W.findIn K (.ref C_NotGood) "first" = some none)
    (n_NotGood_second : PySem.W.findIn K (.ref C_NotGood) "second" = some none)
    (g_TooSlow : PySem.W.nsIn K mainGlobals "TooSlow" = some (some (.ref C_TooSlow)))
    (hd_TooSlow : PySem.W.hasDictIn K C_TooSlow = true)
    (xe_TooSlow : PySem.W.subIn K (.ref C_TooSlow) (.type "BaseException") = some true)
    (ty_TooSlow : PySem.W.typeIn K (.ref C_TooSlow) = some (.type "type"))
    (kc_TooSlow : PySem.W.keepIn K (.ref C_TooSlow) = true)
    (ga_TooSlow : PySem.W.findIn K (.ref C_TooSlow) "__getattribute__" = some (some (.builtin "BaseException.__getattribute__")))
    (gt_TooSlow : PySem.W.findIn K (.ref C_TooSlow) "__getattr__" = some none)
    (cc_TooSlow : PySem.W.findIn K (.ref C_TooSlow) "__class__" = some (some (.builtin "object.__class__")))
    (mr_TooSlow : PySem.W.mroIn K C_TooSlow (.type "object") = some true)
    (cd_TooSlow : ∃ cd, PySem.W.clsIn K C_TooSlow = some cd ∧ cd.mro = [.ref C_TooSlow, .type "RuntimeError", .type "Exception", .type "BaseException", .type "object"])
    (xi_TooSlow : PySem.W.excInitIn K C_TooSlow [.type "RuntimeError", .type "Exception", .type "BaseException", .type "object"] "RuntimeError.__new__" = true)
    (xo_TooSlow : PySem.W.excOver K C_TooSlow [.type "RuntimeError", .type "Exception", .type "BaseException", .type "object"] = true)
    (sa_TooSlow : PySem.W.findIn K (.ref C_TooSlow) "__setattr__" = some (some (.builtin "object.__setattr__")))
    (n_TooSlow_total : PySem.W.findIn K (.ref C_TooSlow) "total" = some none)
    (g_Refused : PySem.W.nsIn K mainGlobals "Refused" = some (some (.ref C_Refused)))
    (hd_Refused : PySem.W.hasDictIn K C_Refused = true)
    (xe_Refused : PySem.W.subIn K (.ref C_Refused) (.type "BaseException") = some true)
    (ty_Refused : PySem.W.typeIn K (.ref C_Refused) = some (.type "type"))
    (kc_Refused : PySem.W.keepIn K (.ref C_Refused) = true)
    (ga_Refused : PySem.W.findIn K (.ref C_Refused) "__getattribute__" = some (some (.builtin "BaseException.__getattribute__")))
    (gt_Refused : PySem.W.findIn K (.ref C_Refused) "__getattr__" = some none)
    (cc_Refused : PySem.W.findIn K (.ref C_Refused) "__class__" = some (some (.builtin "object.__class__")))
    (mr_Refused : PySem.W.mroIn K C_Refused (.type "object") = some true)
    (cd_Refused : ∃ cd, PySem.W.clsIn K C_Refused = some cd ∧ cd.mro = [.ref C_Refused, .type "RuntimeError", .type "Exception", .type "BaseException", .type "object"])
    (xi_Refused : PySem.W.excInitIn K C_Refused [.type "RuntimeError", .type "Exception", .type "BaseException", .type "object"] "RuntimeError.__new__" = true)
    (xo_Refused : PySem.W.excOver K C_Refused [.type "RuntimeError", .type "Exception", .type "BaseException", .type "object"] = true)
    (sa_Refused : PySem.W.findIn K (.ref C_Refused) "__setattr__" = some (some (.builtin "object.__setattr__")))
    (n_Refused_refusal : PySem.W.findIn K (.ref C_Refused) "refusal" = some none)
    (g_Overfull : PySem.W.nsIn K mainGlobals "Overfull" = some (some (.ref C_Overfull)))
    (hd_Overfull : PySem.W.hasDictIn K C_Overfull = true)
    (xe_Overfull : PySem.W.subIn K (.ref C_Overfull) (.type "BaseException") = some true)
    (ty_Overfull : PySem.W.typeIn K (.ref C_Overfull) = some (.type "type"))
    (kc_Overfull : PySem.W.keepIn K (.ref C_Overfull) = true)
    (ga_Overfull : PySem.W.findIn K (.ref C_Overfull) "__getattribute__" = some (some (.builtin "BaseException.__getattribute__")))
    (gt_Overfull : PySem.W.findIn K (.ref C_Overfull) "__getattr__" = some none)
    (cc_Overfull : PySem.W.findIn K (.ref C_Overfull) "__class__" = some (some (.builtin "object.__class__")))
    (mr_Overfull : PySem.W.mroIn K C_Overfull (.type "object") = some true)
    (cd_Overfull : ∃ cd, PySem.W.clsIn K C_Overfull = some cd ∧ cd.mro = [.ref C_Overfull, .type "RuntimeError", .type "Exception", .type "BaseException", .type "object"])
    (xi_Overfull : PySem.W.excInitIn K C_Overfull [.type "RuntimeError", .type "Exception", .type "BaseException", .type "object"] "RuntimeError.__new__" = true)
    (xo_Overfull : PySem.W.excOver K C_Overfull [.type "RuntimeError", .type "Exception", .type "BaseException", .type "object"] = true)
    (sa_Overfull : PySem.W.findIn K (.ref C_Overfull) "__setattr__" = some (some (.builtin "object.__setattr__")))
    (n_Overfull_at_station : PySem.W.findIn K (.ref C_Overfull) "at_station" = some none)
    (n_Overfull_window : PySem.W.findIn K (.ref C_Overfull) "window" = some none)
    (g_NotPlain : PySem.W.nsIn K mainGlobals "NotPlain" = some (some (.ref C_NotPlain)))
    (hd_NotPlain : PySem.W.hasDictIn K C_NotPlain = true)
    (xe_NotPlain : PySem.W.subIn K (.ref C_NotPlain) (.type "BaseException") = some true)
    (ty_NotPlain : PySem.W.typeIn K (.ref C_NotPlain) = some (.type "type"))
    (kc_NotPlain : PySem.W.keepIn K (.ref C_NotPlain) = true)
    (ga_NotPlain : PySem.W.findIn K (.ref C_NotPlain) "__getattribute__" = some (some (.builtin "BaseException.__getattribute__")))
    (gt_NotPlain : PySem.W.findIn K (.ref C_NotPlain) "__getattr__" = some none)
    (cc_NotPlain : PySem.W.findIn K (.ref C_NotPlain) "__class__" = some (some (.builtin "object.__class__")))
    (mr_NotPlain : PySem.W.mroIn K C_NotPlain (.type "object") = some true)
    (cd_NotPlain : ∃ cd, PySem.W.clsIn K C_NotPlain = some cd ∧ cd.mro = [.ref C_NotPlain, .type "RuntimeError", .type "Exception", .type "BaseException", .type "object"])
    (xn_NotPlain : PySem.W.excIn K C_NotPlain [.type "RuntimeError", .type "Exception", .type "BaseException", .type "object"] "RuntimeError.__new__" = true)
    (g_HasReserves : PySem.W.nsIn K mainGlobals "HasReserves" = some (some (.ref C_HasReserves)))
    (hd_HasReserves : PySem.W.hasDictIn K C_HasReserves = true)
    (xe_HasReserves : PySem.W.subIn K (.ref C_HasReserves) (.type "BaseException") = some true)
    (ty_HasReserves : PySem.W.typeIn K (.ref C_HasReserves) = some (.type "type"))
    (kc_HasReserves : PySem.W.keepIn K (.ref C_HasReserves) = true)
    (ga_HasReserves : PySem.W.findIn K (.ref C_HasReserves) "__getattribute__" = some (some (.builtin "BaseException.__getattribute__")))
    (gt_HasReserves : PySem.W.findIn K (.ref C_HasReserves) "__getattr__" = some none)
    (cc_HasReserves : PySem.W.findIn K (.ref C_HasReserves) "__class__" = some (some (.builtin "object.__class__")))
    (mr_HasReserves : PySem.W.mroIn K C_HasReserves (.type "object") = some true)
    (cd_HasReserves : ∃ cd, PySem.W.clsIn K C_HasReserves = some cd ∧ cd.mro = [.ref C_HasReserves, .type "RuntimeError", .type "Exception", .type "BaseException", .type "object"])
    (xn_HasReserves : PySem.W.excIn K C_HasReserves [.type "RuntimeError", .type "Exception", .type "BaseException", .type "object"] "RuntimeError.__new__" = true)
    (g_NoSplits : PySem.W.nsIn K mainGlobals "NoSplits" = some (some (.ref C_NoSplits)))
    (hd_NoSplits : PySem.W.hasDictIn K C_NoSplits = true)
    (xe_NoSplits : PySem.W.subIn K (.ref C_NoSplits) (.type "BaseException") = some true)
    (ty_NoSplits : PySem.W.typeIn K (.ref C_NoSplits) = some (.type "type"))
    (kc_NoSplits : PySem.W.keepIn K (.ref C_NoSplits) = true)
    (ga_NoSplits : PySem.W.findIn K (.ref C_NoSplits) "__getattribute__" = some (some (.builtin "BaseException.__getattribute__")))
    (gt_NoSplits : PySem.W.findIn K (.ref C_NoSplits) "__getattr__" = some none)
    (cc_NoSplits : PySem.W.findIn K (.ref C_NoSplits) "__class__" = some (some (.builtin "object.__class__")))
    (mr_NoSplits : PySem.W.mroIn K C_NoSplits (.type "object") = some true)
    (cd_NoSplits : ∃ cd, PySem.W.clsIn K C_NoSplits = some cd ∧ cd.mro = [.ref C_NoSplits, .type "RuntimeError", .type "Exception", .type "BaseException", .type "object"])
    (xi_NoSplits : PySem.W.excInitIn K C_NoSplits [.type "RuntimeError", .type "Exception", .type "BaseException", .type "object"] "RuntimeError.__new__" = true)
    (xo_NoSplits : PySem.W.excOver K C_NoSplits [.type "RuntimeError", .type "Exception", .type "BaseException", .type "object"] = true)
    (sa_NoSplits : PySem.W.findIn K (.ref C_NoSplits) "__setattr__" = some (some (.builtin "object.__setattr__")))
    (n_NoSplits_cases : PySem.W.findIn K (.ref C_NoSplits) "cases" = some none)
    (g_Exposed : PySem.W.nsIn K mainGlobals "Exposed" = some (some (.ref C_Exposed)))
    (hd_Exposed : PySem.W.hasDictIn K C_Exposed = true)
    (xe_Exposed : PySem.W.subIn K (.ref C_Exposed) (.type "BaseException") = some true)
    (ty_Exposed : PySem.W.typeIn K (.ref C_Exposed) = some (.type "type"))
    (kc_Exposed : PySem.W.keepIn K (.ref C_Exposed) = true)
    (ga_Exposed : PySem.W.findIn K (.ref C_Exposed) "__getattribute__" = some (some (.builtin "BaseException.__getattribute__")))
    (gt_Exposed : PySem.W.findIn K (.ref C_Exposed) "__getattr__" = some none)
    (cc_Exposed : PySem.W.findIn K (.ref C_Exposed) "__class__" = some (some (.builtin "object.__class__")))
    (mr_Exposed : PySem.W.mroIn K C_Exposed (.type "object") = some true)
    (cd_Exposed : ∃ cd, PySem.W.clsIn K C_Exposed = some cd ∧ cd.mro = [.ref C_Exposed, .type "RuntimeError", .type "Exception", .type "BaseException", .type "object"])
    (xi_Exposed : PySem.W.excInitIn K C_Exposed [.type "RuntimeError", .type "Exception", .type "BaseException", .type "object"] "RuntimeError.__new__" = true)
    (xo_Exposed : PySem.W.excOver K C_Exposed [.type "RuntimeError", .type "Exception", .type "BaseException", .type "object"] = true)
    (sa_Exposed : PySem.W.findIn K (.ref C_Exposed) "__setattr__" = some (some (.builtin "object.__setattr__")))
    (n_Exposed_danger : PySem.W.findIn K (.ref C_Exposed) "danger" = some none)
    (g_NotLate : PySem.W.nsIn K mainGlobals "NotLate" = some (some (.ref C_NotLate)))
    (hd_NotLate : PySem.W.hasDictIn K C_NotLate = true)
    (xe_NotLate : PySem.W.subIn K (.ref C_NotLate) (.type "BaseException") = some true)
    (ty_NotLate : PySem.W.typeIn K (.ref C_NotLate) = some (.type "type"))
    (kc_NotLate : PySem.W.keepIn K (.ref C_NotLate) = true)
    (ga_NotLate : PySem.W.findIn K (.ref C_NotLate) "__getattribute__" = some (some (.builtin "BaseException.__getattribute__")))
    (gt_NotLate : PySem.W.findIn K (.ref C_NotLate) "__getattr__" = some none)
    (cc_NotLate : PySem.W.findIn K (.ref C_NotLate) "__class__" = some (some (.builtin "object.__class__")))
    (mr_NotLate : PySem.W.mroIn K C_NotLate (.type "object") = some true)
    (cd_NotLate : ∃ cd, PySem.W.clsIn K C_NotLate = some cd ∧ cd.mro = [.ref C_NotLate, .type "RuntimeError", .type "Exception", .type "BaseException", .type "object"])
    (xi_NotLate : PySem.W.excInitIn K C_NotLate [.type "RuntimeError", .type "Exception", .type "BaseException", .type "object"] "RuntimeError.__new__" = true)
    (xo_NotLate : PySem.W.excOver K C_NotLate [.type "RuntimeError", .type "Exception", .type "BaseException", .type "object"] = true)
    (sa_NotLate : PySem.W.findIn K (.ref C_NotLate) "__setattr__" = some (some (.builtin "object.__setattr__")))
    (n_NotLate_value : PySem.W.findIn K (.ref C_NotLate) "value" = some none)
    (g_RunFailed : PySem.W.nsIn K mainGlobals "RunFailed" = some (some (.ref C_RunFailed)))
    (hd_RunFailed : PySem.W.hasDictIn K C_RunFailed = true)
    (xe_RunFailed : PySem.W.subIn K (.ref C_RunFailed) (.type "BaseException") = some true)
    (ty_RunFailed : PySem.W.typeIn K (.ref C_RunFailed) = some (.type "type"))
    (kc_RunFailed : PySem.W.keepIn K (.ref C_RunFailed) = true)
    (ga_RunFailed : PySem.W.findIn K (.ref C_RunFailed) "__getattribute__" = some (some (.builtin "BaseException.__getattribute__")))
    (gt_RunFailed : PySem.W.findIn K (.ref C_RunFailed) "__getattr__" = some none)
    (cc_RunFailed : PySem.W.findIn K (.ref C_RunFailed) "__class__" = some (some (.builtin "object.__class__")))
    (mr_RunFailed : PySem.W.mroIn K C_RunFailed (.type "object") = some true)
    (cd_RunFailed : ∃ cd, PySem.W.clsIn K C_RunFailed = some cd ∧ cd.mro = [.ref C_RunFailed, .type "RuntimeError", .type "Exception", .type "BaseException", .type "object"])
    (xi_RunFailed : PySem.W.excInitIn K C_RunFailed [.type "RuntimeError", .type "Exception", .type "BaseException", .type "object"] "RuntimeError.__new__" = true)
    (xo_RunFailed : PySem.W.excOver K C_RunFailed [.type "RuntimeError", .type "Exception", .type "BaseException", .type "object"] = true)
    (sa_RunFailed : PySem.W.findIn K (.ref C_RunFailed) "__setattr__" = some (some (.builtin "object.__setattr__")))
    (n_RunFailed_position : PySem.W.findIn K (.ref C_RunFailed) "position" = some none)
    (n_RunFailed_results : PySem.W.findIn K (.ref C_RunFailed) "results" = some none)
    (g_TooLong : PySem.W.nsIn K mainGlobals "TooLong" = some (some (.ref C_TooLong)))
    (hd_TooLong : PySem.W.hasDictIn K C_TooLong = true)
    (xe_TooLong : PySem.W.subIn K (.ref C_TooLong) (.type "BaseException") = some true)
    (ty_TooLong : PySem.W.typeIn K (.ref C_TooLong) = some (.type "type"))
    (kc_TooLong : PySem.W.keepIn K (.ref C_TooLong) = true)
    (ga_TooLong : PySem.W.findIn K (.ref C_TooLong) "__getattribute__" = some (some (.builtin "BaseException.__getattribute__")))
    (gt_TooLong : PySem.W.findIn K (.ref C_TooLong) "__getattr__" = some none)
    (cc_TooLong : PySem.W.findIn K (.ref C_TooLong) "__class__" = some (some (.builtin "object.__class__")))
    (mr_TooLong : PySem.W.mroIn K C_TooLong (.type "object") = some true)
    (cd_TooLong : ∃ cd, PySem.W.clsIn K C_TooLong = some cd ∧ cd.mro = [.ref C_TooLong, .type "ArithmeticError", .type "Exception", .type "BaseException", .type "object"])
    (xi_TooLong : PySem.W.excInitIn K C_TooLong [.type "ArithmeticError", .type "Exception", .type "BaseException", .type "object"] "ArithmeticError.__new__" = true)
    (xo_TooLong : PySem.W.excOver K C_TooLong [.type "ArithmeticError", .type "Exception", .type "BaseException", .type "object"] = true)
    (sa_TooLong : PySem.W.findIn K (.ref C_TooLong) "__setattr__" = some (some (.builtin "object.__setattr__")))
    (n_TooLong_limit : PySem.W.findIn K (.ref C_TooLong) "limit" = some none)
    (g_TooMany : PySem.W.nsIn K mainGlobals "TooMany" = some (some (.ref C_TooMany)))
    (hd_TooMany : PySem.W.hasDictIn K C_TooMany = true)
    (xe_TooMany : PySem.W.subIn K (.ref C_TooMany) (.type "BaseException") = some true)
    (ty_TooMany : PySem.W.typeIn K (.ref C_TooMany) = some (.type "type"))
    (kc_TooMany : PySem.W.keepIn K (.ref C_TooMany) = true)
    (ga_TooMany : PySem.W.findIn K (.ref C_TooMany) "__getattribute__" = some (some (.builtin "BaseException.__getattribute__")))
    (gt_TooMany : PySem.W.findIn K (.ref C_TooMany) "__getattr__" = some none)
    (cc_TooMany : PySem.W.findIn K (.ref C_TooMany) "__class__" = some (some (.builtin "object.__class__")))
    (mr_TooMany : PySem.W.mroIn K C_TooMany (.type "object") = some true)
    (cd_TooMany : ∃ cd, PySem.W.clsIn K C_TooMany = some cd ∧ cd.mro = [.ref C_TooMany, .type "ArithmeticError", .type "Exception", .type "BaseException", .type "object"])
    (xi_TooMany : PySem.W.excInitIn K C_TooMany [.type "ArithmeticError", .type "Exception", .type "BaseException", .type "object"] "ArithmeticError.__new__" = true)
    (xo_TooMany : PySem.W.excOver K C_TooMany [.type "ArithmeticError", .type "Exception", .type "BaseException", .type "object"] = true)
    (sa_TooMany : PySem.W.findIn K (.ref C_TooMany) "__setattr__" = some (some (.builtin "object.__setattr__")))
    (n_TooMany_limit : PySem.W.findIn K (.ref C_TooMany) "limit" = some none)
    (g_DueError : PySem.W.nsIn K mainGlobals "DueError" = some (some (.ref C_DueError)))
    (hd_DueError : PySem.W.hasDictIn K C_DueError = true)
    (xe_DueError : PySem.W.subIn K (.ref C_DueError) (.type "BaseException") = some true)
    (ty_DueError : PySem.W.typeIn K (.ref C_DueError) = some (.type "type"))
    (kc_DueError : PySem.W.keepIn K (.ref C_DueError) = true)
    (ga_DueError : PySem.W.findIn K (.ref C_DueError) "__getattribute__" = some (some (.builtin "BaseException.__getattribute__")))
    (gt_DueError : PySem.W.findIn K (.ref C_DueError) "__getattr__" = some none)
    (cc_DueError : PySem.W.findIn K (.ref C_DueError) "__class__" = some (some (.builtin "object.__class__")))
    (mr_DueError : PySem.W.mroIn K C_DueError (.type "object") = some true)
    (cd_DueError : ∃ cd, PySem.W.clsIn K C_DueError = some cd ∧ cd.mro = [.ref C_DueError, .type "ValueError", .type "Exception", .type "BaseException", .type "object"])
    (xn_DueError : PySem.W.excIn K C_DueError [.type "ValueError", .type "Exception", .type "BaseException", .type "object"] "ValueError.__new__" = true)
    (a_InvalidCurve_init : PySem.W.findIn K (.ref C_InvalidCurve) "__init__" = some (some (.ref f_InvalidCurve_init)))
    (i_InvalidCurve_init : PySem.W.isFn K (.ref f_InvalidCurve_init) = true)
    (l_InvalidCurve_init : K.lookup f_InvalidCurve_init = some ⟨oc_InvalidCurve_init, od_InvalidCurve_init, .func (PySem.W.fnOf "__init__" "InvalidCurve.__init__" (defArgs s_InvalidCurve_init) (defBody s_InvalidCurve_init) (defScope s_InvalidCurve_init) .none kV_InvalidCurve_init dc_InvalidCurve_init pm_InvalidCurve_init an_InvalidCurve_init cd_InvalidCurve_init ct_InvalidCurve_init), sl_InvalidCurve_init⟩)
    (c_InvalidCurve_init : PySem.W.codeIn K cd_InvalidCurve_init "InvalidCurve.__init__" = true)
    (k_InvalidCurve_init : PySem.W.keepIn K (.ref f_InvalidCurve_init) = true)
    (tI_InvalidCurve : PySem.W.typeIn K (.ref f_InvalidCurve_init) = some (.type "function"))
    (a_InvalidPiece_init : PySem.W.findIn K (.ref C_InvalidPiece) "__init__" = some (some (.ref f_InvalidPiece_init)))
    (i_InvalidPiece_init : PySem.W.isFn K (.ref f_InvalidPiece_init) = true)
    (l_InvalidPiece_init : K.lookup f_InvalidPiece_init = some ⟨oc_InvalidPiece_init, od_InvalidPiece_init, .func (PySem.W.fnOf "__init__" "InvalidPiece.__init__" (defArgs s_InvalidPiece_init) (defBody s_InvalidPiece_init) (defScope s_InvalidPiece_init) .none kV_InvalidPiece_init dc_InvalidPiece_init pm_InvalidPiece_init an_InvalidPiece_init cd_InvalidPiece_init ct_InvalidPiece_init), sl_InvalidPiece_init⟩)
    (c_InvalidPiece_init : PySem.W.codeIn K cd_InvalidPiece_init "InvalidPiece.__init__" = true)
    (k_InvalidPiece_init : PySem.W.keepIn K (.ref f_InvalidPiece_init) = true)
    (tI_InvalidPiece : PySem.W.typeIn K (.ref f_InvalidPiece_init) = some (.type "function"))
    (a_InvalidLength_init : PySem.W.findIn K (.ref C_InvalidLength) "__init__" = some (some (.ref f_InvalidLength_init)))
    (i_InvalidLength_init : PySem.W.isFn K (.ref f_InvalidLength_init) = true)
    (l_InvalidLength_init : K.lookup f_InvalidLength_init = some ⟨oc_InvalidLength_init, od_InvalidLength_init, .func (PySem.W.fnOf "__init__" "InvalidLength.__init__" (defArgs s_InvalidLength_init) (defBody s_InvalidLength_init) (defScope s_InvalidLength_init) .none kV_InvalidLength_init dc_InvalidLength_init pm_InvalidLength_init an_InvalidLength_init cd_InvalidLength_init ct_InvalidLength_init), sl_InvalidLength_init⟩)
    (c_InvalidLength_init : PySem.W.codeIn K cd_InvalidLength_init "InvalidLength.__init__" = true)
    (k_InvalidLength_init : PySem.W.keepIn K (.ref f_InvalidLength_init) = true)
    (tI_InvalidLength : PySem.W.typeIn K (.ref f_InvalidLength_init) = some (.type "function"))
    (a_InvalidCount_init : PySem.W.findIn K (.ref C_InvalidCount) "__init__" = some (some (.ref f_InvalidCount_init)))
    (i_InvalidCount_init : PySem.W.isFn K (.ref f_InvalidCount_init) = true)
    (l_InvalidCount_init : K.lookup f_InvalidCount_init = some ⟨oc_InvalidCount_init, od_InvalidCount_init, .func (PySem.W.fnOf "__init__" "InvalidCount.__init__" (defArgs s_InvalidCount_init) (defBody s_InvalidCount_init) (defScope s_InvalidCount_init) .none kV_InvalidCount_init dc_InvalidCount_init pm_InvalidCount_init an_InvalidCount_init cd_InvalidCount_init ct_InvalidCount_init), sl_InvalidCount_init⟩)
    (c_InvalidCount_init : PySem.W.codeIn K cd_InvalidCount_init "InvalidCount.__init__" = true)
    (k_InvalidCount_init : PySem.W.keepIn K (.ref f_InvalidCount_init) = true)
    (tI_InvalidCount : PySem.W.typeIn K (.ref f_InvalidCount_init) = some (.type "function"))
    (a_InvalidRecord_init : PySem.W.findIn K (.ref C_InvalidRecord) "__init__" = some (some (.ref f_InvalidRecord_init)))
    (i_InvalidRecord_init : PySem.W.isFn K (.ref f_InvalidRecord_init) = true)
    (l_InvalidRecord_init : K.lookup f_InvalidRecord_init = some ⟨oc_InvalidRecord_init, od_InvalidRecord_init, .func (PySem.W.fnOf "__init__" "InvalidRecord.__init__" (defArgs s_InvalidRecord_init) (defBody s_InvalidRecord_init) (defScope s_InvalidRecord_init) .none kV_InvalidRecord_init dc_InvalidRecord_init pm_InvalidRecord_init an_InvalidRecord_init cd_InvalidRecord_init ct_InvalidRecord_init), sl_InvalidRecord_init⟩)
    (c_InvalidRecord_init : PySem.W.codeIn K cd_InvalidRecord_init "InvalidRecord.__init__" = true)
    (k_InvalidRecord_init : PySem.W.keepIn K (.ref f_InvalidRecord_init) = true)
    (tI_InvalidRecord : PySem.W.typeIn K (.ref f_InvalidRecord_init) = some (.type "function"))
    (a_InvalidVisit_init : PySem.W.findIn K (.ref C_InvalidVisit) "__init__" = some (some (.ref f_InvalidVisit_init)))
    (i_InvalidVisit_init : PySem.W.isFn K (.ref f_InvalidVisit_init) = true)
    (l_InvalidVisit_init : K.lookup f_InvalidVisit_init = some ⟨oc_InvalidVisit_init, od_InvalidVisit_init, .func (PySem.W.fnOf "__init__" "InvalidVisit.__init__" (defArgs s_InvalidVisit_init) (defBody s_InvalidVisit_init) (defScope s_InvalidVisit_init) .none kV_InvalidVisit_init dc_InvalidVisit_init pm_InvalidVisit_init an_InvalidVisit_init cd_InvalidVisit_init ct_InvalidVisit_init), sl_InvalidVisit_init⟩)
    (c_InvalidVisit_init : PySem.W.codeIn K cd_InvalidVisit_init "InvalidVisit.__init__" = true)
    (k_InvalidVisit_init : PySem.W.keepIn K (.ref f_InvalidVisit_init) = true)
    (tI_InvalidVisit : PySem.W.typeIn K (.ref f_InvalidVisit_init) = some (.type "function"))
    (a_InvalidVisits_init : PySem.W.findIn K (.ref C_InvalidVisits) "__init__" = some (some (.ref f_InvalidVisits_init)))
    (i_InvalidVisits_init : PySem.W.isFn K (.ref f_InvalidVisits_init) = true)
    (l_InvalidVisits_init : K.lookup f_InvalidVisits_init = some ⟨oc_InvalidVisits_init, od_InvalidVisits_init, .func (PySem.W.fnOf "__init__" "InvalidVisits.__init__" (defArgs s_InvalidVisits_init) (defBody s_InvalidVisits_init) (defScope s_InvalidVisits_init) .none kV_InvalidVisits_init dc_InvalidVisits_init pm_InvalidVisits_init an_InvalidVisits_init cd_InvalidVisits_init ct_InvalidVisits_init), sl_InvalidVisits_init⟩)
    (c_InvalidVisits_init : PySem.W.codeIn K cd_InvalidVisits_init "InvalidVisits.__init__" = true)
    (k_InvalidVisits_init : PySem.W.keepIn K (.ref f_InvalidVisits_init) = true)
    (tI_InvalidVisits : PySem.W.typeIn K (.ref f_InvalidVisits_init) = some (.type "function"))
    (a_InvalidSupply_init : PySem.W.findIn K (.ref C_InvalidSupply) "__init__" = some (some (.ref f_InvalidSupply_init)))
    (i_InvalidSupply_init : PySem.W.isFn K (.ref f_InvalidSupply_init) = true)
    (l_InvalidSupply_init : K.lookup f_InvalidSupply_init = some ⟨oc_InvalidSupply_init, od_InvalidSupply_init, .func (PySem.W.fnOf "__init__" "InvalidSupply.__init__" (defArgs s_InvalidSupply_init) (defBody s_InvalidSupply_init) (defScope s_InvalidSupply_init) .none kV_InvalidSupply_init dc_InvalidSupply_init pm_InvalidSupply_init an_InvalidSupply_init cd_InvalidSupply_init ct_InvalidSupply_init), sl_InvalidSupply_init⟩)
    (c_InvalidSupply_init : PySem.W.codeIn K cd_InvalidSupply_init "InvalidSupply.__init__" = true)
    (k_InvalidSupply_init : PySem.W.keepIn K (.ref f_InvalidSupply_init) = true)
    (tI_InvalidSupply : PySem.W.typeIn K (.ref f_InvalidSupply_init) = some (.type "function"))
    (a_InvalidWindow_init : PySem.W.findIn K (.ref C_InvalidWindow) "__init__" = some (some (.ref f_InvalidWindow_init)))
    (i_InvalidWindow_init : PySem.W.isFn K (.ref f_InvalidWindow_init) = true)
    (l_InvalidWindow_init : K.lookup f_InvalidWindow_init = some ⟨oc_InvalidWindow_init, od_InvalidWindow_init, .func (PySem.W.fnOf "__init__" "InvalidWindow.__init__" (defArgs s_InvalidWindow_init) (defBody s_InvalidWindow_init) (defScope s_InvalidWindow_init) .none kV_InvalidWindow_init dc_InvalidWindow_init pm_InvalidWindow_init an_InvalidWindow_init cd_InvalidWindow_init ct_InvalidWindow_init), sl_InvalidWindow_init⟩)
    (c_InvalidWindow_init : PySem.W.codeIn K cd_InvalidWindow_init "InvalidWindow.__init__" = true)
    (k_InvalidWindow_init : PySem.W.keepIn K (.ref f_InvalidWindow_init) = true)
    (tI_InvalidWindow : PySem.W.typeIn K (.ref f_InvalidWindow_init) = some (.type "function"))
    (a_InvalidStation_init : PySem.W.findIn K (.ref C_InvalidStation) "__init__" = some (some (.ref f_InvalidStation_init)))
    (i_InvalidStation_init : PySem.W.isFn K (.ref f_InvalidStation_init) = true)
    (l_InvalidStation_init : K.lookup f_InvalidStation_init = some ⟨oc_InvalidStation_init, od_InvalidStation_init, .func (PySem.W.fnOf "__init__" "InvalidStation.__init__" (defArgs s_InvalidStation_init) (defBody s_InvalidStation_init) (defScope s_InvalidStation_init) .none kV_InvalidStation_init dc_InvalidStation_init pm_InvalidStation_init an_InvalidStation_init cd_InvalidStation_init ct_InvalidStation_init), sl_InvalidStation_init⟩)
    (c_InvalidStation_init : PySem.W.codeIn K cd_InvalidStation_init "InvalidStation.__init__" = true)
    (k_InvalidStation_init : PySem.W.keepIn K (.ref f_InvalidStation_init) = true)
    (tI_InvalidStation : PySem.W.typeIn K (.ref f_InvalidStation_init) = some (.type "function"))
    (a_InvalidNetwork_init : PySem.W.findIn K (.ref C_InvalidNetwork) "__init__" = some (some (.ref f_InvalidNetwork_init)))
    (i_InvalidNetwork_init : PySem.W.isFn K (.ref f_InvalidNetwork_init) = true)
    (l_InvalidNetwork_init : K.lookup f_InvalidNetwork_init = some ⟨oc_InvalidNetwork_init, od_InvalidNetwork_init, .func (PySem.W.fnOf "__init__" "InvalidNetwork.__init__" (defArgs s_InvalidNetwork_init) (defBody s_InvalidNetwork_init) (defScope s_InvalidNetwork_init) .none kV_InvalidNetwork_init dc_InvalidNetwork_init pm_InvalidNetwork_init an_InvalidNetwork_init cd_InvalidNetwork_init ct_InvalidNetwork_init), sl_InvalidNetwork_init⟩)
    (c_InvalidNetwork_init : PySem.W.codeIn K cd_InvalidNetwork_init "InvalidNetwork.__init__" = true)
    (k_InvalidNetwork_init : PySem.W.keepIn K (.ref f_InvalidNetwork_init) = true)
    (tI_InvalidNetwork : PySem.W.typeIn K (.ref f_InvalidNetwork_init) = some (.type "function"))
    (a_InvalidName_init : PySem.W.findIn K (.ref C_InvalidName) "__init__" = some (some (.ref f_InvalidName_init)))
    (i_InvalidName_init : PySem.W.isFn K (.ref f_InvalidName_init) = true)
    (l_InvalidName_init : K.lookup f_InvalidName_init = some ⟨oc_InvalidName_init, od_InvalidName_init, .func (PySem.W.fnOf "__init__" "InvalidName.__init__" (defArgs s_InvalidName_init) (defBody s_InvalidName_init) (defScope s_InvalidName_init) .none kV_InvalidName_init dc_InvalidName_init pm_InvalidName_init an_InvalidName_init cd_InvalidName_init ct_InvalidName_init), sl_InvalidName_init⟩)
    (c_InvalidName_init : PySem.W.codeIn K cd_InvalidName_init "InvalidName.__init__" = true)
    (k_InvalidName_init : PySem.W.keepIn K (.ref f_InvalidName_init) = true)
    (tI_InvalidName : PySem.W.typeIn K (.ref f_InvalidName_init) = some (.type "function"))
    (a_InvalidPath_init : PySem.W.findIn K (.ref C_InvalidPath) "__init__" = some (some (.ref f_InvalidPath_init)))
    (i_InvalidPath_init : PySem.W.isFn K (.ref f_InvalidPath_init) = true)
    (l_InvalidPath_init : K.lookup f_InvalidPath_init = some ⟨oc_InvalidPath_init, od_InvalidPath_init, .func (PySem.W.fnOf "__init__" "InvalidPath.__init__" (defArgs s_InvalidPath_init) (defBody s_InvalidPath_init) (defScope s_InvalidPath_init) .none kV_InvalidPath_init dc_InvalidPath_init pm_InvalidPath_init an_InvalidPath_init cd_InvalidPath_init ct_InvalidPath_init), sl_InvalidPath_init⟩)
    (c_InvalidPath_init : PySem.W.codeIn K cd_InvalidPath_init "InvalidPath.__init__" = true)
    (k_InvalidPath_init : PySem.W.keepIn K (.ref f_InvalidPath_init) = true)
    (tI_InvalidPath : PySem.W.typeIn K (.ref f_InvalidPath_init) = some (.type "function"))
    (a_InvalidSplit_init : PySem.W.findIn K (.ref C_InvalidSplit) "__init__" = some (some (.ref f_InvalidSplit_init)))
    (i_InvalidSplit_init : PySem.W.isFn K (.ref f_InvalidSplit_init) = true)
    (l_InvalidSplit_init : K.lookup f_InvalidSplit_init = some ⟨oc_InvalidSplit_init, od_InvalidSplit_init, .func (PySem.W.fnOf "__init__" "InvalidSplit.__init__" (defArgs s_InvalidSplit_init) (defBody s_InvalidSplit_init) (defScope s_InvalidSplit_init) .none kV_InvalidSplit_init dc_InvalidSplit_init pm_InvalidSplit_init an_InvalidSplit_init cd_InvalidSplit_init ct_InvalidSplit_init), sl_InvalidSplit_init⟩)
    (c_InvalidSplit_init : PySem.W.codeIn K cd_InvalidSplit_init "InvalidSplit.__init__" = true)
    (k_InvalidSplit_init : PySem.W.keepIn K (.ref f_InvalidSplit_init) = true)
    (tI_InvalidSplit : PySem.W.typeIn K (.ref f_InvalidSplit_init) = some (.type "function"))
    (a_InvalidTime_init : PySem.W.findIn K (.ref C_InvalidTime) "__init__" = some (some (.ref f_InvalidTime_init)))
    (i_InvalidTime_init : PySem.W.isFn K (.ref f_InvalidTime_init) = true)
    (l_InvalidTime_init : K.lookup f_InvalidTime_init = some ⟨oc_InvalidTime_init, od_InvalidTime_init, .func (PySem.W.fnOf "__init__" "InvalidTime.__init__" (defArgs s_InvalidTime_init) (defBody s_InvalidTime_init) (defScope s_InvalidTime_init) .none kV_InvalidTime_init dc_InvalidTime_init pm_InvalidTime_init an_InvalidTime_init cd_InvalidTime_init ct_InvalidTime_init), sl_InvalidTime_init⟩)
    (c_InvalidTime_init : PySem.W.codeIn K cd_InvalidTime_init "InvalidTime.__init__" = true)
    (k_InvalidTime_init : PySem.W.keepIn K (.ref f_InvalidTime_init) = true)
    (tI_InvalidTime : PySem.W.typeIn K (.ref f_InvalidTime_init) = some (.type "function"))
    (a_InvalidTick_init : PySem.W.findIn K (.ref C_InvalidTick) "__init__" = some (some (.ref f_InvalidTick_init)))
    (i_InvalidTick_init : PySem.W.isFn K (.ref f_InvalidTick_init) = true)
    (l_InvalidTick_init : K.lookup f_InvalidTick_init = some ⟨oc_InvalidTick_init, od_InvalidTick_init, .func (PySem.W.fnOf "__init__" "InvalidTick.__init__" (defArgs s_InvalidTick_init) (defBody s_InvalidTick_init) (defScope s_InvalidTick_init) .none kV_InvalidTick_init dc_InvalidTick_init pm_InvalidTick_init an_InvalidTick_init cd_InvalidTick_init ct_InvalidTick_init), sl_InvalidTick_init⟩)
    (c_InvalidTick_init : PySem.W.codeIn K cd_InvalidTick_init "InvalidTick.__init__" = true)
    (k_InvalidTick_init : PySem.W.keepIn K (.ref f_InvalidTick_init) = true)
    (tI_InvalidTick : PySem.W.typeIn K (.ref f_InvalidTick_init) = some (.type "function"))
    (a_InvalidFault_init : PySem.W.findIn K (.ref C_InvalidFault) "__init__" = some (some (.ref f_InvalidFault_init)))
    (i_InvalidFault_init : PySem.W.isFn K (.ref f_InvalidFault_init) = true)
    (l_InvalidFault_init : K.lookup f_InvalidFault_init = some ⟨oc_InvalidFault_init, od_InvalidFault_init, .func (PySem.W.fnOf "__init__" "InvalidFault.__init__" (defArgs s_InvalidFault_init) (defBody s_InvalidFault_init) (defScope s_InvalidFault_init) .none kV_InvalidFault_init dc_InvalidFault_init pm_InvalidFault_init an_InvalidFault_init cd_InvalidFault_init ct_InvalidFault_init), sl_InvalidFault_init⟩)
    (c_InvalidFault_init : PySem.W.codeIn K cd_InvalidFault_init "InvalidFault.__init__" = true)
    (k_InvalidFault_init : PySem.W.keepIn K (.ref f_InvalidFault_init) = true)
    (tI_InvalidFault : PySem.W.typeIn K (.ref f_InvalidFault_init) = some (.type "function"))
    (a_InvalidFaults_init : PySem.W.findIn K (.ref C_InvalidFaults) "__init__" = some (some (.ref f_InvalidFaults_init)))
    (i_InvalidFaults_init : PySem.W.isFn K (.ref f_InvalidFaults_init) = true)
    (l_InvalidFaults_init : K.lookup f_InvalidFaults_init = some ⟨oc_InvalidFaults_init, od_InvalidFaults_init, .func (PySem.W.fnOf "__init__" "InvalidFaults.__init__" (defArgs s_InvalidFaults_init) (defBody s_InvalidFaults_init) (defScope s_InvalidFaults_init) .none kV_InvalidFaults_init dc_InvalidFaults_init pm_InvalidFaults_init an_InvalidFaults_init cd_InvalidFaults_init ct_InvalidFaults_init), sl_InvalidFaults_init⟩)
    (c_InvalidFaults_init : PySem.W.codeIn K cd_InvalidFaults_init "InvalidFaults.__init__" = true)
    (k_InvalidFaults_init : PySem.W.keepIn K (.ref f_InvalidFaults_init) = true)
    (tI_InvalidFaults : PySem.W.typeIn K (.ref f_InvalidFaults_init) = some (.type "function"))
    (a_InvalidText_init : PySem.W.findIn K (.ref C_InvalidText) "__init__" = some (some (.ref f_InvalidText_init)))
    (i_InvalidText_init : PySem.W.isFn K (.ref f_InvalidText_init) = true)
    (l_InvalidText_init : K.lookup f_InvalidText_init = some ⟨oc_InvalidText_init, od_InvalidText_init, .func (PySem.W.fnOf "__init__" "InvalidText.__init__" (defArgs s_InvalidText_init) (defBody s_InvalidText_init) (defScope s_InvalidText_init) .none kV_InvalidText_init dc_InvalidText_init pm_InvalidText_init an_InvalidText_init cd_InvalidText_init ct_InvalidText_init), sl_InvalidText_init⟩)
    (c_InvalidText_init : PySem.W.codeIn K cd_InvalidText_init "InvalidText.__init__" = true)
    (k_InvalidText_init : PySem.W.keepIn K (.ref f_InvalidText_init) = true)
    (tI_InvalidText : PySem.W.typeIn K (.ref f_InvalidText_init) = some (.type "function"))
    (a_InvalidCommand_init : PySem.W.findIn K (.ref C_InvalidCommand) "__init__" = some (some (.ref f_InvalidCommand_init)))
    (i_InvalidCommand_init : PySem.W.isFn K (.ref f_InvalidCommand_init) = true)
    (l_InvalidCommand_init : K.lookup f_InvalidCommand_init = some ⟨oc_InvalidCommand_init, od_InvalidCommand_init, .func (PySem.W.fnOf "__init__" "InvalidCommand.__init__" (defArgs s_InvalidCommand_init) (defBody s_InvalidCommand_init) (defScope s_InvalidCommand_init) .none kV_InvalidCommand_init dc_InvalidCommand_init pm_InvalidCommand_init an_InvalidCommand_init cd_InvalidCommand_init ct_InvalidCommand_init), sl_InvalidCommand_init⟩)
    (c_InvalidCommand_init : PySem.W.codeIn K cd_InvalidCommand_init "InvalidCommand.__init__" = true)
    (k_InvalidCommand_init : PySem.W.keepIn K (.ref f_InvalidCommand_init) = true)
    (tI_InvalidCommand : PySem.W.typeIn K (.ref f_InvalidCommand_init) = some (.type "function"))
    (a_UnknownStation_init : PySem.W.findIn K (.ref C_UnknownStation) "__init__" = some (some (.ref f_UnknownStation_init)))
    (i_UnknownStation_init : PySem.W.isFn K (.ref f_UnknownStation_init) = true)
    (l_UnknownStation_init : K.lookup f_UnknownStation_init = some ⟨oc_UnknownStation_init, od_UnknownStation_init, .func (PySem.W.fnOf "__init__" "UnknownStation.__init__" (defArgs s_UnknownStation_init) (defBody s_UnknownStation_init) (defScope s_UnknownStation_init) .none kV_UnknownStation_init dc_UnknownStation_init pm_UnknownStation_init an_UnknownStation_init cd_UnknownStation_init ct_UnknownStation_init), sl_UnknownStation_init⟩)
    (c_UnknownStation_init : PySem.W.codeIn K cd_UnknownStation_init "UnknownStation.__init__" = true)
    (k_UnknownStation_init : PySem.W.keepIn K (.ref f_UnknownStation_init) = true)
    (tI_UnknownStation : PySem.W.typeIn K (.ref f_UnknownStation_init) = some (.type "function"))
    (a_UnknownStream_init : PySem.W.findIn K (.ref C_UnknownStream) "__init__" = some (some (.ref f_UnknownStream_init)))
    (i_UnknownStream_init : PySem.W.isFn K (.ref f_UnknownStream_init) = true)
    (l_UnknownStream_init : K.lookup f_UnknownStream_init = some ⟨oc_UnknownStream_init, od_UnknownStream_init, .func (PySem.W.fnOf "__init__" "UnknownStream.__init__" (defArgs s_UnknownStream_init) (defBody s_UnknownStream_init) (defScope s_UnknownStream_init) .none kV_UnknownStream_init dc_UnknownStream_init pm_UnknownStream_init an_UnknownStream_init cd_UnknownStream_init ct_UnknownStream_init), sl_UnknownStream_init⟩)
    (c_UnknownStream_init : PySem.W.codeIn K cd_UnknownStream_init "UnknownStream.__init__" = true)
    (k_UnknownStream_init : PySem.W.keepIn K (.ref f_UnknownStream_init) = true)
    (tI_UnknownStream : PySem.W.typeIn K (.ref f_UnknownStream_init) = some (.type "function"))
    (a_UnknownUnit_init : PySem.W.findIn K (.ref C_UnknownUnit) "__init__" = some (some (.ref f_UnknownUnit_init)))
    (i_UnknownUnit_init : PySem.W.isFn K (.ref f_UnknownUnit_init) = true)
    (l_UnknownUnit_init : K.lookup f_UnknownUnit_init = some ⟨oc_UnknownUnit_init, od_UnknownUnit_init, .func (PySem.W.fnOf "__init__" "UnknownUnit.__init__" (defArgs s_UnknownUnit_init) (defBody s_UnknownUnit_init) (defScope s_UnknownUnit_init) .none kV_UnknownUnit_init dc_UnknownUnit_init pm_UnknownUnit_init an_UnknownUnit_init cd_UnknownUnit_init ct_UnknownUnit_init), sl_UnknownUnit_init⟩)
    (c_UnknownUnit_init : PySem.W.codeIn K cd_UnknownUnit_init "UnknownUnit.__init__" = true)
    (k_UnknownUnit_init : PySem.W.keepIn K (.ref f_UnknownUnit_init) = true)
    (tI_UnknownUnit : PySem.W.typeIn K (.ref f_UnknownUnit_init) = some (.type "function"))
    (a_NoLink_init : PySem.W.findIn K (.ref C_NoLink) "__init__" = some (some (.ref f_NoLink_init)))
    (i_NoLink_init : PySem.W.isFn K (.ref f_NoLink_init) = true)
    (l_NoLink_init : K.lookup f_NoLink_init = some ⟨oc_NoLink_init, od_NoLink_init, .func (PySem.W.fnOf "__init__" "NoLink.__init__" (defArgs s_NoLink_init) (defBody s_NoLink_init) (defScope s_NoLink_init) .none kV_NoLink_init dc_NoLink_init pm_NoLink_init an_NoLink_init cd_NoLink_init ct_NoLink_init), sl_NoLink_init⟩)
    (c_NoLink_init : PySem.W.codeIn K cd_NoLink_init "NoLink.__init__" = true)
    (k_NoLink_init : PySem.W.keepIn K (.ref f_NoLink_init) = true)
    (tI_NoLink : PySem.W.typeIn K (.ref f_NoLink_init) = some (.type "function"))
    (a_NameTaken_init : PySem.W.findIn K (.ref C_NameTaken) "__init__" = some (some (.ref f_NameTaken_init)))
    (i_NameTaken_init : PySem.W.isFn K (.ref f_NameTaken_init) = true)
    (l_NameTaken_init : K.lookup f_NameTaken_init = some ⟨oc_NameTaken_init, od_NameTaken_init, .func (PySem.W.fnOf "__init__" "NameTaken.__init__" (defArgs s_NameTaken_init) (defBody s_NameTaken_init) (defScope s_NameTaken_init) .none kV_NameTaken_init dc_NameTaken_init pm_NameTaken_init an_NameTaken_init cd_NameTaken_init ct_NameTaken_init), sl_NameTaken_init⟩)
    (c_NameTaken_init : PySem.W.codeIn K cd_NameTaken_init "NameTaken.__init__" = true)
    (k_NameTaken_init : PySem.W.keepIn K (.ref f_NameTaken_init) = true)
    (tI_NameTaken : PySem.W.typeIn K (.ref f_NameTaken_init) = some (.type "function"))
    (a_NotGood_init : PySem.W.findIn K (.ref C_NotGood) "__init__" = some (some (.ref f_NotGood_init)))
    (i_NotGood_init : PySem.W.isFn K (.ref f_NotGood_init) = true)
    (l_NotGood_init : K.lookup f_NotGood_init = some ⟨oc_NotGood_init, od_NotGood_init, .func (PySem.W.fnOf "__init__" "NotGood.__init__" (defArgs s_NotGood_init) (defBody s_NotGood_init) (defScope s_NotGood_init) .none kV_NotGood_init dc_NotGood_init pm_NotGood_init an_NotGood_init cd_NotGood_init ct_NotGood_init), sl_NotGood_init⟩)
    (c_NotGood_init : PySem.W.codeIn K cd_NotGood_init "NotGood.__init__" = true)
    (k_NotGood_init : PySem.W.keepIn K (.ref f_NotGood_init) = true)
    (tI_NotGood : PySem.W.typeIn K (.ref f_NotGood_init) = some (.type "function"))
    (a_TooSlow_init : PySem.W.findIn K (.ref C_TooSlow) "__init__" = some (some (.ref f_TooSlow_init)))
    (i_TooSlow_init : PySem.W.isFn K (.ref f_TooSlow_init) = true)
    (l_TooSlow_init : K.lookup f_TooSlow_init = some ⟨oc_TooSlow_init, od_TooSlow_init, .func (PySem.W.fnOf "__init__" "TooSlow.__init__" (defArgs s_TooSlow_init) (defBody s_TooSlow_init) (defScope s_TooSlow_init) .none kV_TooSlow_init dc_TooSlow_init pm_TooSlow_init an_TooSlow_init cd_TooSlow_init ct_TooSlow_init), sl_TooSlow_init⟩)
    (c_TooSlow_init : PySem.W.codeIn K cd_TooSlow_init "TooSlow.__init__" = true)
    (k_TooSlow_init : PySem.W.keepIn K (.ref f_TooSlow_init) = true)
    (tI_TooSlow : PySem.W.typeIn K (.ref f_TooSlow_init) = some (.type "function"))
    (a_Refused_init : PySem.W.findIn K (.ref C_Refused) "__init__" = some (some (.ref f_Refused_init)))
    (i_Refused_init : PySem.W.isFn K (.ref f_Refused_init) = true)
    (l_Refused_init : K.lookup f_Refused_init = some ⟨oc_Refused_init, od_Refused_init, .func (PySem.W.fnOf "__init__" "Refused.__init__" (defArgs s_Refused_init) (defBody s_Refused_init) (defScope s_Refused_init) .none kV_Refused_init dc_Refused_init pm_Refused_init an_Refused_init cd_Refused_init ct_Refused_init), sl_Refused_init⟩)
    (c_Refused_init : PySem.W.codeIn K cd_Refused_init "Refused.__init__" = true)
    (k_Refused_init : PySem.W.keepIn K (.ref f_Refused_init) = true)
    (tI_Refused : PySem.W.typeIn K (.ref f_Refused_init) = some (.type "function"))
    (a_Overfull_init : PySem.W.findIn K (.ref C_Overfull) "__init__" = some (some (.ref f_Overfull_init)))
    (i_Overfull_init : PySem.W.isFn K (.ref f_Overfull_init) = true)
    (l_Overfull_init : K.lookup f_Overfull_init = some ⟨oc_Overfull_init, od_Overfull_init, .func (PySem.W.fnOf "__init__" "Overfull.__init__" (defArgs s_Overfull_init) (defBody s_Overfull_init) (defScope s_Overfull_init) .none kV_Overfull_init dc_Overfull_init pm_Overfull_init an_Overfull_init cd_Overfull_init ct_Overfull_init), sl_Overfull_init⟩)
    (c_Overfull_init : PySem.W.codeIn K cd_Overfull_init "Overfull.__init__" = true)
    (k_Overfull_init : PySem.W.keepIn K (.ref f_Overfull_init) = true)
    (tI_Overfull : PySem.W.typeIn K (.ref f_Overfull_init) = some (.type "function"))
    (a_NoSplits_init : PySem.W.findIn K (.ref C_NoSplits) "__init__" = some (some (.ref f_NoSplits_init)))
    (i_NoSplits_init : PySem.W.isFn K (.ref f_NoSplits_init) = true)
    (l_NoSplits_init : K.lookup f_NoSplits_init = some ⟨oc_NoSplits_init, od_NoSplits_init, .func (PySem.W.fnOf "__init__" "NoSplits.__init__" (defArgs s_NoSplits_init) (defBody s_NoSplits_init) (defScope s_NoSplits_init) .none kV_NoSplits_init dc_NoSplits_init pm_NoSplits_init an_NoSplits_init cd_NoSplits_init ct_NoSplits_init), sl_NoSplits_init⟩)
    (c_NoSplits_init : PySem.W.codeIn K cd_NoSplits_init "NoSplits.__init__" = true)
    (k_NoSplits_init : PySem.W.keepIn K (.ref f_NoSplits_init) = true)
    (tI_NoSplits : PySem.W.typeIn K (.ref f_NoSplits_init) = some (.type "function"))
    (a_Exposed_init : PySem.W.findIn K (.ref C_Exposed) "__init__" = some (some (.ref f_Exposed_init)))
    (i_Exposed_init : PySem.W.isFn K (.ref f_Exposed_init) = true)
    (l_Exposed_init : K.lookup f_Exposed_init = some ⟨oc_Exposed_init, od_Exposed_init, .func (PySem.W.fnOf "__init__" "Exposed.__init__" (defArgs s_Exposed_init) (defBody s_Exposed_init) (defScope s_Exposed_init) .none kV_Exposed_init dc_Exposed_init pm_Exposed_init an_Exposed_init cd_Exposed_init ct_Exposed_init), sl_Exposed_init⟩)
    (c_Exposed_init : PySem.W.codeIn K cd_Exposed_init "Exposed.__init__" = true)
    (k_Exposed_init : PySem.W.keepIn K (.ref f_Exposed_init) = true)
    (tI_Exposed : PySem.W.typeIn K (.ref f_Exposed_init) = some (.type "function"))
    (a_NotLate_init : PySem.W.findIn K (.ref C_NotLate) "__init__" = some (some (.ref f_NotLate_init)))
    (i_NotLate_init : PySem.W.isFn K (.ref f_NotLate_init) = true)
    (l_NotLate_init : K.lookup f_NotLate_init = some ⟨oc_NotLate_init, od_NotLate_init, .func (PySem.W.fnOf "__init__" "NotLate.__init__" (defArgs s_NotLate_init) (defBody s_NotLate_init) (defScope s_NotLate_init) .none kV_NotLate_init dc_NotLate_init pm_NotLate_init an_NotLate_init cd_NotLate_init ct_NotLate_init), sl_NotLate_init⟩)
    (c_NotLate_init : PySem.W.codeIn K cd_NotLate_init "NotLate.__init__" = true)
    (k_NotLate_init : PySem.W.keepIn K (.ref f_NotLate_init) = true)
    (tI_NotLate : PySem.W.typeIn K (.ref f_NotLate_init) = some (.type "function"))
    (a_RunFailed_init : PySem.W.findIn K (.ref C_RunFailed) "__init__" = some (some (.ref f_RunFailed_init)))
    (i_RunFailed_init : PySem.W.isFn K (.ref f_RunFailed_init) = true)
    (l_RunFailed_init : K.lookup f_RunFailed_init = some ⟨oc_RunFailed_init, od_RunFailed_init, .func (PySem.W.fnOf "__init__" "RunFailed.__init__" (defArgs s_RunFailed_init) (defBody s_RunFailed_init) (defScope s_RunFailed_init) .none kV_RunFailed_init dc_RunFailed_init pm_RunFailed_init an_RunFailed_init cd_RunFailed_init ct_RunFailed_init), sl_RunFailed_init⟩)
    (c_RunFailed_init : PySem.W.codeIn K cd_RunFailed_init "RunFailed.__init__" = true)
    (k_RunFailed_init : PySem.W.keepIn K (.ref f_RunFailed_init) = true)
    (tI_RunFailed : PySem.W.typeIn K (.ref f_RunFailed_init) = some (.type "function"))
    (a_TooLong_init : PySem.W.findIn K (.ref C_TooLong) "__init__" = some (some (.ref f_TooLong_init)))
    (i_TooLong_init : PySem.W.isFn K (.ref f_TooLong_init) = true)
    (l_TooLong_init : K.lookup f_TooLong_init = some ⟨oc_TooLong_init, od_TooLong_init, .func (PySem.W.fnOf "__init__" "TooLong.__init__" (defArgs s_TooLong_init) (defBody s_TooLong_init) (defScope s_TooLong_init) .none kV_TooLong_init dc_TooLong_init pm_TooLong_init an_TooLong_init cd_TooLong_init ct_TooLong_init), sl_TooLong_init⟩)
    (c_TooLong_init : PySem.W.codeIn K cd_TooLong_init "TooLong.__init__" = true)
    (k_TooLong_init : PySem.W.keepIn K (.ref f_TooLong_init) = true)
    (tI_TooLong : PySem.W.typeIn K (.ref f_TooLong_init) = some (.type "function"))
    (a_TooMany_init : PySem.W.findIn K (.ref C_TooMany) "__init__" = some (some (.ref f_TooMany_init)))
    (i_TooMany_init : PySem.W.isFn K (.ref f_TooMany_init) = true)
    (l_TooMany_init : K.lookup f_TooMany_init = some ⟨oc_TooMany_init, od_TooMany_init, .func (PySem.W.fnOf "__init__" "TooMany.__init__" (defArgs s_TooMany_init) (defBody s_TooMany_init) (defScope s_TooMany_init) .none kV_TooMany_init dc_TooMany_init pm_TooMany_init an_TooMany_init cd_TooMany_init ct_TooMany_init), sl_TooMany_init⟩)
    (c_TooMany_init : PySem.W.codeIn K cd_TooMany_init "TooMany.__init__" = true)
    (k_TooMany_init : PySem.W.keepIn K (.ref f_TooMany_init) = true)
    (tI_TooMany : PySem.W.typeIn K (.ref f_TooMany_init) = some (.type "function"))
    (a_l_rng : PySem.W.nsIn K mainGlobals "_law_rng" = some (some (.ref f_l_rng)))
    (l_l_rng : K.lookup f_l_rng = some ⟨oc_l_rng, od_l_rng, .func (PySem.W.fnOf "_law_rng" "_law_rng" (defArgs s_l_rng) (defBody s_l_rng) (defScope s_l_rng) .none kV_l_rng dc_l_rng pm_l_rng an_l_rng cd_l_rng ct_l_rng), sl_l_rng⟩)
    (c_l_rng : PySem.W.codeIn K cd_l_rng "_law_rng" = true)
    (k_l_rng : PySem.W.keepIn K (.ref f_l_rng) = true)
    (a_l_draw : PySem.W.nsIn K mainGlobals "_law_draw" = some (some (.ref f_l_draw)))
    (l_l_draw : K.lookup f_l_draw = some ⟨oc_l_draw, od_l_draw, .func (PySem.W.fnOf "_law_draw" "_law_draw" (defArgs s_l_draw) (defBody s_l_draw) (defScope s_l_draw) .none kV_l_draw dc_l_draw pm_l_draw an_l_draw cd_l_draw ct_l_draw), sl_l_draw⟩)
    (c_l_draw : PySem.W.codeIn K cd_l_draw "_law_draw" = true)
    (k_l_draw : PySem.W.keepIn K (.ref f_l_draw) = true)
    (a_l_thing : PySem.W.nsIn K mainGlobals "_law_thing" = some (some (.ref f_l_thing)))
    (l_l_thing : K.lookup f_l_thing = some ⟨oc_l_thing, od_l_thing, .func (PySem.W.fnOf "_law_thing" "_law_thing" (defArgs s_l_thing) (defBody s_l_thing) (defScope s_l_thing) .none kV_l_thing dc_l_thing pm_l_thing an_l_thing cd_l_thing ct_l_thing), sl_l_thing⟩)
    (c_l_thing : PySem.W.codeIn K cd_l_thing "_law_thing" = true)
    (k_l_thing : PySem.W.keepIn K (.ref f_l_thing) = true)
    (a_l_ones : PySem.W.nsIn K mainGlobals "_law_ones" = some (some (.ref f_l_ones)))
    (l_l_ones : K.lookup f_l_ones = some ⟨oc_l_ones, od_l_ones, .func (PySem.W.fnOf "_law_ones" "_law_ones" (defArgs s_l_ones) (defBody s_l_ones) (defScope s_l_ones) .none kV_l_ones dc_l_ones pm_l_ones an_l_ones cd_l_ones ct_l_ones), sl_l_ones⟩)
    (c_l_ones : PySem.W.codeIn K cd_l_ones "_law_ones" = true)
    (k_l_ones : PySem.W.keepIn K (.ref f_l_ones) = true)
    (a_l_ones_by_place : PySem.W.nsIn K mainGlobals "_law_ones_by_place" = some (some (.ref f_l_ones_by_place)))
    (l_l_ones_by_place : K.lookup f_l_ones_by_place = some ⟨oc_l_ones_by_place, od_l_ones_by_place, .func (PySem.W.fnOf "_law_ones_by_place" "_law_ones_by_place" (defArgs s_l_ones_by_place) (defBody s_l_ones_by_place) (defScope s_l_ones_by_place) .none kV_l_ones_by_place dc_l_ones_by_place pm_l_ones_by_place an_l_ones_by_place cd_l_ones_by_place ct_l_ones_by_place), sl_l_ones_by_place⟩)
    (c_l_ones_by_place : PySem.W.codeIn K cd_l_ones_by_place "_law_ones_by_place" = true)
    (k_l_ones_by_place : PySem.W.keepIn K (.ref f_l_ones_by_place) = true)
    (a_l_told : PySem.W.nsIn K mainGlobals "_law_told" = some (some (.ref f_l_told)))
    (l_l_told : K.lookup f_l_told = some ⟨oc_l_told, od_l_told, .func (PySem.W.fnOf "_law_told" "_law_told" (defArgs s_l_told) (defBody s_l_told) (defScope s_l_told) .none kV_l_told dc_l_told pm_l_told an_l_told cd_l_told ct_l_told), sl_l_told⟩)
    (c_l_told : PySem.W.codeIn K cd_l_told "_law_told" = true)
    (k_l_told : PySem.W.keepIn K (.ref f_l_told) = true)
    (a_l_more : PySem.W.nsIn K mainGlobals "_law_more" = some (some (.ref f_l_more)))
    (l_l_more : K.lookup f_l_more = some ⟨oc_l_more, od_l_more, .func (PySem.W.fnOf "_law_more" "_law_more" (defArgs s_l_more) (defBody s_l_more) (defScope s_l_more) .none kV_l_more dc_l_more pm_l_more an_l_more cd_l_more ct_l_more), sl_l_more⟩)
    (c_l_more : PySem.W.codeIn K cd_l_more "_law_more" = true)
    (k_l_more : PySem.W.keepIn K (.ref f_l_more) = true)
    (a_l_parts : PySem.W.nsIn K mainGlobals "_law_parts" = some (some (.ref f_l_parts)))
    (l_l_parts : K.lookup f_l_parts = some ⟨oc_l_parts, od_l_parts, .func (PySem.W.fnOf "_law_parts" "_law_parts" (defArgs s_l_parts) (defBody s_l_parts) (defScope s_l_parts) .none kV_l_parts dc_l_parts pm_l_parts an_l_parts cd_l_parts ct_l_parts), sl_l_parts⟩)
    (c_l_parts : PySem.W.codeIn K cd_l_parts "_law_parts" = true)
    (k_l_parts : PySem.W.keepIn K (.ref f_l_parts) = true)
    (a_l_classes : PySem.W.nsIn K mainGlobals "_law_classes" = some (some (.ref f_l_classes)))
    (l_l_classes : K.lookup f_l_classes = some ⟨oc_l_classes, od_l_classes, .func (PySem.W.fnOf "_law_classes" "_law_classes" (defArgs s_l_classes) (defBody s_l_classes) (defScope s_l_classes) .none kV_l_classes dc_l_classes pm_l_classes an_l_classes cd_l_classes ct_l_classes), sl_l_classes⟩)
    (c_l_classes : PySem.W.codeIn K cd_l_classes "_law_classes" = true)
    (k_l_classes : PySem.W.keepIn K (.ref f_l_classes) = true)
    (a_l_base : PySem.W.nsIn K mainGlobals "_law_base" = some (some (.ref f_l_base)))
    (l_l_base : K.lookup f_l_base = some ⟨oc_l_base, od_l_base, .func (PySem.W.fnOf "_law_base" "_law_base" (defArgs s_l_base) (defBody s_l_base) (defScope s_l_base) .none kV_l_base dc_l_base pm_l_base an_l_base cd_l_base ct_l_base), sl_l_base⟩)
    (c_l_base : PySem.W.codeIn K cd_l_base "_law_base" = true)
    (k_l_base : PySem.W.keepIn K (.ref f_l_base) = true)
    (a_l_is_of : PySem.W.nsIn K mainGlobals "_law_is_of" = some (some (.ref f_l_is_of)))
    (l_l_is_of : K.lookup f_l_is_of = some ⟨oc_l_is_of, od_l_is_of, .func (PySem.W.fnOf "_law_is_of" "_law_is_of" (defArgs s_l_is_of) (defBody s_l_is_of) (defScope s_l_is_of) .none kV_l_is_of dc_l_is_of pm_l_is_of an_l_is_of cd_l_is_of ct_l_is_of), sl_l_is_of⟩)
    (c_l_is_of : PySem.W.codeIn K cd_l_is_of "_law_is_of" = true)
    (k_l_is_of : PySem.W.keepIn K (.ref f_l_is_of) = true)
    (a_l_right : PySem.W.nsIn K mainGlobals "_law_right" = some (some (.ref f_l_right)))
    (l_l_right : K.lookup f_l_right = some ⟨oc_l_right, od_l_right, .func (PySem.W.fnOf "_law_right" "_law_right" (defArgs s_l_right) (defBody s_l_right) (defScope s_l_right) .none kV_l_right dc_l_right pm_l_right an_l_right cd_l_right ct_l_right), sl_l_right⟩)
    (c_l_right : PySem.W.codeIn K cd_l_right "_law_right" = true)
    (k_l_right : PySem.W.keepIn K (.ref f_l_right) = true)
    (a_law : PySem.W.nsIn K mainGlobals "law" = some (some (.ref f_law)))
    (l_law : K.lookup f_law = some ⟨oc_law, od_law, .func (PySem.W.fnOf "law" "law" (defArgs s_law) (defBody s_law) (defScope s_law) .none kV_law dc_law pm_law an_law cd_law ct_law), sl_law⟩)
    (c_law : PySem.W.codeIn K cd_law "law" = true)
    (k_law : PySem.W.keepIn K (.ref f_law) = true)
    (z_ArithmeticError : PySem.W.nsIn K mainGlobals "ArithmeticError" = some none)
    (z_IndexError : PySem.W.nsIn K mainGlobals "IndexError" = some none)
    (z_KeyError : PySem.W.nsIn K mainGlobals "KeyError" = some none)
    (z_LookupError : PySem.W.nsIn K mainGlobals "LookupError" = some none)
    (z_OverflowError : PySem.W.nsIn K mainGlobals "OverflowError" = some none)
    (z_RuntimeError : PySem.W.nsIn K mainGlobals "RuntimeError" = some none)
    (z_ValueError : PySem.W.nsIn K mainGlobals "ValueError" = some none)
    (z_ZeroDivisionError : PySem.W.nsIn K mainGlobals "ZeroDivisionError" = some none)
    (z_abs : PySem.W.nsIn K mainGlobals "abs" = some none)
    (z_all : PySem.W.nsIn K mainGlobals "all" = some none)
    (z_divmod : PySem.W.nsIn K mainGlobals "divmod" = some none)
    (z_enumerate : PySem.W.nsIn K mainGlobals "enumerate" = some none)
    (z_int : PySem.W.nsIn K mainGlobals "int" = some none)
    (z_isinstance : PySem.W.nsIn K mainGlobals "isinstance" = some none)
    (z_len : PySem.W.nsIn K mainGlobals "len" = some none)
    (z_max : PySem.W.nsIn K mainGlobals "max" = some none)
    (z_min : PySem.W.nsIn K mainGlobals "min" = some none)
    (z_range : PySem.W.nsIn K mainGlobals "range" = some none)
    (z_repr : PySem.W.nsIn K mainGlobals "repr" = some none)
    (z_sorted : PySem.W.nsIn K mainGlobals "sorted" = some none)
    (z_zip : PySem.W.nsIn K mainGlobals "zip" = some none)
    (ndup : [C_InvalidCurve, C_InvalidPiece, C_InvalidLength, C_InvalidCount, C_InvalidRecord, C_InvalidVisit, C_InvalidVisits, C_InvalidSupply, C_InvalidWindow, C_InvalidStation, C_InvalidNetwork, C_InvalidName, C_InvalidPath, C_InvalidSplit, C_InvalidTime, C_InvalidTick, C_InvalidFault, C_InvalidFaults, C_InvalidHanded, C_InvalidBook, C_InvalidWeights, C_InvalidText, C_InvalidCommand, C_UnknownStation, C_UnknownStream, C_UnknownUnit, C_NoLink, C_NameTaken, C_NotGood, C_TooSlow, C_Refused, C_Overfull, C_NotPlain, C_HasReserves, C_NoSplits, C_Exposed, C_NotLate, C_RunFailed, C_TooLong, C_TooMany, C_DueError].Nodup)
    : ∃ fd : FuncData, (∀ (s : Shared) (v : Value), BindsTo s fd ⟨[v], []⟩ [("_law_script", v)]) ∧ ∀ base : Heap, K.In base → base.Ns mainGlobals mg → VG.FnG l.prog w K mg base CX0 5 fa fd ["_law_script"] (spL K) := by
  have e := hfa.symm.trans (PySem.W.mg_of X G a_law)
  cases e
  let A : Ad := {
    InvalidCurve := C_InvalidCurve,
    InvalidPiece := C_InvalidPiece,
    InvalidLength := C_InvalidLength,
    InvalidCount := C_InvalidCount,
    InvalidRecord := C_InvalidRecord,
    InvalidVisit := C_InvalidVisit,
    InvalidVisits := C_InvalidVisits,
    InvalidSupply := C_InvalidSupply,
    InvalidWindow := C_InvalidWindow,
    InvalidStation := C_InvalidStation,
    InvalidNetwork := C_InvalidNetwork,
    InvalidName := C_InvalidName,
    InvalidPath := C_InvalidPath,
    InvalidSplit := C_InvalidSplit,
    InvalidTime := C_InvalidTime,
    InvalidTick := C_InvalidTick,
    InvalidFault := C_InvalidFault,
    InvalidFaults := C_InvalidFaults,
    InvalidHanded := C_InvalidHanded,
    InvalidBook := C_InvalidBook,
    InvalidWeights := C_InvalidWeights,
    InvalidText := C_InvalidText,
    InvalidCommand := C_InvalidCommand,
    UnknownStation := C_UnknownStation,
    UnknownStream := C_UnknownStream,
    UnknownUnit := C_UnknownUnit,
    NoLink := C_NoLink,
    NameTaken := C_NameTaken,
    NotGood := C_NotGood,
    TooSlow := C_TooSlow,
    Refused := C_Refused,
    Overfull := C_Overfull,
    NotPlain := C_NotPlain,
    HasReserves := C_HasReserves,
    NoSplits := C_NoSplits,
    Exposed := C_Exposed,
    NotLate := C_NotLate,
    RunFailed := C_RunFailed,
    TooLong := C_TooLong,
    TooMany := C_TooMany,
    DueError := C_DueError,
    f_InvalidCurve_init := f_InvalidCurve_init,
    d_InvalidCurve_init := PySem.W.fnOf "__init__" "InvalidCurve.__init__" (defArgs s_InvalidCurve_init) (defBody s_InvalidCurve_init) (defScope s_InvalidCurve_init) .none kV_InvalidCurve_init dc_InvalidCurve_init pm_InvalidCurve_init an_InvalidCurve_init cd_InvalidCurve_init ct_InvalidCurve_init,
    f_InvalidPiece_init := f_InvalidPiece_init,
    d_InvalidPiece_init := PySem.W.fnOf "__init__" "InvalidPiece.__init__" (defArgs s_InvalidPiece_init) (defBody s_InvalidPiece_init) (defScope s_InvalidPiece_init) .none kV_InvalidPiece_init dc_InvalidPiece_init pm_InvalidPiece_init an_InvalidPiece_init cd_InvalidPiece_init ct_InvalidPiece_init,
    f_InvalidLength_init := f_InvalidLength_init,
    d_InvalidLength_init := PySem.W.fnOf "__init__" "InvalidLength.__init__" (defArgs s_InvalidLength_init) (defBody s_InvalidLength_init) (defScope s_InvalidLength_init) .none kV_InvalidLength_init dc_InvalidLength_init pm_InvalidLength_init an_InvalidLength_init cd_InvalidLength_init ct_InvalidLength_init,
    f_InvalidCount_init := f_InvalidCount_init,
    d_InvalidCount_init := PySem.W.fnOf "__init__" "InvalidCount.__init__" (defArgs s_InvalidCount_init) (defBody s_InvalidCount_init) (defScope s_InvalidCount_init) .none kV_InvalidCount_init dc_InvalidCount_init pm_InvalidCount_init an_InvalidCount_init cd_InvalidCount_init ct_InvalidCount_init,
    f_InvalidRecord_init := f_InvalidRecord_init,
    d_InvalidRecord_init := PySem.W.fnOf "__init__" "InvalidRecord.__init__" (defArgs s_InvalidRecord_init) (defBody s_InvalidRecord_init) (defScope s_InvalidRecord_init) .none kV_InvalidRecord_init dc_InvalidRecord_init pm_InvalidRecord_init an_InvalidRecord_init cd_InvalidRecord_init ct_InvalidRecord_init,
    f_InvalidVisit_init := f_InvalidVisit_init,
    d_InvalidVisit_init := PySem.W.fnOf "__init__" "InvalidVisit.__init__" (defArgs s_InvalidVisit_init) (defBody s_InvalidVisit_init) (defScope s_InvalidVisit_init) .none kV_InvalidVisit_init dc_InvalidVisit_init pm_InvalidVisit_init an_InvalidVisit_init cd_InvalidVisit_init ct_InvalidVisit_init,
    f_InvalidVisits_init := f_InvalidVisits_init,
    d_InvalidVisits_init := PySem.W.fnOf "__init__" "InvalidVisits.__init__" (defArgs s_InvalidVisits_init) (defBody s_InvalidVisits_init) (defScope s_InvalidVisits_init) .none kV_InvalidVisits_init dc_InvalidVisits_init pm_InvalidVisits_init an_InvalidVisits_init cd_InvalidVisits_init ct_InvalidVisits_init,
    f_InvalidSupply_init := f_InvalidSupply_init,
    d_InvalidSupply_init := PySem.W.fnOf "__init__" "InvalidSupply.__init__" (defArgs s_InvalidSupply_init) (defBody s_InvalidSupply_init) (defScope s_InvalidSupply_init) .none kV_InvalidSupply_init dc_InvalidSupply_init pm_InvalidSupply_init an_InvalidSupply_init cd_InvalidSupply_init ct_InvalidSupply_init,
    f_InvalidWindow_init := f_InvalidWindow_init,
    d_InvalidWindow_init := PySem.W.fnOf "__init__" "InvalidWindow.__init__" (defArgs s_InvalidWindow_init) (defBody s_InvalidWindow_init) (defScope s_InvalidWindow_init) .none kV_InvalidWindow_init dc_InvalidWindow_init pm_InvalidWindow_init an_InvalidWindow_init cd_InvalidWindow_init ct_InvalidWindow_init,
    f_InvalidStation_init := f_InvalidStation_init,
    d_InvalidStation_init := PySem.W.fnOf "__init__" "InvalidStation.__init__" (defArgs s_InvalidStation_init) (defBody s_InvalidStation_init) (defScope s_InvalidStation_init) .none kV_InvalidStation_init dc_InvalidStation_init pm_InvalidStation_init an_InvalidStation_init cd_InvalidStation_init ct_InvalidStation_init,
    f_InvalidNetwork_init := f_InvalidNetwork_init,
    d_InvalidNetwork_init := PySem.W.fnOf "__init__" "InvalidNetwork.__init__" (defArgs s_InvalidNetwork_init) (defBody s_InvalidNetwork_init) (defScope s_InvalidNetwork_init) .none kV_InvalidNetwork_init dc_InvalidNetwork_init pm_InvalidNetwork_init an_InvalidNetwork_init cd_InvalidNetwork_init ct_InvalidNetwork_init,
    f_InvalidName_init := f_InvalidName_init,
    d_InvalidName_init := PySem.W.fnOf "__init__" "InvalidName.__init__" (defArgs s_InvalidName_init) (defBody s_InvalidName_init) (defScope s_InvalidName_init) .none kV_InvalidName_init dc_InvalidName_init pm_InvalidName_init an_InvalidName_init cd_InvalidName_init ct_InvalidName_init,
    f_InvalidPath_init := f_InvalidPath_init,
    d_InvalidPath_init := PySem.W.fnOf "__init__" "InvalidPath.__init__" (defArgs s_InvalidPath_init) (defBody s_InvalidPath_init) (defScope s_InvalidPath_init) .none kV_InvalidPath_init dc_InvalidPath_init pm_InvalidPath_init an_InvalidPath_init cd_InvalidPath_init ct_InvalidPath_init,
    f_InvalidSplit_init := f_InvalidSplit_init,
    d_InvalidSplit_init := PySem.W.fnOf "__init__" "InvalidSplit.__init__" (defArgs s_InvalidSplit_init) (defBody s_InvalidSplit_init) (defScope s_InvalidSplit_init) .none kV_InvalidSplit_init dc_InvalidSplit_init pm_InvalidSplit_init an_InvalidSplit_init cd_InvalidSplit_init ct_InvalidSplit_init,
    f_InvalidTime_init := f_InvalidTime_init,
    d_InvalidTime_init := PySem.W.fnOf "__init__" "InvalidTime.__init__" (defArgs s_InvalidTime_init) (defBody s_InvalidTime_init) (defScope s_InvalidTime_init) .none kV_InvalidTime_init dc_InvalidTime_init pm_InvalidTime_init an_InvalidTime_init cd_InvalidTime_init ct_InvalidTime_init,
    f_InvalidTick_init := f_InvalidTick_init,
    d_InvalidTick_init := PySem.W.fnOf "__init__" "InvalidTick.__init__" (defArgs s_InvalidTick_init) (defBody s_InvalidTick_init) (defScope s_InvalidTick_init) .none kV_InvalidTick_init dc_InvalidTick_init pm_InvalidTick_init an_InvalidTick_init cd_InvalidTick_init ct_InvalidTick_init,
    f_InvalidFault_init := f_InvalidFault_init,
    d_InvalidFault_init := PySem.W.fnOf "__init__" "InvalidFault.__init__" (defArgs s_InvalidFault_init) (defBody s_InvalidFault_init) (defScope s_InvalidFault_init) .none kV_InvalidFault_init dc_InvalidFault_init pm_InvalidFault_init an_InvalidFault_init cd_InvalidFault_init ct_InvalidFault_init,
    f_InvalidFaults_init := f_InvalidFaults_init,
    d_InvalidFaults_init := PySem.W.fnOf "__init__" "InvalidFaults.__init__" (defArgs s_InvalidFaults_init) (defBody s_InvalidFaults_init) (defScope s_InvalidFaults_init) .none kV_InvalidFaults_init dc_InvalidFaults_init pm_InvalidFaults_init an_InvalidFaults_init cd_InvalidFaults_init ct_InvalidFaults_init,
    f_InvalidText_init := f_InvalidText_init,
    d_InvalidText_init := PySem.W.fnOf "__init__" "InvalidText.__init__" (defArgs s_InvalidText_init) (defBody s_InvalidText_init) (defScope s_InvalidText_init) .none kV_InvalidText_init dc_InvalidText_init pm_InvalidText_init an_InvalidText_init cd_InvalidText_init ct_InvalidText_init,
    f_InvalidCommand_init := f_InvalidCommand_init,
    d_InvalidCommand_init := PySem.W.fnOf "__init__" "InvalidCommand.__init__" (defArgs s_InvalidCommand_init) (defBody s_InvalidCommand_init) (defScope s_InvalidCommand_init) .none kV_InvalidCommand_init dc_InvalidCommand_init pm_InvalidCommand_init an_InvalidCommand_init cd_InvalidCommand_init ct_InvalidCommand_init,
    f_UnknownStation_init := f_UnknownStation_init,
    d_UnknownStation_init := PySem.W.fnOf "__init__" "UnknownStation.__init__" (defArgs s_UnknownStation_init) (defBody s_UnknownStation_init) (defScope s_UnknownStation_init) .none kV_UnknownStation_init dc_UnknownStation_init pm_UnknownStation_init an_UnknownStation_init cd_UnknownStation_init ct_UnknownStation_init,
    f_UnknownStream_init := f_UnknownStream_init,
    d_UnknownStream_init := PySem.W.fnOf "__init__" "UnknownStream.__init__" (defArgs s_UnknownStream_init) (defBody s_UnknownStream_init) (defScope s_UnknownStream_init) .none kV_UnknownStream_init dc_UnknownStream_init pm_UnknownStream_init an_UnknownStream_init cd_UnknownStream_init ct_UnknownStream_init,
    f_UnknownUnit_init := f_UnknownUnit_init,
    d_UnknownUnit_init := PySem.W.fnOf "__init__" "UnknownUnit.__init__" (defArgs s_UnknownUnit_init) (defBody s_UnknownUnit_init) (defScope s_UnknownUnit_init) .none kV_UnknownUnit_init dc_UnknownUnit_init pm_UnknownUnit_init an_UnknownUnit_init cd_UnknownUnit_init ct_UnknownUnit_init,
    f_NoLink_init := f_NoLink_init,
    d_NoLink_init := PySem.W.fnOf "__init__" "NoLink.__init__" (defArgs s_NoLink_init) (defBody s_NoLink_init) (defScope s_NoLink_init) .none kV_NoLink_init dc_NoLink_init pm_NoLink_init an_NoLink_init cd_NoLink_init ct_NoLink_init,
    f_NameTaken_init := f_NameTaken_init,
    d_NameTaken_init := PySem.W.fnOf "__init__" "NameTaken.__init__" (defArgs s_NameTaken_init) (defBody s_NameTaken_init) (defScope s_NameTaken_init) .none kV_NameTaken_init dc_NameTaken_init pm_NameTaken_init an_NameTaken_init cd_NameTaken_init ct_NameTaken_init,
    f_NotGood_init := f_NotGood_init,
    d_NotGood_init := PySem.W.fnOf "__init__" "NotGood.__init__" (defArgs s_NotGood_init) (defBody s_NotGood_init) (defScope s_NotGood_init) .none kV_NotGood_init dc_NotGood_init pm_NotGood_init an_NotGood_init cd_NotGood_init ct_NotGood_init,
    f_TooSlow_init := f_TooSlow_init,
    d_TooSlow_init := PySem.W.fnOf "__init__" "TooSlow.__init__" (defArgs s_TooSlow_init) (defBody s_TooSlow_init) (defScope s_TooSlow_init) .none kV_TooSlow_init dc_TooSlow_init pm_TooSlow_init an_TooSlow_init cd_TooSlow_init ct_TooSlow_init,
    f_Refused_init := f_Refused_init,
    d_Refused_init := PySem.W.fnOf "__init__" "Refused.__init__" (defArgs s_Refused_init) (defBody s_Refused_init) (defScope s_Refused_init) .none kV_Refused_init dc_Refused_init pm_Refused_init an_Refused_init cd_Refused_init ct_Refused_init,
    f_Overfull_init := f_Overfull_init,
    d_Overfull_init := PySem.W.fnOf "__init__" "Overfull.__init__" (defArgs s_Overfull_init) (defBody s_Overfull_init) (defScope s_Overfull_init) .none kV_Overfull_init dc_Overfull_init pm_Overfull_init an_Overfull_init cd_Overfull_init ct_Overfull_init,
    f_NoSplits_init := f_NoSplits_init,
    d_NoSplits_init := PySem.W.fnOf "__init__" "NoSplits.__init__" (defArgs s_NoSplits_init) (defBody s_NoSplits_init) (defScope s_NoSplits_init) .none kV_NoSplits_init dc_NoSplits_init pm_NoSplits_init an_NoSplits_init cd_NoSplits_init ct_NoSplits_init,
    f_Exposed_init := f_Exposed_init,
    d_Exposed_init := PySem.W.fnOf "__init__" "Exposed.__init__" (defArgs s_Exposed_init) (defBody s_Exposed_init) (defScope s_Exposed_init) .none kV_Exposed_init dc_Exposed_init pm_Exposed_init an_Exposed_init cd_Exposed_init ct_Exposed_init,
    f_NotLate_init := f_NotLate_init,
    d_NotLate_init := PySem.W.fnOf "__init__" "NotLate.__init__" (defArgs s_NotLate_init) (defBody s_NotLate_init) (defScope s_NotLate_init) .none kV_NotLate_init dc_NotLate_init pm_NotLate_init an_NotLate_init cd_NotLate_init ct_NotLate_init,
    f_RunFailed_init := f_RunFailed_init,
    d_RunFailed_init := PySem.W.fnOf "__init__" "RunFailed.__init__" (defArgs s_RunFailed_init) (defBody s_RunFailed_init) (defScope s_RunFailed_init) .none kV_RunFailed_init dc_RunFailed_init pm_RunFailed_init an_RunFailed_init cd_RunFailed_init ct_RunFailed_init,
    f_TooLong_init := f_TooLong_init,
    d_TooLong_init := PySem.W.fnOf "__init__" "TooLong.__init__" (defArgs s_TooLong_init) (defBody s_TooLong_init) (defScope s_TooLong_init) .none kV_TooLong_init dc_TooLong_init pm_TooLong_init an_TooLong_init cd_TooLong_init ct_TooLong_init,
    f_TooMany_init := f_TooMany_init,
    d_TooMany_init := PySem.W.fnOf "__init__" "TooMany.__init__" (defArgs s_TooMany_init) (defBody s_TooMany_init) (defScope s_TooMany_init) .none kV_TooMany_init dc_TooMany_init pm_TooMany_init an_TooMany_init cd_TooMany_init ct_TooMany_init,
    f_l_rng := f_l_rng,
    d_l_rng := PySem.W.fnOf "_law_rng" "_law_rng" (defArgs s_l_rng) (defBody s_l_rng) (defScope s_l_rng) .none kV_l_rng dc_l_rng pm_l_rng an_l_rng cd_l_rng ct_l_rng,
    f_l_draw := f_l_draw,
    d_l_draw := PySem.W.fnOf "_law_draw" "_law_draw" (defArgs s_l_draw) (defBody s_l_draw) (defScope s_l_draw) .none kV_l_draw dc_l_draw pm_l_draw an_l_draw cd_l_draw ct_l_draw,
    f_l_thing := f_l_thing,
    d_l_thing := PySem.W.fnOf "_law_thing" "_law_thing" (defArgs s_l_thing) (defBody s_l_thing) (defScope s_l_thing) .none kV_l_thing dc_l_thing pm_l_thing an_l_thing cd_l_thing ct_l_thing,
    f_l_ones := f_l_ones,
    d_l_ones := PySem.W.fnOf "_law_ones" "_law_ones" (defArgs s_l_ones) (defBody s_l_ones) (defScope s_l_ones) .none kV_l_ones dc_l_ones pm_l_ones an_l_ones cd_l_ones ct_l_ones,
    f_l_ones_by_place := f_l_ones_by_place,
    d_l_ones_by_place := PySem.W.fnOf "_law_ones_by_place" "_law_ones_by_place" (defArgs s_l_ones_by_place) (defBody s_l_ones_by_place) (defScope s_l_ones_by_place) .none kV_l_ones_by_place dc_l_ones_by_place pm_l_ones_by_place an_l_ones_by_place cd_l_ones_by_place ct_l_ones_by_place,
    f_l_told := f_l_told,
    d_l_told := PySem.W.fnOf "_law_told" "_law_told" (defArgs s_l_told) (defBody s_l_told) (defScope s_l_told) .none kV_l_told dc_l_told pm_l_told an_l_told cd_l_told ct_l_told,
    f_l_more := f_l_more,
    d_l_more := PySem.W.fnOf "_law_more" "_law_more" (defArgs s_l_more) (defBody s_l_more) (defScope s_l_more) .none kV_l_more dc_l_more pm_l_more an_l_more cd_l_more ct_l_more,
    f_l_parts := f_l_parts,
    d_l_parts := PySem.W.fnOf "_law_parts" "_law_parts" (defArgs s_l_parts) (defBody s_l_parts) (defScope s_l_parts) .none kV_l_parts dc_l_parts pm_l_parts an_l_parts cd_l_parts ct_l_parts,
    f_l_classes := f_l_classes,
    d_l_classes := PySem.W.fnOf "_law_classes" "_law_classes" (defArgs s_l_classes) (defBody s_l_classes) (defScope s_l_classes) .none kV_l_classes dc_l_classes pm_l_classes an_l_classes cd_l_classes ct_l_classes,
    f_l_base := f_l_base,
    d_l_base := PySem.W.fnOf "_law_base" "_law_base" (defArgs s_l_base) (defBody s_l_base) (defScope s_l_base) .none kV_l_base dc_l_base pm_l_base an_l_base cd_l_base ct_l_base,
    f_l_is_of := f_l_is_of,
    d_l_is_of := PySem.W.fnOf "_law_is_of" "_law_is_of" (defArgs s_l_is_of) (defBody s_l_is_of) (defScope s_l_is_of) .none kV_l_is_of dc_l_is_of pm_l_is_of an_l_is_of cd_l_is_of ct_l_is_of,
    f_l_right := f_l_right,
    d_l_right := PySem.W.fnOf "_law_right" "_law_right" (defArgs s_l_right) (defBody s_l_right) (defScope s_l_right) .none kV_l_right dc_l_right pm_l_right an_l_right cd_l_right ct_l_right,
    f_law := fa,
    d_law := PySem.W.fnOf "law" "law" (defArgs s_law) (defBody s_law) (defScope s_law) .none kV_law dc_law pm_law an_law cd_law ct_law }
  have T : Txt K mg A := {
    e_InvalidCurve := ⟨PySem.W.mg_of X G g_InvalidCurve, ⟨VX.isC hd_InvalidCurve, ga_InvalidCurve, gt_InvalidCurve, xe_InvalidCurve, cc_InvalidCurve, q_gn, q_tk, mr_InvalidCurve⟩, ⟨ga_InvalidCurve, gt_InvalidCurve, xe_InvalidCurve, hd_InvalidCurve⟩, cd_InvalidCurve, ty_InvalidCurve⟩,
    i_InvalidCurve := ⟨⟨⟨_, _, _, _, VX.bsV, xi_InvalidCurve, xo_InvalidCurve⟩, hd_InvalidCurve, sa_InvalidCurve, xe_InvalidCurve, ty_InvalidCurve, kc_InvalidCurve⟩, a_InvalidCurve_init, tI_InvalidCurve, fs2 n_InvalidCurve_problem n_InvalidCurve_position⟩,
    e_InvalidPiece := ⟨PySem.W.mg_of X G g_InvalidPiece, ⟨VX.isC hd_InvalidPiece, ga_InvalidPiece, gt_InvalidPiece, xe_InvalidPiece, cc_InvalidPiece, q_gn, q_tk, mr_InvalidPiece⟩, ⟨ga_InvalidPiece, gt_InvalidPiece, xe_InvalidPiece, hd_InvalidPiece⟩, cd_InvalidPiece, ty_InvalidPiece⟩,
    i_InvalidPiece := ⟨⟨⟨_, _, _, _, VX.bsV, xi_InvalidPiece, xo_InvalidPiece⟩, hd_InvalidPiece, sa_InvalidPiece, xe_InvalidPiece, ty_InvalidPiece, kc_InvalidPiece⟩, a_InvalidPiece_init, tI_InvalidPiece, fs1 n_InvalidPiece_position⟩,
    e_InvalidLength := ⟨PySem.W.mg_of X G g_InvalidLength, ⟨VX.isC hd_InvalidLength, ga_InvalidLength, gt_InvalidLength, xe_InvalidLength, cc_InvalidLength, q_gn, q_tk, mr_InvalidLength⟩, ⟨ga_InvalidLength, gt_InvalidLength, xe_InvalidLength, hd_InvalidLength⟩, cd_InvalidLength, ty_InvalidLength⟩,
    i_InvalidLength := ⟨⟨⟨_, _, _, _, VX.bsV, xi_InvalidLength, xo_InvalidLength⟩, hd_InvalidLength, sa_InvalidLength, xe_InvalidLength, ty_InvalidLength, kc_InvalidLength⟩, a_InvalidLength_init, tI_InvalidLength, fs1 n_InvalidLength_value⟩,
    e_InvalidCount := ⟨PySem.W.mg_of X G g_InvalidCount, ⟨VX.isC hd_InvalidCount, ga_InvalidCount, gt_InvalidCount, xe_InvalidCount, cc_InvalidCount, q_gn, q_tk, mr_InvalidCount⟩, ⟨ga_InvalidCount, gt_InvalidCount, xe_InvalidCount, hd_InvalidCount⟩, cd_InvalidCount, ty_InvalidCount⟩,
    i_InvalidCount := ⟨⟨⟨_, _, _, _, VX.bsV, xi_InvalidCount, xo_InvalidCount⟩, hd_InvalidCount, sa_InvalidCount, xe_InvalidCount, ty_InvalidCount, kc_InvalidCount⟩, a_InvalidCount_init, tI_InvalidCount, fs1 n_InvalidCount_value⟩,
    e_InvalidRecord := ⟨PySem.W.mg_of X G g_InvalidRecord, ⟨VX.isC hd_InvalidRecord, ga_InvalidRecord, gt_InvalidRecord, xe_InvalidRecord, cc_InvalidRecord, q_gn, q_tk, mr_InvalidRecord⟩, ⟨ga_InvalidRecord, gt_InvalidRecord, xe_InvalidRecord, hd_InvalidRecord⟩, cd_InvalidRecord, ty_InvalidRecord⟩,
    i_InvalidRecord := ⟨⟨⟨_, _, _, _, VX.bsV, xi_InvalidRecord, xo_InvalidRecord⟩, hd_InvalidRecord, sa_InvalidRecord, xe_InvalidRecord, ty_InvalidRecord, kc_InvalidRecord⟩, a_InvalidRecord_init, tI_InvalidRecord, fs1 n_InvalidRecord_position⟩,
    e_InvalidVisit := ⟨PySem.W.mg_of X G g_InvalidVisit, ⟨VX.isC hd_InvalidVisit, ga_InvalidVisit, gt_InvalidVisit, xe_InvalidVisit, cc_InvalidVisit, q_gn, q_tk, mr_InvalidVisit⟩, ⟨ga_InvalidVisit, gt_InvalidVisit, xe_InvalidVisit, hd_InvalidVisit⟩, cd_InvalidVisit, ty_InvalidVisit⟩,
    i_InvalidVisit := ⟨⟨⟨_, _, _, _, VX.bsV, xi_InvalidVisit, xo_InvalidVisit⟩, hd_InvalidVisit, sa_InvalidVisit, xe_InvalidVisit, ty_InvalidVisit, kc_InvalidVisit⟩, a_InvalidVisit_init, tI_InvalidVisit, fs1 n_InvalidVisit_problem⟩,
    e_InvalidVisits := ⟨PySem.W.mg_of X G g_InvalidVisits, ⟨VX.isC hd_InvalidVisits, ga_InvalidVisits, gt_InvalidVisits, xe_InvalidVisits, cc_InvalidVisits, q_gn, q_tk, mr_InvalidVisits⟩, ⟨ga_InvalidVisits, gt_InvalidVisits, xe_InvalidVisits, hd_InvalidVisits⟩, cd_InvalidVisits, ty_InvalidVisits⟩,
    i_InvalidVisits := ⟨⟨⟨_, _, _, _, VX.bsV, xi_InvalidVisits, xo_InvalidVisits⟩, hd_InvalidVisits, sa_InvalidVisits, xe_InvalidVisits, ty_InvalidVisits, kc_InvalidVisits⟩, a_InvalidVisits_init, tI_InvalidVisits, fs1 n_InvalidVisits_position⟩,
    e_InvalidSupply := ⟨PySem.W.mg_of X G g_InvalidSupply, ⟨VX.isC hd_InvalidSupply, ga_InvalidSupply, gt_InvalidSupply, xe_InvalidSupply, cc_InvalidSupply, q_gn, q_tk, mr_InvalidSupply⟩, ⟨ga_InvalidSupply, gt_InvalidSupply, xe_InvalidSupply, hd_InvalidSupply⟩, cd_InvalidSupply, ty_InvalidSupply⟩,
    i_InvalidSupply := ⟨⟨⟨_, _, _, _, VX.bsV, xi_InvalidSupply, xo_InvalidSupply⟩, hd_InvalidSupply, sa_InvalidSupply, xe_InvalidSupply, ty_InvalidSupply, kc_InvalidSupply⟩, a_InvalidSupply_init, tI_InvalidSupply, fs1 n_InvalidSupply_position⟩,
    e_InvalidWindow := ⟨PySem.W.mg_of X G g_InvalidWindow, ⟨VX.isC hd_InvalidWindow, ga_InvalidWindow, gt_InvalidWindow, xe_InvalidWindow, cc_InvalidWindow, q_gn, q_tk, mr_InvalidWindow⟩, ⟨ga_InvalidWindow, gt_InvalidWindow, xe_InvalidWindow, hd_InvalidWindow⟩, cd_InvalidWindow, ty_InvalidWindow⟩,
    i_InvalidWindow := ⟨⟨⟨_, _, _, _, VX.bsV, xi_InvalidWindow, xo_InvalidWindow⟩, hd_InvalidWindow, sa_InvalidWindow, xe_InvalidWindow, ty_InvalidWindow, kc_InvalidWindow⟩, a_InvalidWindow_init, tI_InvalidWindow, fs1 n_InvalidWindow_value⟩,
    e_InvalidStation := ⟨PySem.W.mg_of X G g_InvalidStation, ⟨VX.isC hd_InvalidStation, ga_InvalidStation, gt_InvalidStation, xe_InvalidStation, cc_InvalidStation, q_gn, q_tk, mr_InvalidStation⟩, ⟨ga_InvalidStation, gt_InvalidStation, xe_InvalidStation, hd_InvalidStation⟩, cd_InvalidStation, ty_InvalidStation⟩,
    i_InvalidStation := ⟨⟨⟨_, _, _, _, VX.bsV, xi_InvalidStation, xo_InvalidStation⟩, hd_InvalidStation, sa_InvalidStation, xe_InvalidStation, ty_InvalidStation, kc_InvalidStation⟩, a_InvalidStation_init, tI_InvalidStation, fs1 n_InvalidStation_problem⟩,
    e_InvalidNetwork := ⟨PySem.W.mg_of X G g_InvalidNetwork, ⟨VX.isC hd_InvalidNetwork, ga_InvalidNetwork, gt_InvalidNetwork, xe_InvalidNetwork, cc_InvalidNetwork, q_gn, q_tk, mr_InvalidNetwork⟩, ⟨ga_InvalidNetwork, gt_InvalidNetwork, xe_InvalidNetwork, hd_InvalidNetwork⟩, cd_InvalidNetwork, ty_InvalidNetwork⟩,
    i_InvalidNetwork := ⟨⟨⟨_, _, _, _, VX.bsV, xi_InvalidNetwork, xo_InvalidNetwork⟩, hd_InvalidNetwork, sa_InvalidNetwork, xe_InvalidNetwork, ty_InvalidNetwork, kc_InvalidNetwork⟩, a_InvalidNetwork_init, tI_InvalidNetwork, fs2 n_InvalidNetwork_problem n_InvalidNetwork_position⟩,
    e_InvalidName := ⟨PySem.W.mg_of X G g_InvalidName, ⟨VX.isC hd_InvalidName, ga_InvalidName, gt_InvalidName, xe_InvalidName, cc_InvalidName, q_gn, q_tk, mr_InvalidName⟩, ⟨ga_InvalidName, gt_InvalidName, xe_InvalidName, hd_InvalidName⟩, cd_InvalidName, ty_InvalidName⟩,
    i_InvalidName := ⟨⟨⟨_, _, _, _, VX.bsV, xi_InvalidName, xo_InvalidName⟩, hd_InvalidName, sa_InvalidName, xe_InvalidName, ty_InvalidName, kc_InvalidName⟩, a_InvalidName_init, tI_InvalidName, fs1 n_InvalidName_value⟩,
    e_InvalidPath := ⟨PySem.W.mg_of X G g_InvalidPath, ⟨VX.isC hd_InvalidPath, ga_InvalidPath, gt_InvalidPath, xe_InvalidPath, cc_InvalidPath, q_gn, q_tk, mr_InvalidPath⟩, ⟨ga_InvalidPath, gt_InvalidPath, xe_InvalidPath, hd_InvalidPath⟩, cd_InvalidPath, ty_InvalidPath⟩,
    i_InvalidPath := ⟨⟨⟨_, _, _, _, VX.bsV, xi_InvalidPath, xo_InvalidPath⟩, hd_InvalidPath, sa_InvalidPath, xe_InvalidPath, ty_InvalidPath, kc_InvalidPath⟩, a_InvalidPath_init, tI_InvalidPath, fs1 n_InvalidPath_position⟩,
    e_InvalidSplit := ⟨PySem.W.mg_of X G g_InvalidSplit, ⟨VX.isC hd_InvalidSplit, ga_InvalidSplit, gt_InvalidSplit, xe_InvalidSplit, cc_InvalidSplit, q_gn, q_tk, mr_InvalidSplit⟩, ⟨ga_InvalidSplit, gt_InvalidSplit, xe_InvalidSplit, hd_InvalidSplit⟩, cd_InvalidSplit, ty_InvalidSplit⟩,
    i_InvalidSplit := ⟨⟨⟨_, _, _, _, VX.bsV, xi_InvalidSplit, xo_InvalidSplit⟩, hd_InvalidSplit, sa_InvalidSplit, xe_InvalidSplit, ty_InvalidSplit, kc_InvalidSplit⟩, a_InvalidSplit_init, tI_InvalidSplit, fs1 n_InvalidSplit_position⟩,
    e_InvalidTime := ⟨PySem.W.mg_of X G g_InvalidTime, ⟨VX.isC hd_InvalidTime, ga_InvalidTime, gt_InvalidTime, xe_InvalidTime, cc_InvalidTime, q_gn, q_tk, mr_InvalidTime⟩, ⟨ga_InvalidTime, gt_InvalidTime, xe_InvalidTime, hd_InvalidTime⟩, cd_InvalidTime, ty_InvalidTime⟩,
    i_InvalidTime := ⟨⟨⟨_, _, _, _, VX.bsV, xi_InvalidTime, xo_InvalidTime⟩, hd_InvalidTime, sa_InvalidTime, xe_InvalidTime, ty_InvalidTime, kc_InvalidTime⟩, a_InvalidTime_init, tI_InvalidTime, fs1 n_InvalidTime_value⟩,
    e_InvalidTick := ⟨PySem.W.mg_of X G g_InvalidTick, ⟨VX.isC hd_InvalidTick, ga_InvalidTick, gt_InvalidTick, xe_InvalidTick, cc_InvalidTick, q_gn, q_tk, mr_InvalidTick⟩, ⟨ga_InvalidTick, gt_InvalidTick, xe_InvalidTick, hd_InvalidTick⟩, cd_InvalidTick, ty_InvalidTick⟩,
    i_InvalidTick := ⟨⟨⟨_, _, _, _, VX.bsV, xi_InvalidTick, xo_InvalidTick⟩, hd_InvalidTick, sa_InvalidTick, xe_InvalidTick, ty_InvalidTick, kc_InvalidTick⟩, a_InvalidTick_init, tI_InvalidTick, fs1 n_InvalidTick_value⟩,
    e_InvalidFault := ⟨PySem.W.mg_of X G g_InvalidFault, ⟨VX.isC hd_InvalidFault, ga_InvalidFault, gt_InvalidFault, xe_InvalidFault, cc_InvalidFault, q_gn, q_tk, mr_InvalidFault⟩, ⟨ga_InvalidFault, gt_InvalidFault, xe_InvalidFault, hd_InvalidFault⟩, cd_InvalidFault, ty_InvalidFault⟩,
    i_InvalidFault := ⟨⟨⟨_, _, _, _, VX.bsV, xi_InvalidFault, xo_InvalidFault⟩, hd_InvalidFault, sa_InvalidFault, xe_InvalidFault, ty_InvalidFault, kc_InvalidFault⟩, a_InvalidFault_init, tI_InvalidFault, fs1 n_InvalidFault_problem⟩,
    e_InvalidFaults := ⟨PySem.W.mg_of X G g_InvalidFaults, ⟨VX.isC hd_InvalidFaults, ga_InvalidFaults, gt_InvalidFaults, xe_InvalidFaults, cc_InvalidFaults, q_gn, q_tk, mr_InvalidFaults⟩, ⟨ga_InvalidFaults, gt_InvalidFaults, xe_InvalidFaults, hd_InvalidFaults⟩, cd_InvalidFaults, ty_InvalidFaults⟩,
    i_InvalidFaults := ⟨⟨⟨_, _, _, _, VX.bsV, xi_InvalidFaults, xo_InvalidFaults⟩, hd_InvalidFaults, sa_InvalidFaults, xe_InvalidFaults, ty_InvalidFaults, kc_InvalidFaults⟩, a_InvalidFaults_init, tI_InvalidFaults, fs1 n_InvalidFaults_position⟩,
    e_InvalidHanded := ⟨PySem.W.mg_of X G g_InvalidHanded, ⟨VX.isC hd_InvalidHanded, ga_InvalidHanded, gt_InvalidHanded, xe_InvalidHanded, cc_InvalidHanded, q_gn, q_tk, mr_InvalidHanded⟩, ⟨ga_InvalidHanded, gt_InvalidHanded, xe_InvalidHanded, hd_InvalidHanded⟩, cd_InvalidHanded, ty_InvalidHanded⟩,
    b_InvalidHanded := ⟨xn_InvalidHanded, kc_InvalidHanded⟩,
    e_InvalidBook := ⟨PySem.W.mg_of X G g_InvalidBook, ⟨VX.isC hd_InvalidBook, ga_InvalidBook, gt_InvalidBook, xe_InvalidBook, cc_InvalidBook, q_gn, q_tk, mr_InvalidBook⟩, ⟨ga_InvalidBook, gt_InvalidBook, xe_InvalidBook, hd_InvalidBook⟩, cd_InvalidBook, ty_InvalidBook⟩,
    b_InvalidBook := ⟨xn_InvalidBook, kc_InvalidBook⟩,
    e_InvalidWeights := ⟨PySem.W.mg_of X G g_InvalidWeights, ⟨VX.isC hd_InvalidWeights, ga_InvalidWeights, gt_InvalidWeights, xe_InvalidWeights, cc_InvalidWeights, q_gn, q_tk, mr_InvalidWeights⟩, ⟨ga_InvalidWeights, gt_InvalidWeights, xe_InvalidWeights, hd_InvalidWeights⟩, cd_InvalidWeights, ty_InvalidWeights⟩,
    b_InvalidWeights := ⟨xn_InvalidWeights, kc_InvalidWeights⟩,
    e_InvalidText := ⟨PySem.W.mg_of X G g_InvalidText, ⟨VX.isC hd_InvalidText, ga_InvalidText, gt_InvalidText, xe_InvalidText, cc_InvalidText, q_gn, q_tk, mr_InvalidText⟩, ⟨ga_InvalidText, gt_InvalidText, xe_InvalidText, hd_InvalidText⟩, cd_InvalidText, ty_InvalidText⟩,
    i_InvalidText := ⟨⟨⟨_, _, _, _, VX.bsV, xi_InvalidText, xo_InvalidText⟩, hd_InvalidText, sa_InvalidText, xe_InvalidText, ty_InvalidText, kc_InvalidText⟩, a_InvalidText_init, tI_InvalidText, fs1 n_InvalidText_line⟩,
    e_InvalidCommand := ⟨PySem.W.mg_of X G g_InvalidCommand, ⟨VX.isC hd_InvalidCommand, ga_InvalidCommand, gt_InvalidCommand, xe_InvalidCommand, cc_InvalidCommand, q_gn, q_tk, mr_InvalidCommand⟩, ⟨ga_InvalidCommand, gt_InvalidCommand, xe_InvalidCommand, hd_InvalidCommand⟩, cd_InvalidCommand, ty_InvalidCommand⟩,
    i_InvalidCommand := ⟨⟨⟨_, _, _, _, VX.bsV, xi_InvalidCommand, xo_InvalidCommand⟩, hd_InvalidCommand, sa_InvalidCommand, xe_InvalidCommand, ty_InvalidCommand, kc_InvalidCommand⟩, a_InvalidCommand_init, tI_InvalidCommand, fs1 n_InvalidCommand_value⟩,
    e_UnknownStation := ⟨PySem.W.mg_of X G g_UnknownStation, ⟨VX.isC hd_UnknownStation, ga_UnknownStation, gt_UnknownStation, xe_UnknownStation, cc_UnknownStation, q_gn, q_tk, mr_UnknownStation⟩, ⟨ga_UnknownStation, gt_UnknownStation, xe_UnknownStation, hd_UnknownStation⟩, cd_UnknownStation, ty_UnknownStation⟩,
    i_UnknownStation := ⟨⟨⟨_, _, _, _, VX.bsL, xi_UnknownStation, xo_UnknownStation⟩, hd_UnknownStation, sa_UnknownStation, xe_UnknownStation, ty_UnknownStation, kc_UnknownStation⟩, a_UnknownStation_init, tI_UnknownStation, fs1 n_UnknownStation_value⟩,
    e_UnknownStream := ⟨PySem.W.mg_of X G g_UnknownStream, ⟨VX.isC hd_UnknownStream, ga_UnknownStream, gt_UnknownStream, xe_UnknownStream, cc_UnknownStream, q_gn, q_tk, mr_UnknownStream⟩, ⟨ga_UnknownStream, gt_UnknownStream, xe_UnknownStream, hd_UnknownStream⟩, cd_UnknownStream, ty_UnknownStream⟩,
    i_UnknownStream := ⟨⟨⟨_, _, _, _, VX.bsL, xi_UnknownStream, xo_UnknownStream⟩, hd_UnknownStream, sa_UnknownStream, xe_UnknownStream, ty_UnknownStream, kc_UnknownStream⟩, a_UnknownStream_init, tI_UnknownStream, fs1 n_UnknownStream_value⟩,
    e_UnknownUnit := ⟨PySem.W.mg_of X G g_UnknownUnit, ⟨VX.isC hd_UnknownUnit, ga_UnknownUnit, gt_UnknownUnit, xe_UnknownUnit, cc_UnknownUnit, q_gn, q_tk, mr_UnknownUnit⟩, ⟨ga_UnknownUnit, gt_UnknownUnit, xe_UnknownUnit, hd_UnknownUnit⟩, cd_UnknownUnit, ty_UnknownUnit⟩,
    i_UnknownUnit := ⟨⟨⟨_, _, _, _, VX.bsL, xi_UnknownUnit, xo_UnknownUnit⟩, hd_UnknownUnit, sa_UnknownUnit, xe_UnknownUnit, ty_UnknownUnit, kc_UnknownUnit⟩, a_UnknownUnit_init, tI_UnknownUnit, fs1 n_UnknownUnit_value⟩,
    e_NoLink := ⟨PySem.W.mg_of X G g_NoLink, ⟨VX.isC hd_NoLink, ga_NoLink, gt_NoLink, xe_NoLink, cc_NoLink, q_gn, q_tk, mr_NoLink⟩, ⟨ga_NoLink, gt_NoLink, xe_NoLink, hd_NoLink⟩, cd_NoLink, ty_NoLink⟩,
    i_NoLink := ⟨⟨⟨_, _, _, _, VX.bsL, xi_NoLink, xo_NoLink⟩, hd_NoLink, sa_NoLink, xe_NoLink, ty_NoLink, kc_NoLink⟩, a_NoLink_init, tI_NoLink, fs2 n_NoLink_source n_NoLink_target⟩,
    e_NameTaken := ⟨PySem.W.mg_of X G g_NameTaken, ⟨VX.isC hd_NameTaken, ga_NameTaken, gt_NameTaken, xe_NameTaken, cc_NameTaken, q_gn, q_tk, mr_NameTaken⟩, ⟨ga_NameTaken, gt_NameTaken, xe_NameTaken, hd_NameTaken⟩, cd_NameTaken, ty_NameTaken⟩,
    i_NameTaken := ⟨⟨⟨_, _, _, _, VX.bsR, xi_NameTaken, xo_NameTaken⟩, hd_NameTaken, sa_NameTaken, xe_NameTaken, ty_NameTaken, kc_NameTaken⟩, a_NameTaken_init, tI_NameTaken, fs1 n_NameTaken_taken⟩,
    e_NotGood := ⟨PySem.W.mg_of X G g_NotGood, ⟨VX.isC hd_NotGood, ga_NotGood, gt_NotGood, xe_NotGood, cc_NotGood, q_gn, q_tk, mr_NotGood⟩, ⟨ga_NotGood, gt_NotGood, xe_NotGood, hd_NotGood⟩, cd_NotGood, ty_NotGood⟩,
    i_NotGood := ⟨⟨⟨_, _, _, _, VX.bsR, xi_NotGood, xo_NotGood⟩, hd_NotGood, sa_NotGood, xe_NotGood, ty_NotGood, kc_NotGood⟩, a_NotGood_init, tI_NotGood, fs2 n_NotGood_first n_NotGood_second⟩,
    e_TooSlow := ⟨PySem.W.mg_of X G g_TooSlow, ⟨VX.isC hd_TooSlow, ga_TooSlow, gt_TooSlow, xe_TooSlow, cc_TooSlow, q_gn, q_tk, mr_TooSlow⟩, ⟨ga_TooSlow, gt_TooSlow, xe_TooSlow, hd_TooSlow⟩, cd_TooSlow, ty_TooSlow⟩,
    i_TooSlow := ⟨⟨⟨_, _, _, _, VX.bsR, xi_TooSlow, xo_TooSlow⟩, hd_TooSlow, sa_TooSlow, xe_TooSlow, ty_TooSlow, kc_TooSlow⟩, a_TooSlow_init, tI_TooSlow, fs1 n_TooSlow_total⟩,
    e_Refused := ⟨PySem.W.mg_of X G g_Refused, ⟨VX.isC hd_Refused, ga_Refused, gt_Refused, xe_Refused, cc_Refused, q_gn, q_tk, mr_Refused⟩, ⟨ga_Refused, gt_Refused, xe_Refused, hd_Refused⟩, cd_Refused, ty_Refused⟩,
    i_Refused := ⟨⟨⟨_, _, _, _, VX.bsR, xi_Refused, xo_Refused⟩, hd_Refused, sa_Refused, xe_Refused, ty_Refused, kc_Refused⟩, a_Refused_init, tI_Refused, fs1 n_Refused_refusal⟩,
    e_Overfull := ⟨PySem.W.mg_of X G g_Overfull, ⟨VX.isC hd_Overfull, ga_Overfull, gt_Overfull, xe_Overfull, cc_Overfull, q_gn, q_tk, mr_Overfull⟩, ⟨ga_Overfull, gt_Overfull, xe_Overfull, hd_Overfull⟩, cd_Overfull, ty_Overfull⟩,
    i_Overfull := ⟨⟨⟨_, _, _, _, VX.bsR, xi_Overfull, xo_Overfull⟩, hd_Overfull, sa_Overfull, xe_Overfull, ty_Overfull, kc_Overfull⟩, a_Overfull_init, tI_Overfull, fs2 n_Overfull_at_station n_Overfull_window⟩,
    e_NotPlain := ⟨PySem.W.mg_of X G g_NotPlain, ⟨VX.isC hd_NotPlain, ga_NotPlain, gt_NotPlain, xe_NotPlain, cc_NotPlain, q_gn, q_tk, mr_NotPlain⟩, ⟨ga_NotPlain, gt_NotPlain, xe_NotPlain, hd_NotPlain⟩, cd_NotPlain, ty_NotPlain⟩,
    b_NotPlain := ⟨xn_NotPlain, kc_NotPlain⟩,
    e_HasReserves := ⟨PySem.W.mg_of X G g_HasReserves, ⟨VX.isC hd_HasReserves, ga_HasReserves, gt_HasReserves, xe_HasReserves, cc_HasReserves, q_gn, q_tk, mr_HasReserves⟩, ⟨ga_HasReserves, gt_HasReserves, xe_HasReserves, hd_HasReserves⟩, cd_HasReserves, ty_HasReserves⟩,
    b_HasReserves := ⟨xn_HasReserves, kc_HasReserves⟩,
    e_NoSplits := ⟨PySem.W.mg_of X G g_NoSplits, ⟨VX.isC hd_NoSplits, ga_NoSplits, gt_NoSplits, xe_NoSplits, cc_NoSplits, q_gn, q_tk, mr_NoSplits⟩, ⟨ga_NoSplits, gt_NoSplits, xe_NoSplits, hd_NoSplits⟩, cd_NoSplits, ty_NoSplits⟩,
    i_NoSplits := ⟨⟨⟨_, _, _, _, VX.bsR, xi_NoSplits, xo_NoSplits⟩, hd_NoSplits, sa_NoSplits, xe_NoSplits, ty_NoSplits, kc_NoSplits⟩, a_NoSplits_init, tI_NoSplits, fs1 n_NoSplits_cases⟩,
    e_Exposed := ⟨PySem.W.mg_of X G g_Exposed, ⟨VX.isC hd_Exposed, ga_Exposed, gt_Exposed, xe_Exposed, cc_Exposed, q_gn, q_tk, mr_Exposed⟩, ⟨ga_Exposed, gt_Exposed, xe_Exposed, hd_Exposed⟩, cd_Exposed, ty_Exposed⟩,
    i_Exposed := ⟨⟨⟨_, _, _, _, VX.bsR, xi_Exposed, xo_Exposed⟩, hd_Exposed, sa_Exposed, xe_Exposed, ty_Exposed, kc_Exposed⟩, a_Exposed_init, tI_Exposed, fs1 n_Exposed_danger⟩,
    e_NotLate := ⟨PySem.W.mg_of X G g_NotLate, ⟨VX.isC hd_NotLate, ga_NotLate, gt_NotLate, xe_NotLate, cc_NotLate, q_gn, q_tk, mr_NotLate⟩, ⟨ga_NotLate, gt_NotLate, xe_NotLate, hd_NotLate⟩, cd_NotLate, ty_NotLate⟩,
    i_NotLate := ⟨⟨⟨_, _, _, _, VX.bsR, xi_NotLate, xo_NotLate⟩, hd_NotLate, sa_NotLate, xe_NotLate, ty_NotLate, kc_NotLate⟩, a_NotLate_init, tI_NotLate, fs1 n_NotLate_value⟩,
    e_RunFailed := ⟨PySem.W.mg_of X G g_RunFailed, ⟨VX.isC hd_RunFailed, ga_RunFailed, gt_RunFailed, xe_RunFailed, cc_RunFailed, q_gn, q_tk, mr_RunFailed⟩, ⟨ga_RunFailed, gt_RunFailed, xe_RunFailed, hd_RunFailed⟩, cd_RunFailed, ty_RunFailed⟩,
    i_RunFailed := ⟨⟨⟨_, _, _, _, VX.bsR, xi_RunFailed, xo_RunFailed⟩, hd_RunFailed, sa_RunFailed, xe_RunFailed, ty_RunFailed, kc_RunFailed⟩, a_RunFailed_init, tI_RunFailed, fs2 n_RunFailed_position n_RunFailed_results⟩,
    e_TooLong := ⟨PySem.W.mg_of X G g_TooLong, ⟨VX.isC hd_TooLong, ga_TooLong, gt_TooLong, xe_TooLong, cc_TooLong, q_gn, q_tk, mr_TooLong⟩, ⟨ga_TooLong, gt_TooLong, xe_TooLong, hd_TooLong⟩, cd_TooLong, ty_TooLong⟩,
    i_TooLong := ⟨⟨⟨_, _, _, _, VX.bsA, xi_TooLong, xo_TooLong⟩, hd_TooLong, sa_TooLong, xe_TooLong, ty_TooLong, kc_TooLong⟩, a_TooLong_init, tI_TooLong, fs1 n_TooLong_limit⟩,
    e_TooMany := ⟨PySem.W.mg_of X G g_TooMany, ⟨VX.isC hd_TooMany, ga_TooMany, gt_TooMany, xe_TooMany, cc_TooMany, q_gn, q_tk, mr_TooMany⟩, ⟨ga_TooMany, gt_TooMany, xe_TooMany, hd_TooMany⟩, cd_TooMany, ty_TooMany⟩,
    i_TooMany := ⟨⟨⟨_, _, _, _, VX.bsA, xi_TooMany, xo_TooMany⟩, hd_TooMany, sa_TooMany, xe_TooMany, ty_TooMany, kc_TooMany⟩, a_TooMany_init, tI_TooMany, fs1 n_TooMany_limit⟩,
    e_DueError := ⟨PySem.W.mg_of X G g_DueError, ⟨VX.isC hd_DueError, ga_DueError, gt_DueError, xe_DueError, cc_DueError, q_gn, q_tk, mr_DueError⟩, ⟨ga_DueError, gt_DueError, xe_DueError, hd_DueError⟩, cd_DueError, ty_DueError⟩,
    b_DueError := ⟨xn_DueError, kc_DueError⟩,
    F_InvalidCurve_init := fun_mk (st := s_InvalidCurve_init) l_InvalidCurve_init c_InvalidCurve_init k_InvalidCurve_init,
    b_InvalidCurve_init := ((fun_mk (st := s_InvalidCurve_init) l_InvalidCurve_init c_InvalidCurve_init k_InvalidCurve_init).binds (ps := ["self", "problem", "position"]) fun _ _ _ _ _ _ us hl => match us, hl with | [_, _, _], _ => rfl),
    F_InvalidPiece_init := fun_mk (st := s_InvalidPiece_init) l_InvalidPiece_init c_InvalidPiece_init k_InvalidPiece_init,
    b_InvalidPiece_init := ((fun_mk (st := s_InvalidPiece_init) l_InvalidPiece_init c_InvalidPiece_init k_InvalidPiece_init).binds (ps := ["self", "position"]) fun _ _ _ _ _ _ us hl => match us, hl with | [_, _], _ => rfl),
    F_InvalidLength_init := fun_mk (st := s_InvalidLength_init) l_InvalidLength_init c_InvalidLength_init k_InvalidLength_init,
    b_InvalidLength_init := ((fun_mk (st := s_InvalidLength_init) l_InvalidLength_init c_InvalidLength_init k_InvalidLength_init).binds (ps := ["self", "value"]) fun _ _ _ _ _ _ us hl => match us, hl with | [_, _], _ => rfl),
    F_InvalidCount_init := fun_mk (st := s_InvalidCount_init) l_InvalidCount_init c_InvalidCount_init k_InvalidCount_init,
    b_InvalidCount_init := ((fun_mk (st := s_InvalidCount_init) l_InvalidCount_init c_InvalidCount_init k_InvalidCount_init).binds (ps := ["self", "value"]) fun _ _ _ _ _ _ us hl => match us, hl with | [_, _], _ => rfl),
    F_InvalidRecord_init := fun_mk (st := s_InvalidRecord_init) l_InvalidRecord_init c_InvalidRecord_init k_InvalidRecord_init,
    b_InvalidRecord_init := ((fun_mk (st := s_InvalidRecord_init) l_InvalidRecord_init c_InvalidRecord_init k_InvalidRecord_init).binds (ps := ["self", "position"]) fun _ _ _ _ _ _ us hl => match us, hl with | [_, _], _ => rfl),
    F_InvalidVisit_init := fun_mk (st := s_InvalidVisit_init) l_InvalidVisit_init c_InvalidVisit_init k_InvalidVisit_init,
    b_InvalidVisit_init := ((fun_mk (st := s_InvalidVisit_init) l_InvalidVisit_init c_InvalidVisit_init k_InvalidVisit_init).binds (ps := ["self", "problem"]) fun _ _ _ _ _ _ us hl => match us, hl with | [_, _], _ => rfl),
    F_InvalidVisits_init := fun_mk (st := s_InvalidVisits_init) l_InvalidVisits_init c_InvalidVisits_init k_InvalidVisits_init,
    b_InvalidVisits_init := ((fun_mk (st := s_InvalidVisits_init) l_InvalidVisits_init c_InvalidVisits_init k_InvalidVisits_init).binds (ps := ["self", "position"]) fun _ _ _ _ _ _ us hl => match us, hl with | [_, _], _ => rfl),
    F_InvalidSupply_init := fun_mk (st := s_InvalidSupply_init) l_InvalidSupply_init c_InvalidSupply_init k_InvalidSupply_init,
    b_InvalidSupply_init := ((fun_mk (st := s_InvalidSupply_init) l_InvalidSupply_init c_InvalidSupply_init k_InvalidSupply_init).binds (ps := ["self", "position"]) fun _ _ _ _ _ _ us hl => match us, hl with | [_, _], _ => rfl),
    F_InvalidWindow_init := fun_mk (st := s_InvalidWindow_init) l_InvalidWindow_init c_InvalidWindow_init k_InvalidWindow_init,
    b_InvalidWindow_init := ((fun_mk (st := s_InvalidWindow_init) l_InvalidWindow_init c_InvalidWindow_init k_InvalidWindow_init).binds (ps := ["self", "value"]) fun _ _ _ _ _ _ us hl => match us, hl with | [_, _], _ => rfl),
    F_InvalidStation_init := fun_mk (st := s_InvalidStation_init) l_InvalidStation_init c_InvalidStation_init k_InvalidStation_init,
    b_InvalidStation_init := ((fun_mk (st := s_InvalidStation_init) l_InvalidStation_init c_InvalidStation_init k_InvalidStation_init).binds (ps := ["self", "problem"]) fun _ _ _ _ _ _ us hl => match us, hl with | [_, _], _ => rfl),
    F_InvalidNetwork_init := fun_mk (st := s_InvalidNetwork_init) l_InvalidNetwork_init c_InvalidNetwork_init k_InvalidNetwork_init,
    b_InvalidNetwork_init := ((fun_mk (st := s_InvalidNetwork_init) l_InvalidNetwork_init c_InvalidNetwork_init k_InvalidNetwork_init).binds (ps := ["self", "problem", "position"]) fun _ _ _ _ _ _ us hl => match us, hl with | [_, _, _], _ => rfl),
    F_InvalidName_init := fun_mk (st := s_InvalidName_init) l_InvalidName_init c_InvalidName_init k_InvalidName_init,
    b_InvalidName_init := ((fun_mk (st := s_InvalidName_init) l_InvalidName_init c_InvalidName_init k_InvalidName_init).binds (ps := ["self", "value"]) fun _ _ _ _ _ _ us hl => match us, hl with | [_, _], _ => rfl),
    F_InvalidPath_init := fun_mk (st := s_InvalidPath_init) l_InvalidPath_init c_InvalidPath_init k_InvalidPath_init,
    b_InvalidPath_init := ((fun_mk (st := s_InvalidPath_init) l_InvalidPath_init c_InvalidPath_init k_InvalidPath_init).binds (ps := ["self", "position"]) fun _ _ _ _ _ _ us hl => match us, hl with | [_, _], _ => rfl),
    F_InvalidSplit_init := fun_mk (st := s_InvalidSplit_init) l_InvalidSplit_init c_InvalidSplit_init k_InvalidSplit_init,
    b_InvalidSplit_init := ((fun_mk (st := s_InvalidSplit_init) l_InvalidSplit_init c_InvalidSplit_init k_InvalidSplit_init).binds (ps := ["self", "position"]) fun _ _ _ _ _ _ us hl => match us, hl with | [_, _], _ => rfl),
    F_InvalidTime_init := fun_mk (st := s_InvalidTime_init) l_InvalidTime_init c_InvalidTime_init k_InvalidTime_init,
    b_InvalidTime_init := ((fun_mk (st := s_InvalidTime_init) l_InvalidTime_init c_InvalidTime_init k_InvalidTime_init).binds (ps := ["self", "value"]) fun _ _ _ _ _ _ us hl => match us, hl with | [_, _], _ => rfl),
    F_InvalidTick_init := fun_mk (st := s_InvalidTick_init) l_InvalidTick_init c_InvalidTick_init k_InvalidTick_init,
    b_InvalidTick_init := ((fun_mk (st := s_InvalidTick_init) l_InvalidTick_init c_InvalidTick_init k_InvalidTick_init).binds (ps := ["self", "value"]) fun _ _ _ _ _ _ us hl => match us, hl with | [_, _], _ => rfl),
    F_InvalidFault_init := fun_mk (st := s_InvalidFault_init) l_InvalidFault_init c_InvalidFault_init k_InvalidFault_init,
    b_InvalidFault_init := ((fun_mk (st := s_InvalidFault_init) l_InvalidFault_init c_InvalidFault_init k_InvalidFault_init).binds (ps := ["self", "problem"]) fun _ _ _ _ _ _ us hl => match us, hl with | [_, _], _ => rfl),
    F_InvalidFaults_init := fun_mk (st := s_InvalidFaults_init) l_InvalidFaults_init c_InvalidFaults_init k_InvalidFaults_init,
    b_InvalidFaults_init := ((fun_mk (st := s_InvalidFaults_init) l_InvalidFaults_init c_InvalidFaults_init k_InvalidFaults_init).binds (ps := ["self", "position"]) fun _ _ _ _ _ _ us hl => match us, hl with | [_, _], _ => rfl),
    F_InvalidText_init := fun_mk (st := s_InvalidText_init) l_InvalidText_init c_InvalidText_init k_InvalidText_init,
    b_InvalidText_init := ((fun_mk (st := s_InvalidText_init) l_InvalidText_init c_InvalidText_init k_InvalidText_init).binds (ps := ["self", "line"]) fun _ _ _ _ _ _ us hl => match us, hl with | [_, _], _ => rfl),
    F_InvalidCommand_init := fun_mk (st := s_InvalidCommand_init) l_InvalidCommand_init c_InvalidCommand_init k_InvalidCommand_init,
    b_InvalidCommand_init := ((fun_mk (st := s_InvalidCommand_init) l_InvalidCommand_init c_InvalidCommand_init k_InvalidCommand_init).binds (ps := ["self", "value"]) fun _ _ _ _ _ _ us hl => match us, hl with | [_, _], _ => rfl),
    F_UnknownStation_init := fun_mk (st := s_UnknownStation_init) l_UnknownStation_init c_UnknownStation_init k_UnknownStation_init,
    b_UnknownStation_init := ((fun_mk (st := s_UnknownStation_init) l_UnknownStation_init c_UnknownStation_init k_UnknownStation_init).binds (ps := ["self", "value"]) fun _ _ _ _ _ _ us hl => match us, hl with | [_, _], _ => rfl),
    F_UnknownStream_init := fun_mk (st := s_UnknownStream_init) l_UnknownStream_init c_UnknownStream_init k_UnknownStream_init,
    b_UnknownStream_init := ((fun_mk (st := s_UnknownStream_init) l_UnknownStream_init c_UnknownStream_init k_UnknownStream_init).binds (ps := ["self", "value"]) fun _ _ _ _ _ _ us hl => match us, hl with | [_, _], _ => rfl),
    F_UnknownUnit_init := fun_mk (st := s_UnknownUnit_init) l_UnknownUnit_init c_UnknownUnit_init k_UnknownUnit_init,
    b_UnknownUnit_init := ((fun_mk (st := s_UnknownUnit_init) l_UnknownUnit_init c_UnknownUnit_init k_UnknownUnit_init).binds (ps := ["self", "value"]) fun _ _ _ _ _ _ us hl => match us, hl with | [_, _], _ => rfl),
    F_NoLink_init := fun_mk (st := s_NoLink_init) l_NoLink_init c_NoLink_init k_NoLink_init,
    b_NoLink_init := ((fun_mk (st := s_NoLink_init) l_NoLink_init c_NoLink_init k_NoLink_init).binds (ps := ["self", "source", "target"]) fun _ _ _ _ _ _ us hl => match us, hl with | [_, _, _], _ => rfl),
    F_NameTaken_init := fun_mk (st := s_NameTaken_init) l_NameTaken_init c_NameTaken_init k_NameTaken_init,
    b_NameTaken_init := ((fun_mk (st := s_NameTaken_init) l_NameTaken_init c_NameTaken_init k_NameTaken_init).binds (ps := ["self", "taken"]) fun _ _ _ _ _ _ us hl => match us, hl with | [_, _], _ => rfl),
    F_NotGood_init := fun_mk (st := s_NotGood_init) l_NotGood_init c_NotGood_init k_NotGood_init,
    b_NotGood_init := ((fun_mk (st := s_NotGood_init) l_NotGood_init c_NotGood_init k_NotGood_init).binds (ps := ["self", "first", "second"]) fun _ _ _ _ _ _ us hl => match us, hl with | [_, _, _], _ => rfl),
    F_TooSlow_init := fun_mk (st := s_TooSlow_init) l_TooSlow_init c_TooSlow_init k_TooSlow_init,
    b_TooSlow_init := ((fun_mk (st := s_TooSlow_init) l_TooSlow_init c_TooSlow_init k_TooSlow_init).binds (ps := ["self", "total"]) fun _ _ _ _ _ _ us hl => match us, hl with | [_, _], _ => rfl),
    F_Refused_init := fun_mk (st := s_Refused_init) l_Refused_init c_Refused_init k_Refused_init,
    b_Refused_init := ((fun_mk (st := s_Refused_init) l_Refused_init c_Refused_init k_Refused_init).binds (ps := ["self", "refusal"]) fun _ _ _ _ _ _ us hl => match us, hl with | [_, _], _ => rfl),
    F_Overfull_init := fun_mk (st := s_Overfull_init) l_Overfull_init c_Overfull_init k_Overfull_init,
    b_Overfull_init := ((fun_mk (st := s_Overfull_init) l_Overfull_init c_Overfull_init k_Overfull_init).binds (ps := ["self", "at_station", "window"]) fun _ _ _ _ _ _ us hl => match us, hl with | [_, _, _], _ => rfl),
    F_NoSplits_init := fun_mk (st := s_NoSplits_init) l_NoSplits_init c_NoSplits_init k_NoSplits_init,
    b_NoSplits_init := ((fun_mk (st := s_NoSplits_init) l_NoSplits_init c_NoSplits_init k_NoSplits_init).binds (ps := ["self", "cases"]) fun _ _ _ _ _ _ us hl => match us, hl with | [_, _], _ => rfl),
    F_Exposed_init := fun_mk (st := s_Exposed_init) l_Exposed_init c_Exposed_init k_Exposed_init,
    b_Exposed_init := ((fun_mk (st := s_Exposed_init) l_Exposed_init c_Exposed_init k_Exposed_init).binds (ps := ["self", "danger"]) fun _ _ _ _ _ _ us hl => match us, hl with | [_, _], _ => rfl),
    F_NotLate_init := fun_mk (st := s_NotLate_init) l_NotLate_init c_NotLate_init k_NotLate_init,
    b_NotLate_init := ((fun_mk (st := s_NotLate_init) l_NotLate_init c_NotLate_init k_NotLate_init).binds (ps := ["self", "value"]) fun _ _ _ _ _ _ us hl => match us, hl with | [_, _], _ => rfl),
    F_RunFailed_init := fun_mk (st := s_RunFailed_init) l_RunFailed_init c_RunFailed_init k_RunFailed_init,
    b_RunFailed_init := ((fun_mk (st := s_RunFailed_init) l_RunFailed_init c_RunFailed_init k_RunFailed_init).binds (ps := ["self", "position", "results"]) fun _ _ _ _ _ _ us hl => match us, hl with | [_, _, _], _ => rfl),
    F_TooLong_init := fun_mk (st := s_TooLong_init) l_TooLong_init c_TooLong_init k_TooLong_init,
    b_TooLong_init := ((fun_mk (st := s_TooLong_init) l_TooLong_init c_TooLong_init k_TooLong_init).binds (ps := ["self", "limit"]) fun _ _ _ _ _ _ us hl => match us, hl with | [_, _], _ => rfl),
    F_TooMany_init := fun_mk (st := s_TooMany_init) l_TooMany_init c_TooMany_init k_TooMany_init,
    b_TooMany_init := ((fun_mk (st := s_TooMany_init) l_TooMany_init c_TooMany_init k_TooMany_init).binds (ps := ["self", "limit"]) fun _ _ _ _ _ _ us hl => match us, hl with | [_, _], _ => rfl),
    F_l_rng := fun_mk (st := s_l_rng) l_l_rng c_l_rng k_l_rng,
    m_l_rng := PySem.W.mg_of X G a_l_rng,
    k_l_rng := k_l_rng,
    b_l_rng := ((fun_mk (st := s_l_rng) l_l_rng c_l_rng k_l_rng).binds (ps := ["_law_script", "_law_k"]) fun _ _ _ _ _ _ us hl => match us, hl with | [_, _], _ => rfl),
    F_l_draw := fun_mk (st := s_l_draw) l_l_draw c_l_draw k_l_draw,
    m_l_draw := PySem.W.mg_of X G a_l_draw,
    k_l_draw := k_l_draw,
    b_l_draw := ((fun_mk (st := s_l_draw) l_l_draw c_l_draw k_l_draw).binds (ps := ["_law_rng_here", "_law_many"]) fun _ _ _ _ _ _ us hl => match us, hl with | [_, _], _ => rfl),
    F_l_thing := fun_mk (st := s_l_thing) l_l_thing c_l_thing k_l_thing,
    m_l_thing := PySem.W.mg_of X G a_l_thing,
    k_l_thing := k_l_thing,
    b_l_thing := ((fun_mk (st := s_l_thing) l_l_thing c_l_thing k_l_thing).binds (ps := ["_law_rng_here"]) fun _ _ _ _ _ _ us hl => match us, hl with | [_], _ => rfl),
    F_l_ones := fun_mk (st := s_l_ones) l_l_ones c_l_ones k_l_ones,
    m_l_ones := PySem.W.mg_of X G a_l_ones,
    k_l_ones := k_l_ones,
    b_l_ones := ((fun_mk (st := s_l_ones) l_l_ones c_l_ones k_l_ones).binds (ps := ["_law_thing_here"]) fun _ _ _ _ _ _ us hl => match us, hl with | [_], _ => rfl),
    F_l_ones_by_place := fun_mk (st := s_l_ones_by_place) l_l_ones_by_place c_l_ones_by_place k_l_ones_by_place,
    m_l_ones_by_place := PySem.W.mg_of X G a_l_ones_by_place,
    k_l_ones_by_place := k_l_ones_by_place,
    b_l_ones_by_place := ((fun_mk (st := s_l_ones_by_place) l_l_ones_by_place c_l_ones_by_place k_l_ones_by_place).binds (ps := ["_law_thing_here"]) fun _ _ _ _ _ _ us hl => match us, hl with | [_], _ => rfl),
    F_l_told := fun_mk (st := s_l_told) l_l_told c_l_told k_l_told,
    m_l_told := PySem.W.mg_of X G a_l_told,
    k_l_told := k_l_told,
    b_l_told := ((fun_mk (st := s_l_told) l_l_told c_l_told k_l_told).binds (ps := ["_law_e"]) fun _ _ _ _ _ _ us hl => match us, hl with | [_], _ => rfl),
    F_l_more := fun_mk (st := s_l_more) l_l_more c_l_more k_l_more,
    m_l_more := PySem.W.mg_of X G a_l_more,
    k_l_more := k_l_more,
    b_l_more := ((fun_mk (st := s_l_more) l_l_more c_l_more k_l_more).binds (ps := ["_law_one", "_law_other"]) fun _ _ _ _ _ _ us hl => match us, hl with | [_, _], _ => rfl),
    F_l_parts := fun_mk (st := s_l_parts) l_l_parts c_l_parts k_l_parts,
    m_l_parts := PySem.W.mg_of X G a_l_parts,
    k_l_parts := k_l_parts,
    b_l_parts := ((fun_mk (st := s_l_parts) l_l_parts c_l_parts k_l_parts).binds (ps := ["_law_e"]) fun _ _ _ _ _ _ us hl => match us, hl with | [_], _ => rfl),
    F_l_classes := fun_mk (st := s_l_classes) l_l_classes c_l_classes k_l_classes,
    m_l_classes := PySem.W.mg_of X G a_l_classes,
    k_l_classes := k_l_classes,
    b_l_classes := ((fun_mk (st := s_l_classes) l_l_classes c_l_classes k_l_classes).binds (ps := ["_law_e"]) fun _ _ _ _ _ _ us hl => match us, hl with | [_], _ => rfl),
    F_l_base := fun_mk (st := s_l_base) l_l_base c_l_base k_l_base,
    m_l_base := PySem.W.mg_of X G a_l_base,
    k_l_base := k_l_base,
    b_l_base := ((fun_mk (st := s_l_base) l_l_base c_l_base k_l_base).binds (ps := ["_law_e"]) fun _ _ _ _ _ _ us hl => match us, hl with | [_], _ => rfl),
    F_l_is_of := fun_mk (st := s_l_is_of) l_l_is_of c_l_is_of k_l_is_of,
    m_l_is_of := PySem.W.mg_of X G a_l_is_of,
    k_l_is_of := k_l_is_of,
    b_l_is_of := ((fun_mk (st := s_l_is_of) l_l_is_of c_l_is_of k_l_is_of).binds (ps := ["_law_e", "_law_word"]) fun _ _ _ _ _ _ us hl => match us, hl with | [_, _], _ => rfl),
    F_l_right := fun_mk (st := s_l_right) l_l_right c_l_right k_l_right,
    m_l_right := PySem.W.mg_of X G a_l_right,
    k_l_right := k_l_right,
    b_l_right := ((fun_mk (st := s_l_right) l_l_right c_l_right k_l_right).binds (ps := ["_law_rng_here"]) fun _ _ _ _ _ _ us hl => match us, hl with | [_], _ => rfl),
    F_law := fun_mk (st := s_law) l_law c_law k_law,
    m_law := PySem.W.mg_of X G a_law,
    k_law := k_law,
    b_law := ((fun_mk (st := s_law) l_law c_law k_law).binds (ps := ["_law_script"]) fun _ _ _ _ _ _ us hl => match us, hl with | [_], _ => rfl),
    ArithmeticError := PySem.W.mg_none_of X G z_ArithmeticError,
    IndexError := PySem.W.mg_none_of X G z_IndexError,
    KeyError := PySem.W.mg_none_of X G z_KeyError,
    LookupError := PySem.W.mg_none_of X G z_LookupError,
    OverflowError := PySem.W.mg_none_of X G z_OverflowError,
    RuntimeError := PySem.W.mg_none_of X G z_RuntimeError,
    ValueError := PySem.W.mg_none_of X G z_ValueError,
    ZeroDivisionError := PySem.W.mg_none_of X G z_ZeroDivisionError,
    abs := PySem.W.mg_none_of X G z_abs,
    all := PySem.W.mg_none_of X G z_all,
    divmod := PySem.W.mg_none_of X G z_divmod,
    enumerate := PySem.W.mg_none_of X G z_enumerate,
    int := PySem.W.mg_none_of X G z_int,
    isinstance := PySem.W.mg_none_of X G z_isinstance,
    len := PySem.W.mg_none_of X G z_len,
    max := PySem.W.mg_none_of X G z_max,
    min := PySem.W.mg_none_of X G z_min,
    range := PySem.W.mg_none_of X G z_range,
    repr := PySem.W.mg_none_of X G z_repr,
    sorted := PySem.W.mg_none_of X G z_sorted,
    zip := PySem.W.mg_none_of X G z_zip,
    ndup := ndup }
  exact ⟨_, fun s v => .of_eq rfl, fun base _ _ => ok_law (P := l.prog) (w := w) (base := base) T⟩
end VK

open PySem PySem.W PyProof.Rows in
set_option maxRecDepth 100000 in
set_option maxHeartbeats 0 in
theorem PySem.Challenge.cw_dueways_k19_errors_holds : PySem.Challenge.rw_dueways_k19_errors.Holds := by
  refine VHd.hd ?_
  k_fill
  refine VG.walkG (n := 63) (k := 5) (x := "_law_script") (CX := fun _ => L2.CX0) (sp := fun w => VK.spL _) rfl (by decide) rfl ⟨rfl, by decide, by decide⟩ (fun w h Y => PySem.W.kIn_of Y) ?F (fun _ _ a ns hl _ hS => ⟨a, ns, rfl, hS, hl, fun _ => rfl⟩) fun _ _ _ _ _ z => z
  case F =>
    intro w mg fa h KX G hmg
    refine' VK.all_mk KX G hmg ?g_InvalidCurve ?hd_InvalidCurve ?xe_InvalidCurve ?ty_InvalidCurve ?kc_InvalidCurve ?ga_InvalidCurve ?gt_InvalidCurve ?cc_InvalidCurve ?mr_InvalidCurve ?cd_InvalidCurve ?q_gn ?q_tk ?xi_InvalidCurve ?xo_InvalidCurve ?sa_InvalidCurve ?n_InvalidCurve_problem ?n_InvalidCurve_position ?g_InvalidPiece ?hd_InvalidPiece ?xe_InvalidPiece ?ty_InvalidPiece ?kc_InvalidPiece ?ga_InvalidPiece ?gt_InvalidPiece ?cc_InvalidPiece ?mr_InvalidPiece ?cd_InvalidPiece ?xi_InvalidPiece ?xo_InvalidPiece ?sa_InvalidPiece ?n_InvalidPiece_position ?g_InvalidLength ?hd_InvalidLength ?xe_InvalidLength ?ty_InvalidLength ?kc_InvalidLength ?ga_InvalidLength ?gt_InvalidLength ?cc_InvalidLength ?mr_InvalidLength ?cd_InvalidLength ?xi_InvalidLength ?xo_InvalidLength ?sa_InvalidLength ?n_InvalidLength_value ?g_InvalidCount ?hd_InvalidCount ?xe_InvalidCount ?ty_InvalidCount ?kc_InvalidCount ?ga_InvalidCount ?gt_InvalidCount ?cc_InvalidCount ?mr_InvalidCount ?cd_InvalidCount ?xi_InvalidCount ?xo_InvalidCount ?sa_InvalidCount ?n_InvalidCount_value ?g_InvalidRecord ?hd_InvalidRecord ?xe_InvalidRecord ?ty_InvalidRecord ?kc_InvalidRecord ?ga_InvalidRecord ?gt_InvalidRecord ?cc_InvalidRecord ?mr_InvalidRecord ?cd_InvalidRecord ?xi_InvalidRecord ?xo_InvalidRecord ?sa_InvalidRecord ?n_InvalidRecord_position ?g_InvalidVisit ?hd_InvalidVisit ?xe_InvalidVisit ?ty_InvalidVisit ?kc_InvalidVisit ?ga_InvalidVisit ?gt_InvalidVisit ?cc_InvalidVisit ?mr_InvalidVisit ?cd_InvalidVisit ?xi_InvalidVisit ?xo_InvalidVisit ?sa_InvalidVisit ?n_InvalidVisit_problem ?g_InvalidVisits ?hd_InvalidVisits ?xe_InvalidVisits ?ty_InvalidVisits ?kc_InvalidVisits ?ga_InvalidVisits ?gt_InvalidVisits ?cc_InvalidVisits ?mr_InvalidVisits ?cd_InvalidVisits ?xi_InvalidVisits ?xo_InvalidVisits ?sa_InvalidVisits ?n_InvalidVisits_position ?g_InvalidSupply ?hd_InvalidSupply ?xe_InvalidSupply ?ty_InvalidSupply ?kc_InvalidSupply ?ga_InvalidSupply ?gt_InvalidSupply ?cc_InvalidSupply ?mr_InvalidSupply ?cd_InvalidSupply ?xi_InvalidSupply ?xo_InvalidSupply ?sa_InvalidSupply ?n_InvalidSupply_position ?g_InvalidWindow ?hd_InvalidWindow ?xe_InvalidWindow ?ty_InvalidWindow ?kc_InvalidWindow ?ga_InvalidWindow ?gt_InvalidWindow ?cc_InvalidWindow ?mr_InvalidWindow ?cd_InvalidWindow ?xi_InvalidWindow ?xo_InvalidWindow ?sa_InvalidWindow ?n_InvalidWindow_value ?g_InvalidStation ?hd_InvalidStation ?xe_InvalidStation ?ty_InvalidStation ?kc_InvalidStation ?ga_InvalidStation ?gt_InvalidStation ?cc_InvalidStation ?mr_InvalidStation ?cd_InvalidStation ?xi_InvalidStation ?xo_InvalidStation ?sa_InvalidStation ?n_InvalidStation_problem ?g_InvalidNetwork ?hd_InvalidNetwork ?xe_InvalidNetwork ?ty_InvalidNetwork ?kc_InvalidNetwork ?ga_InvalidNetwork ?gt_InvalidNetwork ?cc_InvalidNetwork ?mr_InvalidNetwork ?cd_InvalidNetwork ?xi_InvalidNetwork ?xo_InvalidNetwork ?sa_InvalidNetwork ?n_InvalidNetwork_problem ?n_InvalidNetwork_position ?g_InvalidName ?hd_InvalidName ?xe_InvalidName ?ty_InvalidName ?kc_InvalidName ?ga_InvalidName ?gt_InvalidName ?cc_InvalidName ?mr_InvalidName ?cd_InvalidName ?xi_InvalidName ?xo_InvalidName ?sa_InvalidName ?n_InvalidName_value ?g_InvalidPath ?hd_InvalidPath ?xe_InvalidPath ?ty_InvalidPath ?kc_InvalidPath ?ga_InvalidPath ?gt_InvalidPath ?cc_InvalidPath ?mr_InvalidPath ?cd_InvalidPath ?xi_InvalidPath ?xo_InvalidPath ?sa_InvalidPath ?n_InvalidPath_position ?g_InvalidSplit ?hd_InvalidSplit ?xe_InvalidSplit ?ty_InvalidSplit ?kc_InvalidSplit ?ga_InvalidSplit ?gt_InvalidSplit ?cc_InvalidSplit ?mr_InvalidSplit ?cd_InvalidSplit ?xi_InvalidSplit ?xo_InvalidSplit ?sa_InvalidSplit ?n_InvalidSplit_position ?g_InvalidTime ?hd_InvalidTime ?xe_InvalidTime ?ty_InvalidTime ?kc_InvalidTime ?ga_InvalidTime ?gt_InvalidTime ?cc_InvalidTime ?mr_InvalidTime ?cd_InvalidTime ?xi_InvalidTime ?xo_InvalidTime ?sa_InvalidTime ?n_InvalidTime_value ?g_InvalidTick ?hd_InvalidTick ?xe_InvalidTick ?ty_InvalidTick ?kc_InvalidTick ?ga_InvalidTick ?gt_InvalidTick ?cc_InvalidTick ?mr_InvalidTick ?cd_InvalidTick ?xi_InvalidTick ?xo_InvalidTick ?sa_InvalidTick ?n_InvalidTick_value ?g_InvalidFault ?hd_InvalidFault ?xe_InvalidFault ?ty_InvalidFault ?kc_InvalidFault ?ga_InvalidFault ?gt_InvalidFault ?cc_InvalidFault ?mr_InvalidFault ?cd_InvalidFault ?xi_InvalidFault ?xo_InvalidFault ?sa_InvalidFault ?n_InvalidFault_problem ?g_InvalidFaults ?hd_InvalidFaults ?xe_InvalidFaults ?ty_InvalidFaults ?kc_InvalidFaults ?ga_InvalidFaults ?gt_InvalidFaults ?cc_InvalidFaults ?mr_InvalidFaults ?cd_InvalidFaults ?xi_InvalidFaults ?xo_InvalidFaults ?sa_InvalidFaults ?n_InvalidFaults_position ?g_InvalidHanded ?hd_InvalidHanded ?xe_InvalidHanded ?ty_InvalidHanded ?kc_InvalidHanded ?ga_InvalidHanded ?gt_InvalidHanded ?cc_InvalidHanded ?mr_InvalidHanded ?cd_InvalidHanded ?xn_InvalidHanded ?g_InvalidBook ?hd_InvalidBook ?xe_InvalidBook ?ty_InvalidBook ?kc_InvalidBook ?ga_InvalidBook ?gt_InvalidBook ?cc_InvalidBook ?mr_InvalidBook ?cd_InvalidBook ?xn_InvalidBook ?g_InvalidWeights ?hd_InvalidWeights ?xe_InvalidWeights ?ty_InvalidWeights ?kc_InvalidWeights ?ga_InvalidWeights ?gt_InvalidWeights ?cc_InvalidWeights ?mr_InvalidWeights ?cd_InvalidWeights ?xn_InvalidWeights ?g_InvalidText ?hd_InvalidText ?xe_InvalidText ?ty_InvalidText ?kc_InvalidText ?ga_InvalidText ?gt_InvalidText ?cc_InvalidText ?mr_InvalidText ?cd_InvalidText ?xi_InvalidText ?xo_InvalidText ?sa_InvalidText ?n_InvalidText_line ?g_InvalidCommand ?hd_InvalidCommand ?xe_InvalidCommand ?ty_InvalidCommand ?kc_InvalidCommand ?ga_InvalidCommand ?gt_InvalidCommand ?cc_InvalidCommand ?mr_InvalidCommand ?cd_InvalidCommand ?xi_InvalidCommand ?xo_InvalidCommand ?sa_InvalidCommand ?n_InvalidCommand_value ?g_UnknownStation ?hd_UnknownStation ?xe_UnknownStation ?ty_UnknownStation ?kc_UnknownStation ?ga_UnknownStation ?gt_UnknownStation ?cc_UnknownStation ?mr_UnknownStation ?cd_UnknownStation ?xi_UnknownStation ?xo_UnknownStation ?sa_UnknownStation ?n_UnknownStation_value ?g_UnknownStream ?hd_UnknownStream ?xe_UnknownStream ?ty_UnknownStream ?kc_UnknownStream ?ga_UnknownStream ?gt_UnknownStream ?cc_UnknownStream ?mr_UnknownStream ?cd_UnknownStream ?xi_UnknownStream ?xo_UnknownStream ?sa_UnknownStream ?n_UnknownStream_value ?g_UnknownUnit ?hd_UnknownUnit ?xe_UnknownUnit ?ty_UnknownUnit ?kc_UnknownUnit ?ga_UnknownUnit ?gt_UnknownUnit ?cc_UnknownUnit ?mr_UnknownUnit ?cd_UnknownUnit ?xi_UnknownUnit ?xo_UnknownUnit ?sa_UnknownUnit ?n_UnknownUnit_value ?g_NoLink ?hd_NoLink ?xe_NoLink ?ty_NoLink ?kc_NoLink ?ga_NoLink ?gt_NoLink ?cc_NoLink ?mr_NoLink ?cd_NoLink ?xi_NoLink ?xo_NoLink ?sa_NoLink ?n_NoLink_source ?n_NoLink_target ?g_NameTaken ?hd_NameTaken ?xe_NameTaken ?ty_NameTaken ?kc_NameTaken ?ga_NameTaken ?gt_NameTaken ?cc_NameTaken ?mr_NameTaken ?cd_NameTaken ?xi_NameTaken ?xo_NameTaken ?sa_NameTaken ?n_NameTaken_taken ?g_NotGood ?hd_NotGood ?xe_NotGood ?ty_NotGood ?kc_NotGood ?ga_NotGood ?gt_NotGood ?cc_NotGood ?mr_NotGood ?cd_NotGood ?xi_NotGood ?xo_NotGood ?sa_NotGood ?n_NotGood_first ?n_NotGood_second ?g_TooSlow ?hd_TooSlow ?xe_TooSlow ?ty_TooSlow ?kc_TooSlow ?ga_TooSlow ?gt_TooSlow ?cc_TooSlow ?mr_TooSlow ?cd_TooSlow ?xi_TooSlow ?xo_TooSlow ?sa_TooSlow ?n_TooSlow_total ?g_Refused ?hd_Refused ?xe_Refused ?ty_Refused ?kc_Refused ?ga_Refused ?gt_Refused ?cc_Refused ?mr_Refused ?cd_Refused ?xi_Refused ?xo_Refused ?sa_Refused ?n_Refused_refusal ?g_Overfull ?hd_Overfull ?xe_Overfull ?ty_Overfull ?kc_Overfull ?ga_Overfull ?gt_Overfull ?cc_Overfull ?mr_Overfull ?cd_Overfull ?xi_Overfull ?xo_Overfull ?sa_Overfull ?n_Overfull_at_station ?n_Overfull_window ?g_NotPlain ?hd_NotPlain ?xe_NotPlain ?ty_NotPlain ?kc_NotPlain ?ga_NotPlain ?gt_NotPlain ?cc_NotPlain ?mr_NotPlain ?cd_NotPlain ?xn_NotPlain ?g_HasReserves ?hd_HasReserves ?xe_HasReserves ?ty_HasReserves ?kc_HasReserves ?ga_HasReserves ?gt_HasReserves ?cc_HasReserves ?mr_HasReserves ?cd_HasReserves ?xn_HasReserves ?g_NoSplits ?hd_NoSplits ?xe_NoSplits ?ty_NoSplits ?kc_NoSplits ?ga_NoSplits ?gt_NoSplits ?cc_NoSplits ?mr_NoSplits ?cd_NoSplits ?xi_NoSplits ?xo_NoSplits ?sa_NoSplits ?n_NoSplits_cases ?g_Exposed ?hd_Exposed ?xe_Exposed ?ty_Exposed ?kc_Exposed ?ga_Exposed ?gt_Exposed ?cc_Exposed ?mr_Exposed ?cd_Exposed ?xi_Exposed ?xo_Exposed ?sa_Exposed ?n_Exposed_danger ?g_NotLate ?hd_NotLate ?xe_NotLate ?ty_NotLate ?kc_NotLate ?ga_NotLate ?gt_NotLate ?cc_NotLate ?mr_NotLate ?cd_NotLate ?xi_NotLate ?xo_NotLate ?sa_NotLate ?n_NotLate_value ?g_RunFailed ?hd_RunFailed ?xe_RunFailed ?ty_RunFailed ?kc_RunFailed ?ga_RunFailed ?gt_RunFailed ?cc_RunFailed ?mr_RunFailed ?cd_RunFailed ?xi_RunFailed ?xo_RunFailed ?sa_RunFailed ?n_RunFailed_position ?n_RunFailed_results ?g_TooLong ?hd_TooLong ?xe_TooLong ?ty_TooLong ?kc_TooLong ?ga_TooLong ?gt_TooLong ?cc_TooLong ?mr_TooLong ?cd_TooLong ?xi_TooLong ?xo_TooLong ?sa_TooLong ?n_TooLong_limit ?g_TooMany ?hd_TooMany ?xe_TooMany ?ty_TooMany ?kc_TooMany ?ga_TooMany ?gt_TooMany ?cc_TooMany ?mr_TooMany ?cd_TooMany ?xi_TooMany ?xo_TooMany ?sa_TooMany ?n_TooMany_limit ?g_DueError ?hd_DueError ?xe_DueError ?ty_DueError ?kc_DueError ?ga_DueError ?gt_DueError ?cc_DueError ?mr_DueError ?cd_DueError ?xn_DueError ?a_InvalidCurve_init ?i_InvalidCurve_init ?l_InvalidCurve_init ?c_InvalidCurve_init ?k_InvalidCurve_init ?tI_InvalidCurve ?a_InvalidPiece_init ?i_InvalidPiece_init ?l_InvalidPiece_init ?c_InvalidPiece_init ?k_InvalidPiece_init ?tI_InvalidPiece ?a_InvalidLength_init ?i_InvalidLength_init ?l_InvalidLength_init ?c_InvalidLength_init ?k_InvalidLength_init ?tI_InvalidLength ?a_InvalidCount_init ?i_InvalidCount_init ?l_InvalidCount_init ?c_InvalidCount_init ?k_InvalidCount_init ?tI_InvalidCount ?a_InvalidRecord_init ?i_InvalidRecord_init ?l_InvalidRecord_init ?c_InvalidRecord_init ?k_InvalidRecord_init ?tI_InvalidRecord ?a_InvalidVisit_init ?i_InvalidVisit_init ?l_InvalidVisit_init ?c_InvalidVisit_init ?k_InvalidVisit_init ?tI_InvalidVisit ?a_InvalidVisits_init ?i_InvalidVisits_init ?l_InvalidVisits_init ?c_InvalidVisits_init ?k_InvalidVisits_init ?tI_InvalidVisits ?a_InvalidSupply_init ?i_InvalidSupply_init ?l_InvalidSupply_init ?c_InvalidSupply_init ?k_InvalidSupply_init ?tI_InvalidSupply ?a_InvalidWindow_init ?i_InvalidWindow_init ?l_InvalidWindow_init ?c_InvalidWindow_init ?k_InvalidWindow_init ?tI_InvalidWindow ?a_InvalidStation_init ?i_InvalidStation_init ?l_InvalidStation_init ?c_InvalidStation_init ?k_InvalidStation_init ?tI_InvalidStation ?a_InvalidNetwork_init ?i_InvalidNetwork_init ?l_InvalidNetwork_init ?c_InvalidNetwork_init ?k_InvalidNetwork_init ?tI_InvalidNetwork ?a_InvalidName_init ?i_InvalidName_init ?l_InvalidName_init ?c_InvalidName_init ?k_InvalidName_init ?tI_InvalidName ?a_InvalidPath_init ?i_InvalidPath_init ?l_InvalidPath_init ?c_InvalidPath_init ?k_InvalidPath_init ?tI_InvalidPath ?a_InvalidSplit_init ?i_InvalidSplit_init ?l_InvalidSplit_init ?c_InvalidSplit_init ?k_InvalidSplit_init ?tI_InvalidSplit ?a_InvalidTime_init ?i_InvalidTime_init ?l_InvalidTime_init ?c_InvalidTime_init ?k_InvalidTime_init ?tI_InvalidTime ?a_InvalidTick_init ?i_InvalidTick_init ?l_InvalidTick_init ?c_InvalidTick_init ?k_InvalidTick_init ?tI_InvalidTick ?a_InvalidFault_init ?i_InvalidFault_init ?l_InvalidFault_init ?c_InvalidFault_init ?k_InvalidFault_init ?tI_InvalidFault ?a_InvalidFaults_init ?i_InvalidFaults_init ?l_InvalidFaults_init ?c_InvalidFaults_init ?k_InvalidFaults_init ?tI_InvalidFaults ?a_InvalidText_init ?i_InvalidText_init ?l_InvalidText_init ?c_InvalidText_init ?k_InvalidText_init ?tI_InvalidText ?a_InvalidCommand_init ?i_InvalidCommand_init ?l_InvalidCommand_init ?c_InvalidCommand_init ?k_InvalidCommand_init ?tI_InvalidCommand ?a_UnknownStation_init ?i_UnknownStation_init ?l_UnknownStation_init ?c_UnknownStation_init ?k_UnknownStation_init ?tI_UnknownStation ?a_UnknownStream_init ?i_UnknownStream_init ?l_UnknownStream_init ?c_UnknownStream_init ?k_UnknownStream_init ?tI_UnknownStream ?a_UnknownUnit_init ?i_UnknownUnit_init ?l_UnknownUnit_init ?c_UnknownUnit_init ?k_UnknownUnit_init ?tI_UnknownUnit ?a_NoLink_init ?i_NoLink_init ?l_NoLink_init ?c_NoLink_init ?k_NoLink_init ?tI_NoLink ?a_NameTaken_init ?i_NameTaken_init ?l_NameTaken_init ?c_NameTaken_init ?k_NameTaken_init ?tI_NameTaken ?a_NotGood_init ?i_NotGood_init ?l_NotGood_init ?c_NotGood_init ?k_NotGood_init ?tI_NotGood ?a_TooSlow_init ?i_TooSlow_init ?l_TooSlow_init ?c_TooSlow_init ?k_TooSlow_init ?tI_TooSlow ?a_Refused_init ?i_Refused_init ?l_Refused_init ?c_Refused_init ?k_Refused_init ?tI_Refused ?a_Overfull_init ?i_Overfull_init ?l_Overfull_init ?c_Overfull_init ?k_Overfull_init ?tI_Overfull ?a_NoSplits_init ?i_NoSplits_init ?l_NoSplits_init ?c_NoSplits_init ?k_NoSplits_init ?tI_NoSplits ?a_Exposed_init ?i_Exposed_init ?l_Exposed_init ?c_Exposed_init ?k_Exposed_init ?tI_Exposed ?a_NotLate_init ?i_NotLate_init ?l_NotLate_init ?c_NotLate_init ?k_NotLate_init ?tI_NotLate ?a_RunFailed_init ?i_RunFailed_init ?l_RunFailed_init ?c_RunFailed_init ?k_RunFailed_init ?tI_RunFailed ?a_TooLong_init ?i_TooLong_init ?l_TooLong_init ?c_TooLong_init ?k_TooLong_init ?tI_TooLong ?a_TooMany_init ?i_TooMany_init ?l_TooMany_init ?c_TooMany_init ?k_TooMany_init ?tI_TooMany ?a_l_rng ?l_l_rng ?c_l_rng ?k_l_rng ?a_l_draw ?l_l_draw ?c_l_draw ?k_l_draw ?a_l_thing ?l_l_thing ?c_l_thing ?k_l_thing ?a_l_ones ?l_l_ones ?c_l_ones ?k_l_ones ?a_l_ones_by_place ?l_l_ones_by_place ?c_l_ones_by_place ?k_l_ones_by_place ?a_l_told ?l_l_told ?c_l_told ?k_l_told ?a_l_more ?l_l_more ?c_l_more ?k_l_more ?a_l_parts ?l_l_parts ?c_l_parts ?k_l_parts ?a_l_classes ?l_l_classes ?c_l_classes ?k_l_classes ?a_l_base ?l_l_base ?c_l_base ?k_l_base ?a_l_is_of ?l_l_is_of ?c_l_is_of ?k_l_is_of ?a_l_right ?l_l_right ?c_l_right ?k_l_right ?a_law ?l_law ?c_law ?k_law ?z_ArithmeticError ?z_IndexError ?z_KeyError ?z_LookupError ?z_OverflowError ?z_RuntimeError ?z_ValueError ?z_ZeroDivisionError ?z_abs ?z_all ?z_divmod ?z_enumerate ?z_int ?z_isinstance ?z_len ?z_max ?z_min ?z_range ?z_repr ?z_sorted ?z_zip ?ndup
    (case g_InvalidCurve => k_is)
    (case hd_InvalidCurve => k_is)
    (case xe_InvalidCurve => k_is)
    (case ty_InvalidCurve => k_is)
    (case kc_InvalidCurve => k_is)
    (case ga_InvalidCurve => k_is)
    (case gt_InvalidCurve => k_is)
    (case cc_InvalidCurve => k_is)
    (case mr_InvalidCurve => k_is)
    (case cd_InvalidCurve => refine' VK.mro_mk ?x1 ?x2; (case x1 => k_is); (case x2 => rfl))
    (case q_gn => k_is)
    (case q_tk => k_is)
    (case xi_InvalidCurve => kx_is)
    (case xo_InvalidCurve => kx_is)
    (case sa_InvalidCurve => k_is)
    (case n_InvalidCurve_problem => k_is)
    (case n_InvalidCurve_position => k_is)
    (case g_InvalidPiece => k_is)
    (case hd_InvalidPiece => k_is)
    (case xe_InvalidPiece => k_is)
    (case ty_InvalidPiece => k_is)
    (case kc_InvalidPiece => k_is)
    (case ga_InvalidPiece => k_is)
    (case gt_InvalidPiece => k_is)
    (case cc_InvalidPiece => k_is)
    (case mr_InvalidPiece => k_is)
    (case cd_InvalidPiece => refine' VK.mro_mk ?x1 ?x2; (case x1 => k_is); (case x2 => rfl))
    (case xi_InvalidPiece => kx_is)
    (case xo_InvalidPiece => kx_is)
    (case sa_InvalidPiece => k_is)
    (case n_InvalidPiece_position => k_is)
    (case g_InvalidLength => k_is)
    (case hd_InvalidLength => k_is)
    (case xe_InvalidLength => k_is)
    (case ty_InvalidLength => k_is)
    (case kc_InvalidLength => k_is)
    (case ga_InvalidLength => k_is)
    (case gt_InvalidLength => k_is)
    (case cc_InvalidLength => k_is)
    (case mr_InvalidLength => k_is)
    (case cd_InvalidLength => refine' VK.mro_mk ?x1 ?x2; (case x1 => k_is); (case x2 => rfl))
    (case xi_InvalidLength => kx_is)
    (case xo_InvalidLength => kx_is)
    (case sa_InvalidLength => k_is)
    (case n_InvalidLength_value => k_is)
    (case g_InvalidCount => k_is)
    (case hd_InvalidCount => k_is)
    (case xe_InvalidCount => k_is)
    (case ty_InvalidCount => k_is)
    (case kc_InvalidCount => k_is)
    (case ga_InvalidCount => k_is)
    (case gt_InvalidCount => k_is)
    (case cc_InvalidCount => k_is)
    (case mr_InvalidCount => k_is)
    (case cd_InvalidCount => refine' VK.mro_mk ?x1 ?x2; (case x1 => k_is); (case x2 => rfl))
    (case xi_InvalidCount => kx_is)
    (case xo_InvalidCount => kx_is)
    (case sa_InvalidCount => k_is)
    (case n_InvalidCount_value => k_is)
    (case g_InvalidRecord => k_is)
    (case hd_InvalidRecord => k_is)
    (case xe_InvalidRecord => k_is)
    (case ty_InvalidRecord => k_is)
    (case kc_InvalidRecord => k_is)
    (case ga_InvalidRecord => k_is)
    (case gt_InvalidRecord => k_is)
    (case cc_InvalidRecord => k_is)
    (case mr_InvalidRecord => k_is)
    (case cd_InvalidRecord => refine' VK.mro_mk ?x1 ?x2; (case x1 => k_is); (case x2 => rfl))
    (case xi_InvalidRecord => kx_is)
    (case xo_InvalidRecord => kx_is)
    (case sa_InvalidRecord => k_is)
    (case n_InvalidRecord_position => k_is)
    (case g_InvalidVisit => k_is)
    (case hd_InvalidVisit => k_is)
    (case xe_InvalidVisit => k_is)
    (case ty_InvalidVisit => k_is)
    (case kc_InvalidVisit => k_is)
    (case ga_InvalidVisit => k_is)
    (case gt_InvalidVisit => k_is)
    (case cc_InvalidVisit => k_is)
    (case mr_InvalidVisit => k_is)
    (case cd_InvalidVisit => refine' VK.mro_mk ?x1 ?x2; (case x1 => k_is); (case x2 => rfl))
    (case xi_InvalidVisit => kx_is)
    (case xo_InvalidVisit => kx_is)
    (case sa_InvalidVisit => k_is)
    (case n_InvalidVisit_problem => k_is)
    (case g_InvalidVisits => k_is)
    (case hd_InvalidVisits => k_is)
    (case xe_InvalidVisits => k_is)
    (case ty_InvalidVisits => k_is)
    (case kc_InvalidVisits => k_is)
    (case ga_InvalidVisits => k_is)
    (case gt_InvalidVisits => k_is)
    (case cc_InvalidVisits => k_is)
    (case mr_InvalidVisits => k_is)
    (case cd_InvalidVisits => refine' VK.mro_mk ?x1 ?x2; (case x1 => k_is); (case x2 => rfl))
    (case xi_InvalidVisits => kx_is)
    (case xo_InvalidVisits => kx_is)
    (case sa_InvalidVisits => k_is)
    (case n_InvalidVisits_position => k_is)
    (case g_InvalidSupply => k_is)
    (case hd_InvalidSupply => k_is)
    (case xe_InvalidSupply => k_is)
    (case ty_InvalidSupply => k_is)
    (case kc_InvalidSupply => k_is)
    (case ga_InvalidSupply => k_is)
    (case gt_InvalidSupply => k_is)
    (case cc_InvalidSupply => k_is)
    (case mr_InvalidSupply => k_is)
    (case cd_InvalidSupply => refine' VK.mro_mk ?x1 ?x2; (case x1 => k_is); (case x2 => rfl))
    (case xi_InvalidSupply => kx_is)
    (case xo_InvalidSupply => kx_is)
    (case sa_InvalidSupply => k_is)
    (case n_InvalidSupply_position => k_is)
    (case g_InvalidWindow => k_is)
    (case hd_InvalidWindow => k_is)
    (case xe_InvalidWindow => k_is)
    (case ty_InvalidWindow => k_is)
    (case kc_InvalidWindow => k_is)
    (case ga_InvalidWindow => k_is)
    (case gt_InvalidWindow => k_is)
    (case cc_InvalidWindow => k_is)
    (case mr_InvalidWindow => k_is)
    (case cd_InvalidWindow => refine' VK.mro_mk ?x1 ?x2; (case x1 => k_is); (case x2 => rfl))
    (case xi_InvalidWindow => kx_is)
    (case xo_InvalidWindow => kx_is)
    (case sa_InvalidWindow => k_is)
    (case n_InvalidWindow_value => k_is)
    (case g_InvalidStation => k_is)
    (case hd_InvalidStation => k_is)
    (case xe_InvalidStation => k_is)
    (case ty_InvalidStation => k_is)
    (case kc_InvalidStation => k_is)
    (case ga_InvalidStation => k_is)
    (case gt_InvalidStation => k_is)
    (case cc_InvalidStation => k_is)
    (case mr_InvalidStation => k_is)
    (case cd_InvalidStation => refine' VK.mro_mk ?x1 ?x2; (case x1 => k_is); (case x2 => rfl))
    (case xi_InvalidStation => kx_is)
    (case xo_InvalidStation => kx_is)
    (case sa_InvalidStation => k_is)
    (case n_InvalidStation_problem => k_is)
    (case g_InvalidNetwork => k_is)
    (case hd_InvalidNetwork => k_is)
    (case xe_InvalidNetwork => k_is)
    (case ty_InvalidNetwork => k_is)
    (case kc_InvalidNetwork => k_is)
    (case ga_InvalidNetwork => k_is)
    (case gt_InvalidNetwork => k_is)
    (case cc_InvalidNetwork => k_is)
    (case mr_InvalidNetwork => k_is)
    (case cd_InvalidNetwork => refine' VK.mro_mk ?x1 ?x2; (case x1 => k_is); (case x2 => rfl))
    (case xi_InvalidNetwork => kx_is)
    (case xo_InvalidNetwork => kx_is)
    (case sa_InvalidNetwork => k_is)
    (case n_InvalidNetwork_problem => k_is)
    (case n_InvalidNetwork_position => k_is)
    (case g_InvalidName => k_is)
    (case hd_InvalidName => k_is)
    (case xe_InvalidName => k_is)
    (case ty_InvalidName => k_is)
    (case kc_InvalidName => k_is)
    (case ga_InvalidName => k_is)
    (case gt_InvalidName => k_is)
    (case cc_InvalidName => k_is)
    (case mr_InvalidName => k_is)
    (case cd_InvalidName => refine' VK.mro_mk ?x1 ?x2; (case x1 => k_is); (case x2 => rfl))
    (case xi_InvalidName => kx_is)
    (case xo_InvalidName => kx_is)
    (case sa_InvalidName => k_is)
    (case n_InvalidName_value => k_is)
    (case g_InvalidPath => k_is)
    (case hd_InvalidPath => k_is)
    (case xe_InvalidPath => k_is)
    (case ty_InvalidPath => k_is)
    (case kc_InvalidPath => k_is)
    (case ga_InvalidPath => k_is)
    (case gt_InvalidPath => k_is)
    (case cc_InvalidPath => k_is)
    (case mr_InvalidPath => k_is)
    (case cd_InvalidPath => refine' VK.mro_mk ?x1 ?x2; (case x1 => k_is); (case x2 => rfl))
    (case xi_InvalidPath => kx_is)
    (case xo_InvalidPath => kx_is)
    (case sa_InvalidPath => k_is)
    (case n_InvalidPath_position => k_is)
    (case g_InvalidSplit => k_is)
    (case hd_InvalidSplit => k_is)
    (case xe_InvalidSplit => k_is)
    (case ty_InvalidSplit => k_is)
    (case kc_InvalidSplit => k_is)
    (case ga_InvalidSplit => k_is)
    (case gt_InvalidSplit => k_is)
    (case cc_InvalidSplit => k_is)
    (case mr_InvalidSplit => k_is)
    (case cd_InvalidSplit => refine' VK.mro_mk ?x1 ?x2; (case x1 => k_is); (case x2 => rfl))
    (case xi_InvalidSplit => kx_is)
    (case xo_InvalidSplit => kx_is)
    (case sa_InvalidSplit => k_is)
    (case n_InvalidSplit_position => k_is)
    (case g_InvalidTime => k_is)
    (case hd_InvalidTime => k_is)
    (case xe_InvalidTime => k_is)
    (case ty_InvalidTime => k_is)
    (case kc_InvalidTime => k_is)
    (case ga_InvalidTime => k_is)
    (case gt_InvalidTime => k_is)
    (case cc_InvalidTime => k_is)
    (case mr_InvalidTime => k_is)
    (case cd_InvalidTime => refine' VK.mro_mk ?x1 ?x2; (case x1 => k_is); (case x2 => rfl))
    (case xi_InvalidTime => kx_is)
    (case xo_InvalidTime => kx_is)
    (case sa_InvalidTime => k_is)
    (case n_InvalidTime_value => k_is)
    (case g_InvalidTick => k_is)
    (case hd_InvalidTick => k_is)
    (case xe_InvalidTick => k_is)
    (case ty_InvalidTick => k_is)
    (case kc_InvalidTick => k_is)
    (case ga_InvalidTick => k_is)
    (case gt_InvalidTick => k_is)
    (case cc_InvalidTick => k_is)
    (case mr_InvalidTick => k_is)
    (case cd_InvalidTick => refine' VK.mro_mk ?x1 ?x2; (case x1 => k_is); (case x2 => rfl))
    (case xi_InvalidTick => kx_is)
    (case xo_InvalidTick => kx_is)
    (case sa_InvalidTick => k_is)
    (case n_InvalidTick_value => k_is)
    (case g_InvalidFault => k_is)
    (case hd_InvalidFault => k_is)
    (case xe_InvalidFault => k_is)
    (case ty_InvalidFault => k_is)
    (case kc_InvalidFault => k_is)
    (case ga_InvalidFault => k_is)
    (case gt_InvalidFault => k_is)
    (case cc_InvalidFault => k_is)
    (case mr_InvalidFault => k_is)
    (case cd_InvalidFault => refine' VK.mro_mk ?x1 ?x2; (case x1 => k_is); (case x2 => rfl))
    (case xi_InvalidFault => kx_is)
    (case xo_InvalidFault => kx_is)
    (case sa_InvalidFault => k_is)
    (case n_InvalidFault_problem => k_is)
    (case g_InvalidFaults => k_is)
    (case hd_InvalidFaults => k_is)
    (case xe_InvalidFaults => k_is)
    (case ty_InvalidFaults => k_is)
    (case kc_InvalidFaults => k_is)
    (case ga_InvalidFaults => k_is)
    (case gt_InvalidFaults => k_is)
    (case cc_InvalidFaults => k_is)
    (case mr_InvalidFaults => k_is)
    (case cd_InvalidFaults => refine' VK.mro_mk ?x1 ?x2; (case x1 => k_is); (case x2 => rfl))
    (case xi_InvalidFaults => kx_is)
    (case xo_InvalidFaults => kx_is)
    (case sa_InvalidFaults => k_is)
    (case n_InvalidFaults_position => k_is)
    (case g_InvalidHanded => k_is)
    (case hd_InvalidHanded => k_is)
    (case xe_InvalidHanded => k_is)
    (case ty_InvalidHanded => k_is)
    (case kc_InvalidHanded => k_is)
    (case ga_InvalidHanded => k_is)
    (case gt_InvalidHanded => k_is)
    (case cc_InvalidHanded => k_is)
    (case mr_InvalidHanded => k_is)
    (case cd_InvalidHanded => refine' VK.mro_mk ?x1 ?x2; (case x1 => k_is); (case x2 => rfl))
    (case xn_InvalidHanded => first | kernel_rfl | kernel_rfl! | rfl)
    (case g_InvalidBook => k_is)
    (case hd_InvalidBook => k_is)
    (case xe_InvalidBook => k_is)
    (case ty_InvalidBook => k_is)
    (case kc_InvalidBook => k_is)
    (case ga_InvalidBook => k_is)
    (case gt_InvalidBook => k_is)
    (case cc_InvalidBook => k_is)
    (case mr_InvalidBook => k_is)
    (case cd_InvalidBook => refine' VK.mro_mk ?x1 ?x2; (case x1 => k_is); (case x2 => rfl))
    (case xn_InvalidBook => first | kernel_rfl | kernel_rfl! | rfl)
    (case g_InvalidWeights => k_is)
    (case hd_InvalidWeights => k_is)
    (case xe_InvalidWeights => k_is)
    (case ty_InvalidWeights => k_is)
    (case kc_InvalidWeights => k_is)
    (case ga_InvalidWeights => k_is)
    (case gt_InvalidWeights => k_is)
    (case cc_InvalidWeights => k_is)
    (case mr_InvalidWeights => k_is)
    (case cd_InvalidWeights => refine' VK.mro_mk ?x1 ?x2; (case x1 => k_is); (case x2 => rfl))
    (case xn_InvalidWeights => first | kernel_rfl | kernel_rfl! | rfl)
    (case g_InvalidText => k_is)
    (case hd_InvalidText => k_is)
    (case xe_InvalidText => k_is)
    (case ty_InvalidText => k_is)
    (case kc_InvalidText => k_is)
    (case ga_InvalidText => k_is)
    (case gt_InvalidText => k_is)
    (case cc_InvalidText => k_is)
    (case mr_InvalidText => k_is)
    (case cd_InvalidText => refine' VK.mro_mk ?x1 ?x2; (case x1 => k_is); (case x2 => rfl))
    (case xi_InvalidText => kx_is)
    (case xo_InvalidText => kx_is)
    (case sa_InvalidText => k_is)
    (case n_InvalidText_line => k_is)
    (case g_InvalidCommand => k_is)
    (case hd_InvalidCommand => k_is)
    (case xe_InvalidCommand => k_is)
    (case ty_InvalidCommand => k_is)
    (case kc_InvalidCommand => k_is)
    (case ga_InvalidCommand => k_is)
    (case gt_InvalidCommand => k_is)
    (case cc_InvalidCommand => k_is)
    (case mr_InvalidCommand => k_is)
    (case cd_InvalidCommand => refine' VK.mro_mk ?x1 ?x2; (case x1 => k_is); (case x2 => rfl))
    (case xi_InvalidCommand => kx_is)
    (case xo_InvalidCommand => kx_is)
    (case sa_InvalidCommand => k_is)
    (case n_InvalidCommand_value => k_is)
    (case g_UnknownStation => k_is)
    (case hd_UnknownStation => k_is)
    (case xe_UnknownStation => k_is)
    (case ty_UnknownStation => k_is)
    (case kc_UnknownStation => k_is)
    (case ga_UnknownStation => k_is)
    (case gt_UnknownStation => k_is)
    (case cc_UnknownStation => k_is)
    (case mr_UnknownStation => k_is)
    (case cd_UnknownStation => refine' VK.mro_mk ?x1 ?x2; (case x1 => k_is); (case x2 => rfl))
    (case xi_UnknownStation => kx_is)
    (case xo_UnknownStation => kx_is)
    (case sa_UnknownStation => k_is)
    (case n_UnknownStation_value => k_is)
    (case g_UnknownStream => k_is)
    (case hd_UnknownStream => k_is)
    (case xe_UnknownStream => k_is)
    (case ty_UnknownStream => k_is)
    (case kc_UnknownStream => k_is)
    (case ga_UnknownStream => k_is)
    (case gt_UnknownStream => k_is)
    (case cc_UnknownStream => k_is)
    (case mr_UnknownStream => k_is)
    (case cd_UnknownStream => refine' VK.mro_mk ?x1 ?x2; (case x1 => k_is); (case x2 => rfl))
    (case xi_UnknownStream => kx_is)
    (case xo_UnknownStream => kx_is)
    (case sa_UnknownStream => k_is)
    (case n_UnknownStream_value => k_is)
    (case g_UnknownUnit => k_is)
    (case hd_UnknownUnit => k_is)
    (case xe_UnknownUnit => k_is)
    (case ty_UnknownUnit => k_is)
    (case kc_UnknownUnit => k_is)
    (case ga_UnknownUnit => k_is)
    (case gt_UnknownUnit => k_is)
    (case cc_UnknownUnit => k_is)
    (case mr_UnknownUnit => k_is)
    (case cd_UnknownUnit => refine' VK.mro_mk ?x1 ?x2; (case x1 => k_is); (case x2 => rfl))
    (case xi_UnknownUnit => kx_is)
    (case xo_UnknownUnit => kx_is)
    (case sa_UnknownUnit => k_is)
    (case n_UnknownUnit_value => k_is)
    (case g_NoLink => k_is)
    (case hd_NoLink => k_is)
    (case xe_NoLink => k_is)
    (case ty_NoLink => k_is)
    (case kc_NoLink => k_is)
    (case ga_NoLink => k_is)
    (case gt_NoLink => k_is)
    (case cc_NoLink => k_is)
    (case mr_NoLink => k_is)
    (case cd_NoLink => refine' VK.mro_mk ?x1 ?x2; (case x1 => k_is); (case x2 => rfl))
    (case xi_NoLink => kx_is)
    (case xo_NoLink => kx_is)
    (case sa_NoLink => k_is)
    (case n_NoLink_source => k_is)
    (case n_NoLink_target => k_is)
    (case g_NameTaken => k_is)
    (case hd_NameTaken => k_is)
    (case xe_NameTaken => k_is)
    (case ty_NameTaken => k_is)
    (case kc_NameTaken => k_is)
    (case ga_NameTaken => k_is)
    (case gt_NameTaken => k_is)
    (case cc_NameTaken => k_is)
    (case mr_NameTaken => k_is)
    (case cd_NameTaken => refine' VK.mro_mk ?x1 ?x2; (case x1 => k_is); (case x2 => rfl))
    (case xi_NameTaken => kx_is)
    (case xo_NameTaken => kx_is)
    (case sa_NameTaken => k_is)
    (case n_NameTaken_taken => k_is)
    (case g_NotGood => k_is)
    (case hd_NotGood => k_is)
    (case xe_NotGood => k_is)
    (case ty_NotGood => k_is)
    (case kc_NotGood => k_is)
    (case ga_NotGood => k_is)
    (case gt_NotGood => k_is)
    (case cc_NotGood => k_is)
    (case mr_NotGood => k_is)
    (case cd_NotGood => refine' VK.mro_mk ?x1 ?x2; (case x1 => k_is); (case x2 => rfl))
    (case xi_NotGood => kx_is)
    (case xo_NotGood => kx_is)
    (case sa_NotGood => k_is)
    (case n_NotGood_first => k_is)
    (case n_NotGood_second => k_is)
    (case g_TooSlow => k_is)
    (case hd_TooSlow => k_is)
    (case xe_TooSlow => k_is)
    (case ty_TooSlow => k_is)
    (case kc_TooSlow => k_is)
    (case ga_TooSlow => k_is)
    (case gt_TooSlow => k_is)
    (case cc_TooSlow => k_is)
    (case mr_TooSlow => k_is)
    (case cd_TooSlow => refine' VK.mro_mk ?x1 ?x2; (case x1 => k_is); (case x2 => rfl))
    (case xi_TooSlow => kx_is)
    (case xo_TooSlow => kx_is)
    (case sa_TooSlow => k_is)
    (case n_TooSlow_total => k_is)
    (case g_Refused => k_is)
    (case hd_Refused => k_is)
    (case xe_Refused => k_is)
    (case ty_Refused => k_is)
    (case kc_Refused => k_is)
    (case ga_Refused => k_is)
    (case gt_Refused => k_is)
    (case cc_Refused => k_is)
    (case mr_Refused => k_is)
    (case cd_Refused => refine' VK.mro_mk ?x1 ?x2; (case x1 => k_is); (case x2 => rfl))
    (case xi_Refused => kx_is)
    (case xo_Refused => kx_is)
    (case sa_Refused => k_is)
    (case n_Refused_refusal => k_is)
    (case g_Overfull => k_is)
    (case hd_Overfull => k_is)
    (case xe_Overfull => k_is)
    (case ty_Overfull => k_is)
    (case kc_Overfull => k_is)
    (case ga_Overfull => k_is)
    (case gt_Overfull => k_is)
    (case cc_Overfull => k_is)
    (case mr_Overfull => k_is)
    (case cd_Overfull => refine' VK.mro_mk ?x1 ?x2; (case x1 => k_is); (case x2 => rfl))
    (case xi_Overfull => kx_is)
    (case xo_Overfull => kx_is)
    (case sa_Overfull => k_is)
    (case n_Overfull_at_station => k_is)
    (case n_Overfull_window => k_is)
    (case g_NotPlain => k_is)
    (case hd_NotPlain => k_is)
    (case xe_NotPlain => k_is)
    (case ty_NotPlain => k_is)
    (case kc_NotPlain => k_is)
    (case ga_NotPlain => k_is)
    (case gt_NotPlain => k_is)
    (case cc_NotPlain => k_is)
    (case mr_NotPlain => k_is)
    (case cd_NotPlain => refine' VK.mro_mk ?x1 ?x2; (case x1 => k_is); (case x2 => rfl))
    (case xn_NotPlain => first | kernel_rfl | kernel_rfl! | rfl)
    (case g_HasReserves => k_is)
    (case hd_HasReserves => k_is)
    (case xe_HasReserves => k_is)
    (case ty_HasReserves => k_is)
    (case kc_HasReserves => k_is)
    (case ga_HasReserves => k_is)
    (case gt_HasReserves => k_is)
    (case cc_HasReserves => k_is)
    (case mr_HasReserves => k_is)
    (case cd_HasReserves => refine' VK.mro_mk ?x1 ?x2; (case x1 => k_is); (case x2 => rfl))
    (case xn_HasReserves => first | kernel_rfl | kernel_rfl! | rfl)
    (case g_NoSplits => k_is)
    (case hd_NoSplits => k_is)
    (case xe_NoSplits => k_is)
    (case ty_NoSplits => k_is)
    (case kc_NoSplits => k_is)
    (case ga_NoSplits => k_is)
    (case gt_NoSplits => k_is)
    (case cc_NoSplits => k_is)
    (case mr_NoSplits => k_is)
    (case cd_NoSplits => refine' VK.mro_mk ?x1 ?x2; (case x1 => k_is); (case x2 => rfl))
    (case xi_NoSplits => kx_is)
    (case xo_NoSplits => kx_is)
    (case sa_NoSplits => k_is)
    (case n_NoSplits_cases => k_is)
    (case g_Exposed => k_is)
    (case hd_Exposed => k_is)
    (case xe_Exposed => k_is)
    (case ty_Exposed => k_is)
    (case kc_Exposed => k_is)
    (case ga_Exposed => k_is)
    (case gt_Exposed => k_is)
    (case cc_Exposed => k_is)
    (case mr_Exposed => k_is)
    (case cd_Exposed => refine' VK.mro_mk ?x1 ?x2; (case x1 => k_is); (case x2 => rfl))
    (case xi_Exposed => kx_is)
    (case xo_Exposed => kx_is)
    (case sa_Exposed => k_is)
    (case n_Exposed_danger => k_is)
    (case g_NotLate => k_is)
    (case hd_NotLate => k_is)
    (case xe_NotLate => k_is)
    (case ty_NotLate => k_is)
    (case kc_NotLate => k_is)
    (case ga_NotLate => k_is)
    (case gt_NotLate => k_is)
    (case cc_NotLate => k_is)
    (case mr_NotLate => k_is)
    (case cd_NotLate => refine' VK.mro_mk ?x1 ?x2; (case x1 => k_is); (case x2 => rfl))
    (case xi_NotLate => kx_is)
    (case xo_NotLate => kx_is)
    (case sa_NotLate => k_is)
    (case n_NotLate_value => k_is)
    (case g_RunFailed => k_is)
    (case hd_RunFailed => k_is)
    (case xe_RunFailed => k_is)
    (case ty_RunFailed => k_is)
    (case kc_RunFailed => k_is)
    (case ga_RunFailed => k_is)
    (case gt_RunFailed => k_is)
    (case cc_RunFailed => k_is)
    (case mr_RunFailed => k_is)
    (case cd_RunFailed => refine' VK.mro_mk ?x1 ?x2; (case x1 => k_is); (case x2 => rfl))
    (case xi_RunFailed => kx_is)
    (case xo_RunFailed => kx_is)
    (case sa_RunFailed => k_is)
    (case n_RunFailed_position => k_is)
    (case n_RunFailed_results => k_is)
    (case g_TooLong => k_is)
    (case hd_TooLong => k_is)
    (case xe_TooLong => k_is)
    (case ty_TooLong => k_is)
    (case kc_TooLong => k_is)
    (case ga_TooLong => k_is)
    (case gt_TooLong => k_is)
    (case cc_TooLong => k_is)
    (case mr_TooLong => k_is)
    (case cd_TooLong => refine' VK.mro_mk ?x1 ?x2; (case x1 => k_is); (case x2 => rfl))
    (case xi_TooLong => kx_is)
    (case xo_TooLong => kx_is)
    (case sa_TooLong => k_is)
    (case n_TooLong_limit => k_is)
    (case g_TooMany => k_is)
    (case hd_TooMany => k_is)
    (case xe_TooMany => k_is)
    (case ty_TooMany => k_is)
    (case kc_TooMany => k_is)
    (case ga_TooMany => k_is)
    (case gt_TooMany => k_is)
    (case cc_TooMany => k_is)
    (case mr_TooMany => k_is)
    (case cd_TooMany => refine' VK.mro_mk ?x1 ?x2; (case x1 => k_is); (case x2 => rfl))
    (case xi_TooMany => kx_is)
    (case xo_TooMany => kx_is)
    (case sa_TooMany => k_is)
    (case n_TooMany_limit => k_is)
    (case g_DueError => k_is)
    (case hd_DueError => k_is)
    (case xe_DueError => k_is)
    (case ty_DueError => k_is)
    (case kc_DueError => k_is)
    (case ga_DueError => k_is)
    (case gt_DueError => k_is)
    (case cc_DueError => k_is)
    (case mr_DueError => k_is)
    (case cd_DueError => refine' VK.mro_mk ?x1 ?x2; (case x1 => k_is); (case x2 => rfl))
    (case xn_DueError => first | kernel_rfl | kernel_rfl! | rfl)
    (case a_InvalidCurve_init => k_is)
    (case i_InvalidCurve_init => k_is)
    (case l_InvalidCurve_init => k_is)
    (case c_InvalidCurve_init => k_is)
    (case k_InvalidCurve_init => k_is)
    (case tI_InvalidCurve => k_is)
    (case a_InvalidPiece_init => k_is)
    (case i_InvalidPiece_init => k_is)
    (case l_InvalidPiece_init => k_is)
    (case c_InvalidPiece_init => k_is)
    (case k_InvalidPiece_init => k_is)
    (case tI_InvalidPiece => k_is)
    (case a_InvalidLength_init => k_is)
    (case i_InvalidLength_init => k_is)
    (case l_InvalidLength_init => k_is)
    (case c_InvalidLength_init => k_is)
    (case k_InvalidLength_init => k_is)
    (case tI_InvalidLength => k_is)
    (case a_InvalidCount_init => k_is)
    (case i_InvalidCount_init => k_is)
    (case l_InvalidCount_init => k_is)
    (case c_InvalidCount_init => k_is)
    (case k_InvalidCount_init => k_is)
    (case tI_InvalidCount => k_is)
    (case a_InvalidRecord_init => k_is)
    (case i_InvalidRecord_init => k_is)
    (case l_InvalidRecord_init => k_is)
    (case c_InvalidRecord_init => k_is)
    (case k_InvalidRecord_init => k_is)
    (case tI_InvalidRecord => k_is)
    (case a_InvalidVisit_init => k_is)
    (case i_InvalidVisit_init => k_is)
    (case l_InvalidVisit_init => k_is)
    (case c_InvalidVisit_init => k_is)
    (case k_InvalidVisit_init => k_is)
    (case tI_InvalidVisit => k_is)
    (case a_InvalidVisits_init => k_is)
    (case i_InvalidVisits_init => k_is)
    (case l_InvalidVisits_init => k_is)
    (case c_InvalidVisits_init => k_is)
    (case k_InvalidVisits_init => k_is)
    (case tI_InvalidVisits => k_is)
    (case a_InvalidSupply_init => k_is)
    (case i_InvalidSupply_init => k_is)
    (case l_InvalidSupply_init => k_is)
    (case c_InvalidSupply_init => k_is)
    (case k_InvalidSupply_init => k_is)
    (case tI_InvalidSupply => k_is)
    (case a_InvalidWindow_init => k_is)
    (case i_InvalidWindow_init => k_is)
    (case l_InvalidWindow_init => k_is)
    (case c_InvalidWindow_init => k_is)
    (case k_InvalidWindow_init => k_is)
    (case tI_InvalidWindow => k_is)
    (case a_InvalidStation_init => k_is)
    (case i_InvalidStation_init => k_is)
    (case l_InvalidStation_init => k_is)
    (case c_InvalidStation_init => k_is)
    (case k_InvalidStation_init => k_is)
    (case tI_InvalidStation => k_is)
    (case a_InvalidNetwork_init => k_is)
    (case i_InvalidNetwork_init => k_is)
    (case l_InvalidNetwork_init => k_is)
    (case c_InvalidNetwork_init => k_is)
    (case k_InvalidNetwork_init => k_is)
    (case tI_InvalidNetwork => k_is)
    (case a_InvalidName_init => k_is)
    (case i_InvalidName_init => k_is)
    (case l_InvalidName_init => k_is)
    (case c_InvalidName_init => k_is)
    (case k_InvalidName_init => k_is)
    (case tI_InvalidName => k_is)
    (case a_InvalidPath_init => k_is)
    (case i_InvalidPath_init => k_is)
    (case l_InvalidPath_init => k_is)
    (case c_InvalidPath_init => k_is)
    (case k_InvalidPath_init => k_is)
    (case tI_InvalidPath => k_is)
    (case a_InvalidSplit_init => k_is)
    (case i_InvalidSplit_init => k_is)
    (case l_InvalidSplit_init => k_is)
    (case c_InvalidSplit_init => k_is)
    (case k_InvalidSplit_init => k_is)
    (case tI_InvalidSplit => k_is)
    (case a_InvalidTime_init => k_is)
    (case i_InvalidTime_init => k_is)
    (case l_InvalidTime_init => k_is)
    (case c_InvalidTime_init => k_is)
    (case k_InvalidTime_init => k_is)
    (case tI_InvalidTime => k_is)
    (case a_InvalidTick_init => k_is)
    (case i_InvalidTick_init => k_is)
    (case l_InvalidTick_init => k_is)
    (case c_InvalidTick_init => k_is)
    (case k_InvalidTick_init => k_is)
    (case tI_InvalidTick => k_is)
    (case a_InvalidFault_init => k_is)
    (case i_InvalidFault_init => k_is)
    (case l_InvalidFault_init => k_is)
    (case c_InvalidFault_init => k_is)
    (case k_InvalidFault_init => k_is)
    (case tI_InvalidFault => k_is)
    (case a_InvalidFaults_init => k_is)
    (case i_InvalidFaults_init => k_is)
    (case l_InvalidFaults_init => k_is)
    (case c_InvalidFaults_init => k_is)
    (case k_InvalidFaults_init => k_is)
    (case tI_InvalidFaults => k_is)
    (case a_InvalidText_init => k_is)
    (case i_InvalidText_init => k_is)
    (case l_InvalidText_init => k_is)
    (case c_InvalidText_init => k_is)
    (case k_InvalidText_init => k_is)
    (case tI_InvalidText => k_is)
    (case a_InvalidCommand_init => k_is)
    (case i_InvalidCommand_init => k_is)
    (case l_InvalidCommand_init => k_is)
    (case c_InvalidCommand_init => k_is)
    (case k_InvalidCommand_init => k_is)
    (case tI_InvalidCommand => k_is)
    (case a_UnknownStation_init => k_is)
    (case i_UnknownStation_init => k_is)
    (case l_UnknownStation_init => k_is)
    (case c_UnknownStation_init => k_is)
    (case k_UnknownStation_init => k_is)
    (case tI_UnknownStation => k_is)
    (case a_UnknownStream_init => k_is)
    (case i_UnknownStream_init => k_is)
    (case l_UnknownStream_init => k_is)
    (case c_UnknownStream_init => k_is)
    (case k_UnknownStream_init => k_is)
    (case tI_UnknownStream => k_is)
    (case a_UnknownUnit_init => k_is)
    (case i_UnknownUnit_init => k_is)
    (case l_UnknownUnit_init => k_is)
    (case c_UnknownUnit_init => k_is)
    (case k_UnknownUnit_init => k_is)
    (case tI_UnknownUnit => k_is)
    (case a_NoLink_init => k_is)
    (case i_NoLink_init => k_is)
    (case l_NoLink_init => k_is)
    (case c_NoLink_init => k_is)
    (case k_NoLink_init => k_is)
    (case tI_NoLink => k_is)
    (case a_NameTaken_init => k_is)
    (case i_NameTaken_init => k_is)
    (case l_NameTaken_init => k_is)
    (case c_NameTaken_init => k_is)
    (case k_NameTaken_init => k_is)
    (case tI_NameTaken => k_is)
    (case a_NotGood_init => k_is)
    (case i_NotGood_init => k_is)
    (case l_NotGood_init => k_is)
    (case c_NotGood_init => k_is)
    (case k_NotGood_init => k_is)
    (case tI_NotGood => k_is)
    (case a_TooSlow_init => k_is)
    (case i_TooSlow_init => k_is)
    (case l_TooSlow_init => k_is)
    (case c_TooSlow_init => k_is)
    (case k_TooSlow_init => k_is)
    (case tI_TooSlow => k_is)
    (case a_Refused_init => k_is)
    (case i_Refused_init => k_is)
    (case l_Refused_init => k_is)
    (case c_Refused_init => k_is)
    (case k_Refused_init => k_is)
    (case tI_Refused => k_is)
    (case a_Overfull_init => k_is)
    (case i_Overfull_init => k_is)
    (case l_Overfull_init => k_is)
    (case c_Overfull_init => k_is)
    (case k_Overfull_init => k_is)
    (case tI_Overfull => k_is)
    (case a_NoSplits_init => k_is)
    (case i_NoSplits_init => k_is)
    (case l_NoSplits_init => k_is)
    (case c_NoSplits_init => k_is)
    (case k_NoSplits_init => k_is)
    (case tI_NoSplits => k_is)
    (case a_Exposed_init => k_is)
    (case i_Exposed_init => k_is)
    (case l_Exposed_init => k_is)
    (case c_Exposed_init => k_is)
    (case k_Exposed_init => k_is)
    (case tI_Exposed => k_is)
    (case a_NotLate_init => k_is)
    (case i_NotLate_init => k_is)
    (case l_NotLate_init => k_is)
    (case c_NotLate_init => k_is)
    (case k_NotLate_init => k_is)
    (case tI_NotLate => k_is)
    (case a_RunFailed_init => k_is)
    (case i_RunFailed_init => k_is)
    (case l_RunFailed_init => k_is)
    (case c_RunFailed_init => k_is)
    (case k_RunFailed_init => k_is)
    (case tI_RunFailed => k_is)
    (case a_TooLong_init => k_is)
    (case i_TooLong_init => k_is)
    (case l_TooLong_init => k_is)
    (case c_TooLong_init => k_is)
    (case k_TooLong_init => k_is)
    (case tI_TooLong => k_is)
    (case a_TooMany_init => k_is)
    (case i_TooMany_init => k_is)
    (case l_TooMany_init => k_is)
    (case c_TooMany_init => k_is)
    (case k_TooMany_init => k_is)
    (case tI_TooMany => k_is)
    (case a_l_rng => k_is)
    (case l_l_rng => k_is)
    (case c_l_rng => k_is)
    (case k_l_rng => k_is)
    (case a_l_draw => k_is)
    (case l_l_draw => k_is)
    (case c_l_draw => k_is)
    (case k_l_draw => k_is)
    (case a_l_thing => k_is)
    (case l_l_thing => k_is)
    (case c_l_thing => k_is)
    (case k_l_thing => k_is)
    (case a_l_ones => k_is)
    (case l_l_ones => k_is)
    (case c_l_ones => k_is)
    (case k_l_ones => k_is)
    (case a_l_ones_by_place => k_is)
    (case l_l_ones_by_place => k_is)
    (case c_l_ones_by_place => k_is)
    (case k_l_ones_by_place => k_is)
    (case a_l_told => k_is)
    (case l_l_told => k_is)
    (case c_l_told => k_is)
    (case k_l_told => k_is)
    (case a_l_more => k_is)
    (case l_l_more => k_is)
    (case c_l_more => k_is)
    (case k_l_more => k_is)
    (case a_l_parts => k_is)
    (case l_l_parts => k_is)
    (case c_l_parts => k_is)
    (case k_l_parts => k_is)
    (case a_l_classes => k_is)
    (case l_l_classes => k_is)
    (case c_l_classes => k_is)
    (case k_l_classes => k_is)
    (case a_l_base => k_is)
    (case l_l_base => k_is)
    (case c_l_base => k_is)
    (case k_l_base => k_is)
    (case a_l_is_of => k_is)
    (case l_l_is_of => k_is)
    (case c_l_is_of => k_is)
    (case k_l_is_of => k_is)
    (case a_l_right => k_is)
    (case l_l_right => k_is)
    (case c_l_right => k_is)
    (case k_l_right => k_is)
    (case a_law => k_is)
    (case l_law => k_is)
    (case c_law => k_is)
    (case k_law => k_is)
    (case z_ArithmeticError => k_is)
    (case z_IndexError => k_is)
    (case z_KeyError => k_is)
    (case z_LookupError => k_is)
    (case z_OverflowError => k_is)
    (case z_RuntimeError => k_is)
    (case z_ValueError => k_is)
    (case z_ZeroDivisionError => k_is)
    (case z_abs => k_is)
    (case z_all => k_is)
    (case z_divmod => k_is)
    (case z_enumerate => k_is)
    (case z_int => k_is)
    (case z_isinstance => k_is)
    (case z_len => k_is)
    (case z_max => k_is)
    (case z_min => k_is)
    (case z_range => k_is)
    (case z_repr => k_is)
    (case z_sorted => k_is)
    (case z_zip => k_is)
    (case ndup => decide +kernel)


