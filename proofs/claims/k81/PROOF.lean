import PyProof.Rows.All
import Wide.All
import OpenK.AllK
import Wide.FinOn
import HandS.ForMost
import HandS.Style
import HandS.Gcd
import HandS.Wide
import HandS.Evl
import HandS.IsInst
import HandS.RaiseMore
import KE.KMathGC
import HandS.Walk
import KE.GoesMore
import KE.GoesEnum
import HandS.List
import HandS.SetBool
import HandS.Strs
import HandS.TupSets
import KE.KSortTupG
import HandS.SortKw
import HandS.WideBits
import HandS.Conv
import HandS.ForSpec
import HandS.TryMany
import HandS.ExcIs
import HandS.ExcField
import HandS.Lambda
import HandS.Zip
import HandS.RevRange
import HandS.Sort
import KE.DataMinMax
import PyProof.ReprBulk
import KE.KExcIs
import HandS.Words
import HandS.EndTab
import HandS.TupAny
import HandS.TupMul
import KE.KIndexOf
import PyProof.Rows.SeqMore
import KE.KNest
import PySem.Challenge.RW_holerows_k81_least_and_most_counts_of_sp
set_option Elab.async false
set_option linter.all false
set_option maxRecDepth 100000
set_option maxHeartbeats 8000000
/-! Calls of defs where nothing is being shown (no repr under way). -/
namespace Hr
open PySem PySem.Spec PyProof.Rows L2

/-- a promise that is kept wherever no repr is under way -/
structure FnG (P : Program) (w : World) (K : PySem.W.Frag) (mg : Str → Option Value) (base : Heap) (CX : CXT) (k : Nat) (f : Addr) (fd : FuncData) (ps : List Str) (sp : Sp) : Prop where
  len : ∀ vs H Q E, sp vs H Q E → vs.length = ps.length
  go : ∀ (A : Around) (around : List Env) (s : Shared) (H : Hp) (as : Args) (us : List Value) (vs : List V) (Q : VK) (E : XK),
    Room k A → A.guards = some [] → Env0 P w K mg base A around s H → BindsTo s fd as (ps.zip us) → Vals vs us → sp vs H Q E →
    codeAny (model P w) A (.call (.ref f) as) (CR CX around P w H s Q E) s

section
variable {P : Program} {w : World} {K : PySem.W.Frag} {mg : Str → Option Value} {base : Heap} {CX : CXT} {k j : Nat} {f : Addr} {fd : FuncData} {ps : List Str} {sp sp' : Sp}
theorem FnG.of (F : FnOk P w K mg base CX k f fd ps sp) : FnG P w K mg base CX k f fd ps sp :=
  ⟨F.len, fun A around s H as us vs Q E r _ e b v h => F.run A around s H as us vs Q E r e b v h⟩
theorem FnG.mono (F : FnG P w K mg base CX j f fd ps sp) (h : j ≤ k) : FnG P w K mg base CX k f fd ps sp :=
  ⟨F.len, fun A around s H as us vs Q E r => F.go A around s H as us vs Q E (r.mono h)⟩
theorem FnG.imp (F : FnG P w K mg base CX k f fd ps sp) (h : ∀ vs H Q E, sp' vs H Q E → sp vs H Q E) : FnG P w K mg base CX k f fd ps sp' :=
  ⟨fun vs H Q E q => F.len vs H Q E (h _ _ _ _ q), fun A around s H as us vs Q E r g e b v q => F.go A around s H as us vs Q E r g e b v (h _ _ _ _ q)⟩

/-- a def of the text by its body, where no repr is under way -/
theorem bodyG {x qual : Str} {st : Stmt} {N : List Str} (F : Fun K x qual st f fd) (S : FnScope N ps (defScope st)) (len : ∀ vs H Q E, sp vs H Q E → vs.length = ps.length)
    (hb : ∀ (cdv : Value) (A : Around) (around : List Env) (s : Shared) (H : Hp) (vs : List V) (Q : VK) (E : XK), Room k (A.deeper (envOfC qual (defScope st) s.heap.objs.size f cdv)) → A.guards = some [] → sp vs H Q E →
      ∃ t, PSs (cxOf CX P w K mg base N qual (defScope st) f cdv A around s H E) (defBody st) t ∧ t { nx := fun _ H' => Q .non H', rt := Q } (start N vs) H) :
    FnG P w K mg base CX (k + 1) f fd ps sp := by
  obtain ⟨oc, od, kV, doc, pm, an, cdv, ct, osl, rfl, lk, hcd⟩ := F.ex
  refine ⟨len, ?_⟩
  intro A around s H as us vs Q E r g e0 bind rv hq
  have KX : K.In s.heap := e0.mod.kin.keeps fun b o e => (e0.bs b o e).1
  have kinds : ∀ y ∈ ps.zip us, (defScope st).names.lookup y.1 = some .local ∨ ((defScope st).names.lookup y.1 = some .cell ∧ ((cellsFrom (s.heap.objs.size + 1) (defScope st).names []).lookup y.1).isSome = true) := by
    rintro ⟨n, v⟩ hy
    rcases S.par n (List.of_mem_zip hy).1 with q | q
    · exact .inl q
    · exact .inr ⟨q, PySem.W.cellsFrom_some _ _ _ (.inl q)⟩
  refine codeAny_call_function r.depth (KX _ _ lk) rfl S.co S.gen rfl (PySem.W.codeRec_of KX hcd) (bind _ _ _ _ ?_)
  refine wpAny_newFunctionEnv_cells S.kind kinds ?_
  intro env he s1 x
  subst he
  refine ⟨Heap.NoLimit.keeps (e0.mod.nolimit.keeps fun b o e => (e0.bs b o e).1) x.toInCall.keep, codeAny_func ?_⟩
  obtain ⟨t, ht, hrun⟩ := hb cdv A around s H vs Q E (r.deeper _) g hq
  have I := inv_start (CX := CX) (E := E) S r.hd e0 (len _ _ _ _ hq) rv x
  refine wpAny_mono (ht.run [] s1 (start N vs) H _ I hrun) ?_ (fun e s' hs => hs)
  intro fl s' hs
  cases fl with
  | ret u =>
    obtain ⟨v, σ', H', J, rv', q⟩ := hs
    exact ⟨v, H', J.os, J.bare, J.base, J.hok, rv', q⟩
  | next =>
    obtain ⟨σ', H', J, q⟩ := hs
    exact ⟨V.non, H', J.os, J.bare, J.base, J.hok, rfl, q⟩
  | brk => exact hs.elim fun _ ⟨_, _, q⟩ => q.elim
  | cont => exact hs.elim fun _ ⟨_, _, q⟩ => q.elim
/-- .. that lets no exception out -/
theorem okG {x qual : Str} {st : Stmt} {N : List Str} (F : Fun K x qual st f fd) (S : FnScope N ps (defScope st)) (len : ∀ vs H Q E, sp vs H Q E → vs.length = ps.length)
    (hb : ∀ (cdv : Value) (A : Around) (around : List Env) (s : Shared) (H : Hp) (vs : List V) (Q : VK) (E : XK), Room k (A.deeper (envOfC qual (defScope st) s.heap.objs.size f cdv)) → A.guards = some [] → sp vs H Q E →
      ∃ t, PSs (cxOf CX0 P w K mg base N qual (defScope st) f cdv A around s H E).nox (defBody st) t ∧ t { nx := fun _ H' => Q .non H', rt := Q } (start N vs) H) :
    FnG P w K mg base CX0 (k + 1) f fd ps sp :=
  bodyG F S len fun cdv A around s H vs Q E r g h => by
    obtain ⟨t, ht, q⟩ := hb cdv A around s H vs Q E r g h
    exact ⟨t, ht.nox, q⟩
end

section
variable {X : Cx} {CX : CXT} {k : Nat} {f : Addr} {fd : FuncData} {ps ks : List Str} {sp : Sp} {dvs : List V} {ds : List Value} {E : XK} {x : Str} {p pos : Pos} {e : Expr} {es : List Expr} {kws : List Keyword} {t tk : TA}
theorem endG {pins : List (Addr × Obj)} {σ : L2.St} {H : Hp} {s : Shared} {Q : VK} (hx : Passes CX X E) (I : Inv X pins σ H s) {r : Result} {s' : Shared} (h : CR CX X.stack X.prog X.w H s Q E r s') :
    (match r with
      | .ok (.ret u) => EP X pins σ Q u s'
      | .ok _ => False
      | .error z => X.xe z s') := by
  cases r with
  | error z => exact hx pins σ H s z s' I h
  | ok fl => cases fl with
    | ret u => exact I.after h
    | next => exact False.elim h
    | brk => exact False.elim h
    | cont => exact False.elim h
theorem pe_callG (F : FnG X.prog X.w X.K X.mg X.base CX k f fd ps sp) (hr : Room k X.A) (gg : X.A.guards = some []) (hg : Gl X x) (hm : X.mg x = some (.ref f)) (hk : PySem.W.keepIn X.K (.ref f) = true) (hb : Binds X.K fd ps ds) (hd : Vals dvs ds) (hx : Passes CX X E)
    (ha : PA X (e :: es) t) (hdb : (x == ("__debug__" : Str)) = false := by decide) (he : starEach (e :: es) X.env = (false, eval e X.env) :: starEach es X.env := by rfl) (hpl : (backTo pos (starEach es X.env)).any (·.1) = false := by rfl) :
    PE X (.Call (.Name x p) (e :: es) [] pos) (tCall sp dvs E t) := by
  constructor
  intro pins s σ H Q I h
  refine wpAny_Call_Name_kw (ld_glob I hg hm ?_ hdb)
  refine PySem.W.callWith_K (h₀ := X.base) I.ok.mod.kin hk (thn (ha.run pos pins s σ H _ I h) ?_) he hpl
  rintro us s1 ⟨vs, H1, I1, r, q⟩
  refine ⟨I1.kIn, ?_⟩
  have r2 := r.append hd
  have hl : (us ++ ds).length = ps.length := r2.length.symm.trans (F.len _ _ _ _ q)
  refine wpAny_call (codeAny_mono (F.go X.A X.stack s1 H1 ⟨us, []⟩ _ _ Q E hr gg I1.env0 (hb s1 us I1.kIn hl) r2 q) ?_)
  intro r s' hq
  have z := endG hx I1 hq
  cases r with
  | error _ => exact z
  | ok fl => cases fl <;> exact z
variable {g : List Value → List Value → List Value} {gV : List V → List V → List V}
theorem pe_callKG (F : FnG X.prog X.w X.K X.mg X.base CX k f fd ps sp) (hr : Room k X.A) (gg : X.A.guards = some []) (hg : Gl X x) (hm : X.mg x = some (.ref f)) (hk : PySem.W.keepIn X.K (.ref f) = true) (hb : KBinds X.K fd ps ks g gV) (hx : Passes CX X E)
    (ha : PA X (e :: es) t) (hkw : PK X kws tk) (hall : (backToKw pos (keywordEach kws X.env)).all (·.1.isSome) = true := by rfl) (hks : (backToKw pos (keywordEach kws X.env)).filterMap (·.1) = ks := by rfl)
    (hdb : (x == ("__debug__" : Str)) = false := by decide) (he : starEach (e :: es) X.env = (false, eval e X.env) :: starEach es X.env := by rfl)
    (hpl : ((backTo pos (starEach (e :: es) X.env)).any (·.1) || (backToKw pos (keywordEach kws X.env)).any (·.1.isNone)) = false := by rfl) :
    PE X (.Call (.Name x p) (e :: es) kws pos) (tCallK sp gV E t tk) := by
  constructor
  intro pins s σ H Q I h
  refine wpAny_Call_Name_kw (ld_glob I hg hm ?_ hdb)
  refine PySem.W.callWith_KW (h₀ := X.base) I.ok.mod.kin hk hall (thn (ha.run pos pins s σ H _ I h) ?_) hpl he
  rintro us s1 ⟨vs, H1, I1, r, q⟩
  refine thn (hkw.run pos pins s1 σ H1 _ I1 q) ?_
  rintro ws s2 ⟨zs, H2, I2, rz, q2⟩
  refine ⟨I2.kIn, ?_⟩
  rw [hks]
  have r2 := hb.rel r rz
  have hl : (g us ws).length = ps.length := r2.length.symm.trans (F.len _ _ _ _ q2)
  refine wpAny_call (codeAny_mono (F.go X.A X.stack s2 H2 ⟨us, ks.zip ws⟩ _ _ Q E hr gg I2.env0 (hb.to s2 us ws I2.kIn hl) r2 q2) ?_)
  intro r s' hq
  have z := endG hx I2 hq
  cases r with
  | error _ => exact z
  | ok fl => cases fl <;> exact z
end

section
variable {P : Program} {w : World} {K : PySem.W.Frag} {mg mb : Str → Option Value} {CX : CXT} {k : Nat} {fa a : Addr} {fd : FuncData} {x : Str} {sp : Sp} {s₁ : Shared} {vs : List Value} {ns : List Int}
/-- the call of the law from outside, from a heap in which at most the script is told -/
theorem lawG0 {H : Hp} (KX : K.In s₁.heap) (hns : s₁.heap.Ns mainGlobals mg) (hb : s₁.heap.Ns builtinsNs mb) (hbb : ∀ x : Str, x ≠ "__name__" → mb x = bootBuiltins x) (hlim : s₁.heap.NoLimit) (hg : s₁.gens = #[])
    (ha : s₁.heap.get? a = some { cls := .type "list", data := .seq vs.toArray }) (hr : Room k callerA)
    (F : ∀ base : Heap, K.In base → base.Ns mainGlobals mg → FnG P w K mg base CX k fa fd [x] sp) (hbind : ∀ (s : Shared) (u : Value), BindsTo s fd ⟨[u], []⟩ [(x, u)])
    (hO : Only H) (hok : HOk P w H s₁.heap) (hA : ∀ b, H b ≠ none → b = a) (hK : H a ≠ none → K.lookup a = none)
    (hsp : sp [.ref a] H (fun v _ => v = .bl true) fun _ _ _ => False) (hCX : ∀ e s', CX [] H s₁ (fun _ _ _ => False) e s' → False) :
    codeAny (model P w) callerA (.call (.ref fa) ⟨[.ref a], []⟩) (fun r s' => r = .ok (.ret (.bool true)) ∧ OldK s₁.heap s'.heap ∧ s'.os = s₁.os ∧ AllBare s'.gens) s₁ := by
  have untold : ∀ {b : Addr} {o : Obj}, s₁.heap.get? b = some o → (∀ xs n, o.data ≠ .seq xs n) ∨ K.lookup b ≠ none → H b = none := by
    intro b o e z
    cases q : H b with
    | none => rfl
    | some u =>
      have e' : b = a := hA b (by rw [q]; exact Option.some_ne_none u)
      subst e'
      rcases z with z | z
      · rw [ha] at e
        cases e
        exact absurd rfl (z _ _)
      · exact absurd (hK (by rw [q]; exact Option.some_ne_none u)) z
  have nsB : ∀ {b : Addr} {m : Str → Option Value}, s₁.heap.Ns b m → (hidT s₁.heap H).Ns b m := by
    rintro b m ⟨o, es, ep, e, d, r⟩
    exact ⟨o, es, ep, hidT_get e (untold e (.inl fun xs n z => by rw [d] at z; cases z)), d, r⟩
  have hKb : K.In (hidT s₁.heap H) := fun b o e => hidT_get (KX b o e) (untold (KX b o e) (.inr (by rw [e]; exact Option.some_ne_none o)))
  have hM : Mod K mg (hidT s₁.heap H) := ⟨hKb, nsB hns, ⟨mb, nsB hb, hbb⟩, hlim.elim fun mc z => ⟨mc, nsB z.1, z.2⟩⟩
  have e0 : Env0 P w K mg (hidT s₁.heap H) callerA [] s₁ H :=
    ⟨rfl, hM, fun b o e => of_hidT e, Nat.le_of_eq (hidT_size _ _), trivial, fun b hb => absurd hb List.not_mem_nil, hok, .of_eq hg⟩
  refine codeAny_mono ((F _ hKb (nsB hns)).go callerA [] s₁ H ⟨[.ref a], []⟩ [.ref a] [.ref a] _ _ hr rfl e0 (hbind s₁ (.ref a)) (.cons rfl .nil) hsp) ?_
  intro r s' h
  cases r with
  | error e => exact (hCX e s' h).elim
  | ok fl => cases fl with
    | next => exact False.elim h
    | brk => exact False.elim h
    | cont => exact False.elim h
    | ret u =>
      obtain ⟨v, H', os, bare, un, hok', r', q⟩ := h
      have q' : v = .bl true := q
      subst q'
      have r2 : u = Value.bool true := r'
      subst r2
      refine ⟨rfl, OldK.of_keep ?_, os, bare⟩
      intro b o e
      rcases hO b with z | ⟨ob, xs, z⟩
      · exact un.keep b o e z List.not_mem_nil List.not_mem_nil
      · obtain ⟨e1, _⟩ := hok b _ z
        obtain ⟨e2, _⟩ := hok' b _ (un.frzs b ob _ z)
        rw [e] at e1
        cases e1
        exact e2
theorem lawG (KX : K.In s₁.heap) (hns : s₁.heap.Ns mainGlobals mg) (hb : s₁.heap.Ns builtinsNs mb) (hbb : ∀ x : Str, x ≠ "__name__" → mb x = bootBuiltins x) (hlim : s₁.heap.NoLimit) (hg : s₁.gens = #[])
    (ha : s₁.heap.get? a = some { cls := .type "list", data := .seq vs.toArray }) (hi : IntsAre vs ns) (hl : ns.length ≤ sizeLine) (hr : Room k callerA)
    (F : ∀ base : Heap, K.In base → base.Ns mainGlobals mg → FnG P w K mg base CX k fa fd [x] sp) (hbind : ∀ (s : Shared) (u : Value), BindsTo s fd ⟨[u], []⟩ [(x, u)])
    (hsp : ∀ H : Hp, Only H → SqL K H a (ns.map V.int) → sp [.ref a] H (fun v _ => v = .bl true) fun _ _ _ => False) (hCX : ∀ H e s', CX [] H s₁ (fun _ _ _ => False) e s' → False) :
    codeAny (model P w) callerA (.call (.ref fa) ⟨[.ref a], []⟩) (fun r s' => r = .ok (.ret (.bool true)) ∧ OldK s₁.heap s'.heap ∧ s'.os = s₁.os ∧ AllBare s'.gens) s₁ := by
  have rv := vals_ints hi
  cases hk : K.lookup a with
  | some o =>
    have e := KX a o hk
    rw [ha] at e
    cases e
    have O : Only (fun _ => none) := fun _ => .inl rfl
    refine lawG0 (H := fun _ => none) KX hns hb hbb hlim hg ha hr F hbind O (fun b u z => nomatch z) (fun b z => absurd rfl z) (fun z => absurd rfl z) (hsp _ O (.inr ⟨_, vs.toArray, _, hk, rfl, rfl, rfl, ?_, ?_⟩)) (hCX _)
    · rw [List.size_toArray, hi.length]
      exact hl
    · rw [List.toList_toArray]
      exact rv
  | none =>
    have O : Only (upd (fun _ => none) a (.frz { cls := .type "list", data := .seq vs.toArray } (.lst (ns.map V.int)))) := fun b => by
      by_cases h : b = a
      · subst h
        exact .inr ⟨_, _, upd_same⟩
      · exact .inl (upd_ne h)
    refine lawG0 KX hns hb hbb hlim hg ha hr F hbind O (fun b u z => ?_) (fun b z => ?_) (fun _ => hk) (hsp _ O (.inl (.inr ⟨_, upd_same⟩))) (hCX _)
    · by_cases h : b = a
      · subst h
        rw [upd_same] at z
        cases z
        exact ⟨ha, by rw [List.length_map]; exact hl, vs, _, rv, ha⟩
      · rw [upd_ne h] at z
        cases z
    · by_cases h : b = a
      · exact h
      · exact absurd (upd_ne h) z
end

/-- what k_head leaves of a law, from the law's promise -/
theorem walkG {l : PySem.W.OpenLaw} {n k : Nat} {q : Program} {loose : List Str} {XP : (Str → Option Value) → Heap → Prop} {YP : World → Heap → Prop} {d : DefRec} {K : Params → PySem.W.Frag} {sp : PySem.W.Frag → Sp} {x : Str}
    (hn : l.most = some n) (hn2 : n ≤ sizeLine) (hdf : d.params.defaults = []) (hr : Room k callerA) (hY : ∀ (w : World) (h : Heap), YP w h → (K w.params).In h)
    (F : ∀ (w : World) (mg : Str → Option Value) (fa : Addr) (h : Heap), (K w.params).In h → h.Ns mainGlobals mg → mg d.name = some (.ref fa) →
      ∃ fd : FuncData, (∀ (s : Shared) (u : Value), BindsTo s fd ⟨[u], []⟩ [(x, u)]) ∧
        ∀ base : Heap, (K w.params).In base → base.Ns mainGlobals mg → FnG l.prog w (K w.params) mg base CX0 k fa fd [x] (sp (K w.params)))
    (hsp : ∀ (K : PySem.W.Frag) (H : Hp) (a : Addr) (ns : List Int), ns.length ≤ n → Only H → SqL K H a (ns.map V.int) → sp K [.ref a] H (fun v _ => v = .bl true) fun _ _ _ => False) :
    PySem.W.WalkO q loose XP YP l.row.toRowW d [] (fun f vs => PySem.call f vs) := by
  refine Att.attach_call hn hdf ?_
  intro w s₀ s₁ mg mb fa o pm cd doc a vs ns G Y ho hd hcd hmg hobj hints hlen hg
  have KX := hY w _ Y
  obtain ⟨fd, hb, hF⟩ := F w mg fa _ KX G.T.g hmg
  exact lawG KX G.T.g G.T.b G.T.builtins G.T.nolimit hg hobj hints (Nat.le_trans hlen hn2) hr hF hb (fun H hO hS => hsp _ H a ns hlen hO hS) fun H e s' z => z
end Hr

/-! Rules of my own: math.comb, repr of data, t[::-1] of a tuple, enumerate(tuple). -/
namespace Hr
open PySem PySem.Spec PyProof.Rows L2

section
variable {X : Cx}
/-! ### comb -/
def CComb (a b : Int) : Prop := 0 ≤ a ∧ 0 ≤ b ∧ b ≤ 9000 ∧ (PySem.W.mcComb a b).natAbs.log2 < bitsLine
def rComb : List V → Hp → VK → Prop := fun vs H Q => ∃ a b : Int, vs = [.int a, .int b] ∧ CComb a b ∧ Q (.int (PySem.W.mcComb a b)) H
theorem comb_gives {a b : Int} (t u : Tok) (h : CComb a b) : Gives (Builtin.«math.comb» ⟨[.int a t, .int b u], []⟩) (.int (PySem.W.mcComb a b)) := by
  obtain ⟨h0, h1, h2, hz⟩ := h
  have e1 : (9000 : Int) < Builtin.Math.maxSsize := by decide
  have e2 : (9000 : Int) < Builtin.Math.manyFactors := by decide
  by_cases c : b > a
  · rw [PySem.W.mcComb_above c]
    exact PySem.W.mc_run_comb0 a t b u (by omega) (by omega) c
  · have e : PySem.W.mcComb a b = Builtin.Math.fallingProduct a (min b (a - b)).toNat / Builtin.Math.fallingProduct (min b (a - b)) (min b (a - b)).toNat := if_neg c
    rw [e] at hz ⊢
    exact PySem.W.mc_run_comb a t b u (by omega) (by omega) c (by omega) (by omega) (by omega) hz
theorem cr_comb : CallR X (.builtin "math.comb") rComb := by
  intro pins s σ H vs us Q I r h
  obtain ⟨a, b, rfl, c, q⟩ := h
  obtain ⟨t, u, rfl⟩ := Vals.int2 r
  exact call_function_meets PySem.W.MGF.kind_comb PySem.W.MGF.plain_comb PySem.W.MGF.entry_comb (PySem.W.MGF.args_comb _ _) (comb_gives t u c).meets ⟨.int _, H, I.tok _, ⟨_, rfl⟩, q⟩

/-! ### repr of data -/
def rRepr (K : PySem.W.Frag) : List V → Hp → VK → Prop := fun vs H Q => ∃ (a : Addr) (d : PyData), vs = [.ref a] ∧ Dp K H (.ref a) d ∧ d.showable = true ∧ d.hasDict = false ∧ d.depth ≤ 40 ∧ d.shown.length ≤ sizeLine ∧ Q (.str d.shown) H
theorem cr_repr (gg : X.A.guards = some []) (hu : X.A.units + 64 < cLine) : CallR X (.builtin "repr") (rRepr X.K) := by
  intro pins s σ H vs us Q I r h
  obtain ⟨a, d, rfl, hd, hs, hn, hdep, hz, q⟩ := h
  obtain ⟨u, rfl, r1⟩ := vals1 r
  obtain ⟨as, rd⟩ := Dp.reads I d _ _ hd r1
  have e : u = .ref a := r1
  subst e
  exact repr_of_reads' rd hs (fun z => by rw [hn] at z; cases z) gg (by omega) (fun _ _ z => z) (fun h' t tk hk => ⟨.str _, H, I.kept (t' := tk) hk, ⟨t, rfl⟩, q⟩) hz
end

/-! ### t[::-1] -/
section
variable {prog : Program} {w : World} {A : Around} {E : Value → Shared → Prop} {s : Shared}
theorem places_back (n : Nat) : Builtin.Slice.slicePlaces ((n : Int) - 1) (-1) (-1) = n := by
  unfold Builtin.Slice.slicePlaces
  rw [if_neg (by decide)]
  by_cases h : (n : Int) - 1 > -1
  · rw [if_pos h]
    have e : ((n : Int) - 1 - -1 - 1) / (- -1) = (n : Int) - 1 := by
      have e0 : (- -1 : Int) = 1 := by decide
      rw [e0, Int.ediv_one]
      omega
    rw [e]
    omega
  · rw [if_neg h]
    omega
theorem applied_back {sl : Addr} {vs : Value} {n : Nat} {Q : Int × Int × Nat → Shared → Prop} (hs : s.heap.IsSliceOf sl .none .none vs) (ps : IsPart vs (some (-1)))
    (h : Q ((n : Int) - 1, -1, n) s) : wpAny (model prog w) A (Builtin.Slice.sliceApplied (.ref sl) (pure (n : Int))) Q E s := by
  obtain ⟨o, ho, hc, hd⟩ := id hs
  unfold Builtin.Slice.sliceApplied Builtin.Slice.sliceFields
  refine wpAny_bind (wpAny_bind (wpAny_field ho hd (x := .none) rfl (wpAny_bind (wpAny_field ho hd (x := .none) rfl (wpAny_bind (wpAny_field ho hd (x := vs) rfl (wpAny_pure ?_)))))))
  refine wpAny_bind (HT.slicePart_ ps ?_)
  show wpAny _ _ (if ((-1 : Int) == 0) = true then _ else _) _ _ s
  rw [if_neg (by decide)]
  refine wpAny_bind (HT.slicePart_ IsPart.none (wpAny_bind (HT.slicePart_ IsPart.none (wpAny_bind (wpAny_pure ?_)))))
  show wpAny _ _ (pure ((n : Int) - 1, (-1 : Int), Builtin.Slice.slicePlaces ((n : Int) - 1) (-1) (-1))) _ _ s
  rw [places_back]
  exact wpAny_pure h
theorem pick_back (xs : Array Value) : ((List.range xs.size).filterMap fun (k : Nat) => xs[((xs.size : Int) - 1 + (k : Int) * -1).toNat]?).toArray = xs.toList.reverse.toArray := by
  congr 1
  apply List.ext_getElem?
  intro i
  have e : (List.range xs.size).filterMap (fun (k : Nat) => xs[((xs.size : Int) - 1 + (k : Int) * -1).toNat]?) = (List.range xs.size).map (fun k => xs.getD (xs.size - 1 - k) .none) := by
    have gen : ∀ l : List Nat, (∀ k ∈ l, k < xs.size) → l.filterMap (fun (k : Nat) => xs[((xs.size : Int) - 1 + (k : Int) * -1).toNat]?) = l.map (fun k => xs.getD (xs.size - 1 - k) .none) := by
      intro l
      induction l with
      | nil => intro _; rfl
      | cons k l ih =>
        intro hl
        have hk' : k < xs.size := hl k List.mem_cons_self
        have e1 : ((xs.size : Int) - 1 + (k : Int) * -1).toNat = xs.size - 1 - k := by omega
        have h2 : xs.size - 1 - k < xs.size := by omega
        have e2 : xs[((xs.size : Int) - 1 + (k : Int) * -1).toNat]? = some (xs.getD (xs.size - 1 - k) .none) := by
          rw [e1]
          simp [Array.getD, h2]
        rw [List.filterMap_cons_some (f := fun (k : Nat) => xs[((xs.size : Int) - 1 + (k : Int) * -1).toNat]?) e2, ih fun j hj => hl j (List.mem_cons_of_mem _ hj)]
        rfl
    exact gen _ fun k hk => List.mem_range.mp hk
  rw [e, List.getElem?_map]
  by_cases h : i < xs.size
  · have h2 : xs.size - 1 - i < xs.size := by omega
    rw [List.getElem?_range h, List.getElem?_reverse (by simpa using h)]
    simp [Array.getD, h2]
  · rw [List.getElem?_eq_none (by simpa using h), List.getElem?_eq_none (by simpa using h)]
    rfl
theorem getItem_back {t sl : Addr} {items : Array Value} {vs : Value} {Q : Value → Shared → Prop} (ht : IsTup s.heap t items) (hs : s.heap.IsSliceOf sl .none .none vs) (ps : IsPart vs (some (-1)))
    (h : Q (.ref s.heap.objs.size) { s with heap := s.heap.push { cls := .type "tuple", data := .seq items.toList.reverse.toArray } })
    (hsz : items.size ≤ sizeLine) : wpAny (model prog w) A (getItem (.ref t) (.ref sl)) Q E s := by
  have fits : sizeOk (.seq items.toList.reverse.toArray) := by
    show items.toList.reverse.toArray.size ≤ sizeLine
    rw [List.size_toArray, List.length_reverse, Array.length_toList]
    exact hsz
  obtain ⟨o, ho, hc, hd⟩ := id hs
  have hT : s.TypeIs (.ref sl) "slice" := ⟨o, ho, hc⟩
  unfold getItem
  try with_reducible refine wpAny_holding ?_
  first | refine wpAny_bind (wpAny_pure ?_) | skip
  refine wpAny_bind (wpAny_sequenceKey ht.typeIs (by decide) ?_)
  refine wpAny_bind (wpAny_callSpecial?_slot (name := Str.ofString "__getitem__") ht.typeIs PyProof.Rows.slot_tuple_getitem
    (wpAny_call_entry PyProof.Rows.slot_tuple_getitem ht.typeIs PyProof.Rows.entry_tuple_getitem ?_ (PyProof.Rows.args_tuple_getitem _ _)))
  show wpAny _ _ (Builtin.Tuple.tupleItemsOf (.ref t) >>= _) _ _ s
  refine wpAny_bind (PyProof.Rows.tupleItemsOf_ ht (wpAny_bind (wpAny_typeOf hT ?_)))
  rw [if_pos (by decide)]
  refine wpAny_bind (applied_back hs ps ?_)
  have no : ¬ (((items.size : Int) - 1 == 0 && (-1 : Int) == 1 && items.size == items.size) = true) := by
    rw [show ((-1 : Int) == 1) = false from rfl, Bool.and_false, Bool.false_and]
    exact Bool.false_ne_true
  show wpAny _ _ (if ((items.size : Int) - 1 == 0 && (-1 : Int) == 1 && items.size == items.size) = true then _ else _) _ _ s
  rw [if_neg no, pick_back]
  first
    | exact wpAny_bind (m := Builtin.Tuple.tupleExact _) (wpAny_newObj_type (wpAny_pure ⟨_, rfl, wpAny_pure h⟩) fits)
    | exact wpAny_bind (m := Builtin.Tuple.tupleExact _) (wpAny_newObj_type (wpAny_bind (wpAny_pure (wpAny_pure ⟨_, rfl, wpAny_pure h⟩))) fits)
    | exact wpAny_bind (wpAny_bind (m := Builtin.Tuple.tupleExact _) (wpAny_newObj_type (wpAny_pure (wpAny_pure ⟨_, rfl, wpAny_pure h⟩)) fits))
    | exact wpAny_bind (wpAny_bind (m := Builtin.Tuple.tupleExact _) (wpAny_newObj_type (wpAny_pure ⟨_, rfl, wpAny_pure h⟩) fits))
end
def tRevT (K : PySem.W.Frag) (te : TE) : TE := fun σ H Q => te σ H fun x H1 => ∃ a xs, x = .ref a ∧ SqT K H1 a xs ∧ ∀ p, H1 p = none → Q (.ref p) (upd H1 p (.tup xs.reverse))
theorem pe_revT {X : Cx} {e : Expr} {te : TE} {k : Nat} {p1 p2 p3 pos : Pos} (he : PE X e te) : PE X (.Subscript e (.Slice none none (some (.UnaryOp .USub (.Constant (.int 1) k p1) p2)) p3) pos) (tRevT X.K te) := by
  constructor
  intro pins s σ H Q I h
  refine Subscript_ (thn (he.run pins s σ H _ I h) ?_)
  rintro v s1 ⟨x, H1, I1, r1, a, xs, rfl, hx, q⟩
  cases r1
  have hst : PO X (some (.UnaryOp .USub (.Constant (.int 1) k p1) p2)) (tPart (tUn (rU fun i => .int (-i)) (tC (.int 1)))) := po_some (pe_un un_neg pe_int)
  refine wpAny_Slice (thn (po_none.run pins s1 σ H1 (fun o H2 => o = none ∧ H2 = H1) I1 ⟨rfl, rfl⟩) ?_)
  rintro vl s2 ⟨l, H2, I2, pl, rfl, rfl⟩
  cases pl
  refine thn (po_none.run pins s2 σ H2 (fun o H3 => o = none ∧ H3 = H2) I2 ⟨rfl, rfl⟩) ?_
  rintro vu s3 ⟨u, H3, I3, pu, rfl, rfl⟩
  cases pu
  refine thn (hst.run pins s3 σ H3 (fun o H4 => o = some (-1) ∧ H4 = H3) I3 ⟨1, rfl, -1, rfl, rfl, rfl⟩) ?_
  rintro vs s4 ⟨o, H4, I4, ps, rfl, rfl⟩
  have I5 : Inv X pins σ H4 { s4 with heap := s4.heap.push { cls := .type "slice", data := .fields #[.none, .none, vs] } } := I4.kept (t' := s4.toks) fun b ob q => Heap.get?_push_of_some _ q
  obtain ⟨its, r, ht, hz⟩ := I5.tuple hx
  have hlen := r.length
  show wpAny (model X.prog X.w) X.A (subscriptTail e (.Slice none none (some (.UnaryOp .USub (.Constant (.int 1) k p1) p2)) p3) (.ref a) (.ref s4.heap.objs.size)) (EP X pins σ Q) X.xe _
  refine tail_any (ops := [.ref a, .ref s4.heap.objs.size]) ht.typeIs (PyProof.Rows.slot_tuple_getitem.lookup) ?_ (by with_unfolding_all rfl)
  refine getItem_back ht (Heap.IsSliceOf.new _ .none .none vs) ps ?_ (by rw [List.size_toArray]; omega)
  refine ⟨.ref _, _, I5.laid (t' := s4.toks) (o := .tup xs.reverse) (fun b ob q => Heap.get?_push_of_some _ q) (Nat.le_refl _) ?_, rfl, q _ (I5.hok.fresh (Nat.le_refl _))⟩
  exact ⟨by rw [List.length_reverse]; exact hz, _, r.reverse, IsTup.new _ _⟩

/-! ### enumerate(tuple) -/
theorem enum_new1 {v : Value} {o : Obj} {H : Heap → Prop} (B : Begins v o H) :
    Meets (Builtin.«enumerate.__new__» ⟨[.type "enumerate", v], []⟩) (fun _ R s => H s.heap ∧
      R (.ok (.ret (.ref (s.heap.push o).objs.size))) { s with heap := (s.heap.push o).push { cls := .type "enumerate", data := .fields #[.none, .bool false, .ref s.heap.objs.size, rawInt 0, .none, .none] } }) :=
  .of_wp fun prog w A R s h => by
    obtain ⟨hp, g, d, tk, os⟩ := s
    obtain ⟨h1, h⟩ := h
    have sub := sub_enumerate
    have go : ∀ {A' : Around} {E : Value → Shared → Prop} {Q : Value → Shared → Prop}, Q (.ref hp.objs.size) ⟨hp.push o, g, d, tk, os⟩ → wpAny (model prog w) A' (pyIter v) Q E ⟨hp, g, d, tk, os⟩ :=
      fun q => B.iter prog w _ _ ⟨hp, g, d, tk, os⟩ _ h1 q
    wp_walk using go
    refine wpAny_stack_any fun st => wpAny_pure ?_
    split
    · rename_i c _ _ _ _ _
      cases (c == Value.type "enumerate") <;> (wp_walk using go; exact ⟨_, rfl, h⟩)
    · wp_walk using go
      exact ⟨_, rfl, h⟩
theorem enum_begins1 {prog : Program} {w : World} {A : Around} {E : Value → Shared → Prop} {s : Shared} {v : Value} {o : Obj} {H : Heap → Prop} {Q : Value → Shared → Prop} (B : Begins v o H) (h1 : H s.heap)
    (h : ∀ h', IsEnum h' (s.heap.objs.size + 1) s.heap.objs.size 0 .none → h'.get? s.heap.objs.size = some o → (∀ b o, s.heap.get? b = some o → h'.get? b = some o) → Q (.ref (s.heap.objs.size + 1)) { s with heap := h' }) :
    wpAny (model prog w) A (call (.type "enumerate") [v]) Q E s := by
  have hz : (s.heap.push o).objs.size = s.heap.objs.size + 1 := Heap.size_push ..
  refine callType_new F.called_enumerate (by decide) (F.typeCall_enumerate_1 _) (F.newCall_enumerate_1 _) (fun obj => F.args_object_init_2 obj _) F.entry_enumerate_new (enum_new1 B) ⟨h1, ?_⟩
  show _ ∧ _
  rw [hz]
  have he : IsEnum ((s.heap.push o).push { cls := .type "enumerate", data := .fields #[.none, .bool false, .ref s.heap.objs.size, rawInt 0, .none, .none] }) (s.heap.objs.size + 1) s.heap.objs.size 0 .none := by
    have z := Heap.get?_push_size (s.heap.push o) (o := { cls := .type "enumerate", data := .fields #[.none, .bool false, .ref s.heap.objs.size, rawInt 0, .none, .none] }) rfl
    rw [hz] at z
    exact z
  exact ⟨⟨_, he, rfl⟩, h _ he (Heap.get?_push_of_some _ (Heap.get?_push_size _ B.free)) fun b ob x => Heap.get?_push_of_some _ (Heap.get?_push_of_some _ x)⟩

/-- the tuple at a: each item in a new pair -/
def Itn (K : PySem.W.Frag) (a : Addr) : It where
  go i H := ∃ (xs : List V) (x : V), SqT K H a xs ∧ xs[i]? = some x
  yld i H v H' := ∃ T x, v = .ref T ∧ H T = none ∧ H' = upd H T (.tup [.int (i : Nat), x]) ∧ ∀ xs, SqT K H a xs → xs[i]? = some x
  stop i H := ∃ xs : List V, SqT K H a xs ∧ xs.length = i
theorem turn_enumT {P : Program} {w : World} {K : PySem.W.Frag} {elts : List Expr} {kk : Nat} {tpos : Pos} (a e it : Addr) :
    Turn P w K (.Tuple elts kk tpos) (Itn K a) [e, it] e (fun i h => (∃ old, IsEnum h e it ((i : Nat) : Int) old) ∧ h.IsTupleIter it a i ∧ e ≠ it ∧ a ≠ it ∧ e ≠ a) where
  mem := List.mem_cons_self
  obj := by
    rintro i h ⟨⟨old, he⟩, ⟨o, ho, hc, hd⟩, _⟩ b hb
    rcases List.mem_cons.mp hb with rfl | hb
    · exact ⟨_, he, fun v q => nomatch q⟩
    · cases List.mem_singleton.mp hb
      exact ⟨o, ho, fun v q => by rw [hd] at q; cases q⟩
  keep := by
    rintro i h h' ⟨⟨old, he⟩, hi, hr⟩ k
    exact ⟨⟨old, k e List.mem_cons_self _ he⟩, hi.at fun o q => k it (List.mem_cons_of_mem _ List.mem_cons_self) o q, hr⟩
  item := by
    intro X hP hw hK hc i pins s σ H E I hf st hg
    subst hP hw hK
    obtain ⟨⟨old, he⟩, hit, hne, hai, hea⟩ := st
    obtain ⟨xs, x, hq, hx⟩ := hg
    obtain ⟨its, rv, p, hz⟩ := I.tuple hq
    obtain ⟨u, hu, ru⟩ := rv.get hx
    have hlt : i < its.toArray.size := by
      rw [List.size_toArray]
      exact (List.getElem?_eq_some_iff.mp hu).1
    have hel : e < s.heap.objs.size := Heap.lt_size he
    have hil : it < s.heap.objs.size := hit.elim fun _ z => Heap.lt_size z.1
    have D := Draws.tuple (prog := X.prog) (w := X.w) (A := X.A.in1) (I.ok.hd hc) it a hai its.toArray
    refine wpAny_pyNext_enum_itemD D he ⟨hit, p⟩ hlt hne (fun z => ?_) fun y h' tk hy ho hst hT hsz hk => ?_
    · rcases List.mem_cons.mp z with z | z
      · exact hne z
      · exact hea (List.mem_singleton.mp z)
    have ey : y = u := by
      have e1 : its.toArray[i]? = some u := by simpa using hu
      exact Option.some.inj (hy.symm.trans e1)
    subst ey
    refine ⟨_, rfl, wpAny_letOwnedTupleGo_enum (s := { s with heap := h', toks := tk + 1 }) ho fun h'' he' sb => ?_⟩
    have hT2 : h''.get? s.heap.objs.size = some { cls := .type "tuple", data := .seq #[.int i tk, y] } := (sb.2 _ (Nat.ne_of_gt hel)).trans hT
    have new : ObjOk X.prog X.w (upd H s.heap.objs.size (.tup [.int (i : Nat), x])) h'' s.heap.objs.size (.tup [.int (i : Nat), x]) :=
      ⟨by show 2 ≤ sizeLine; decide, [.int i tk, y], .cons ⟨_, rfl⟩ (.cons ru .nil), ⟨_, hT2, rfl, _, rfl⟩⟩
    have I1 : Inv X pins σ (upd H s.heap.objs.size (.tup [.int (i : Nat), x])) { s with heap := h'', toks := tk + 1 } :=
      I.turnedNew (ch := [e, it]) (fun b ob hb q => (sb.2 b (fun z => hb (z ▸ List.mem_cons_self))).trans
        (hk b ob (fun z => hb (z ▸ List.mem_cons_self)) (fun z => hb (z ▸ List.mem_cons_of_mem _ List.mem_cons_self)) q)) hf (Nat.le_refl _) new
    refine ⟨.ref s.heap.objs.size, _, I1, rfl, ⟨_, x, rfl, I.hok.fresh (Nat.le_refl _), rfl, fun ys hy => ?_⟩, ⟨⟨y, ?_⟩, hst.1.at fun o q => (sb.2 it (Ne.symm hne)).trans q, hne, hai, hea⟩, fun b hb => ?_⟩
    · rw [I.tuple_inj hy hq]
      exact hx
    · have e1 : ((i + 1 : Nat) : Int) = (i : Int) + 1 := by omega
      rw [e1]
      exact he'
    · have hb' : b < s.heap.objs.size := by
        rcases List.mem_cons.mp hb with rfl | hb
        · exact hel
        · cases List.mem_singleton.mp hb
          exact hil
      rw [upd_ne (Nat.ne_of_lt hb')]
      exact (hf b hb).1
  done := by
    intro X hP hw hK hc i pins s σ H E I hf st hg
    subst hP hw hK
    obtain ⟨⟨old, he⟩, hit, hne, hai, hea⟩ := st
    obtain ⟨xs, hq, hx⟩ := hg
    obtain ⟨its, rv, p, hz⟩ := I.tuple hq
    obtain ⟨f0, f1, f2, f3, f4, f5⟩ := hf it (List.mem_cons_of_mem _ List.mem_cons_self)
    have hl : i = its.toArray.size := by
      rw [List.size_toArray, ← rv.length]
      exact hx.symm
    subst hl
    have D := Draws.tuple (prog := X.prog) (w := X.w) (A := X.A.in1) (I.ok.hd hc) it a hai its.toArray
    exact wpAny_pyNext_enum_endD D he ⟨hit, p⟩ fun h' eb => ⟨rfl, I.turned (t' := s.toks) (fun b o hb q => eb b o hb q) f0 f1 f3 f4 f5⟩
  self := by
    rintro A i s Q E ⟨⟨_, he⟩, _⟩ h
    exact wpAny_pyIter_enum he h
def iEnumT (K : PySem.W.Frag) (ta : TA) : TI := fun σ H R => ta σ H fun vs H1 => ∃ a xs, vs = [.ref a] ∧ SqT K H1 a xs ∧ R (Itn K a) H1
theorem pi_enumT {X : Cx} {e : Expr} {ta : TA} {p pos tpos : Pos} {elts : List Expr} {kk : Nat} (hg : Gl X "enumerate") (hm : X.mg "enumerate" = none) (ha : PA X [e] ta) (hs : starEach [e] X.env = [(false, eval e X.env)] := by rfl) :
    PI X (.Tuple elts kk tpos) (.Call (.Name "enumerate" p) [e] [] pos) (iEnumT X.K ta) := by
  constructor
  intro pins s σ H R I h
  refine Call_ (ld_blt I hg hm boot_enumerate (PyProof.Rows.callWith_type1 (thn (ha.run pos pins s σ H _ I h) ?_) hs rfl))
  rintro us s1 ⟨vs, H1, I1, r1, a, xs, rfl, hq, q⟩
  obtain ⟨u, rfl, r⟩ := vals1 r1
  have eu : u = .ref a := r
  subst eu
  obtain ⟨its, rv, p', hz⟩ := I1.tuple hq
  have hal : a < s1.heap.objs.size := p'.lt
  refine enum_begins1 (begins_tuple a its.toArray) p' fun h' he hit hk => wpAny_pyIter_enum he ?_
  have I2 : Inv X pins σ H1 { s1 with heap := h' } := I1.kept (t' := s1.toks) hk
  refine ⟨s1.heap.objs.size + 1, [s1.heap.objs.size + 1, s1.heap.objs.size], _, _, H1, rfl, I2, turn_enumT a (s1.heap.objs.size + 1) s1.heap.objs.size,
    ⟨⟨.none, he⟩, ⟨_, hit, rfl, rfl⟩, Nat.succ_ne_self _, Nat.ne_of_lt hal, Nat.ne_of_gt (Nat.lt_succ_of_lt hal)⟩, fun b hb => ?_, q⟩
  have hle : s1.heap.objs.size ≤ b := by
    rcases List.mem_cons.mp hb with rfl | hb
    · exact Nat.le_add_right _ _
    · cases List.mem_singleton.mp hb
      exact Nat.le_refl _
  exact I1.fpOk hle (I1.hok.fresh hle)
theorem walk_enumT {K : PySem.W.Frag} {a : Addr} {xs : List V} : Walk (Itn K a) xs.length (fun H => SqT K H a xs) (YPair (fun i => some (.int (i : Nat))) (fun i => xs[i]?)) where
  goes := fun i H hi h => ⟨xs, xs[i], h, List.getElem?_eq_getElem hi⟩
  stops := fun H h => ⟨xs, h, rfl⟩
  yields := by
    rintro i H v H' hi h ⟨T, x, rfl, nT, rfl, f⟩
    exact ⟨T, _, x, rfl, nT, rfl, rfl, f xs h⟩
end Hr

namespace Hr
open PySem PySem.Spec PyProof.Rows L2
section
variable {X : Cx} {CX : CXT} {k : Nat} {f : Addr} {fd : FuncData} {ps ks : List Str} {sp : Sp} {E : XK} {x : Str} {p pos : Pos} {kws : List Keyword} {tk : TA} {g : List Value → List Value → List Value} {gV : List V → List V → List V}
/-- a call whose arguments are all passed by name -/
def tCallN (sp : Sp) (gV : List V → List V → List V) (E : XK) (tk : TA) : TE := fun σ H Q => tk σ H fun zs H2 => sp (gV [] zs) H2 Q E
theorem pe_callK0G (F : FnG X.prog X.w X.K X.mg X.base CX k f fd ps sp) (hr : Room k X.A) (gg : X.A.guards = some []) (hg : Gl X x) (hm : X.mg x = some (.ref f)) (hk : PySem.W.keepIn X.K (.ref f) = true) (hb : KBinds X.K fd ps ks g gV) (hx : Passes CX X E)
    (hkw : PK X kws tk) (hall : (backToKw pos (keywordEach kws X.env)).all (·.1.isSome) = true := by rfl) (hks : (backToKw pos (keywordEach kws X.env)).filterMap (·.1) = ks := by rfl)
    (hdb : (x == ("__debug__" : Str)) = false := by decide)
    (hpl : ((backTo pos (starEach [] X.env)).any (·.1) || (backToKw pos (keywordEach kws X.env)).any (·.1.isNone)) = false := by rfl) :
    PE X (.Call (.Name x p) [] kws pos) (tCallN sp gV E tk) := by
  constructor
  intro pins s σ H Q I h
  refine wpAny_Call_Name_kw (ld_glob I hg hm ?_ hdb)
  refine PySem.W.callWith_KW0 (h₀ := X.base) I.ok.mod.kin hk hall (thn (hkw.run pos pins s σ H _ I h) ?_) hpl
  rintro ws s2 ⟨zs, H2, I2, rz, q2⟩
  refine ⟨I2.kIn, ?_⟩
  rw [hks]
  have r2 := hb.rel (vs := []) (us := []) .nil rz
  have hl : (g [] ws).length = ps.length := r2.length.symm.trans (F.len _ _ _ _ q2)
  refine wpAny_call (codeAny_mono (F.go X.A X.stack s2 H2 ⟨[], ks.zip ws⟩ _ _ Q E hr gg I2.env0 (hb.to s2 [] ws I2.kIn hl) r2 q2) ?_)
  intro r s' hq
  have z := endG hx I2 hq
  cases r with
  | error _ => exact z
  | ok fl => cases fl <;> exact z
theorem pe_callK0 (F : FnOk X.prog X.w X.K X.mg X.base CX k f fd ps sp) (hr : Room k X.A) (hg : Gl X x) (hm : X.mg x = some (.ref f)) (hk : PySem.W.keepIn X.K (.ref f) = true) (hb : KBinds X.K fd ps ks g gV) (hx : Passes CX X E)
    (hkw : PK X kws tk) (hall : (backToKw pos (keywordEach kws X.env)).all (·.1.isSome) = true := by rfl) (hks : (backToKw pos (keywordEach kws X.env)).filterMap (·.1) = ks := by rfl)
    (hdb : (x == ("__debug__" : Str)) = false := by decide)
    (hpl : ((backTo pos (starEach [] X.env)).any (·.1) || (backToKw pos (keywordEach kws X.env)).any (·.1.isNone)) = false := by rfl) :
    PE X (.Call (.Name x p) [] kws pos) (tCallN sp gV E tk) := by
  constructor
  intro pins s σ H Q I h
  refine wpAny_Call_Name_kw (ld_glob I hg hm ?_ hdb)
  refine PySem.W.callWith_KW0 (h₀ := X.base) I.ok.mod.kin hk hall (thn (hkw.run pos pins s σ H _ I h) ?_) hpl
  rintro ws s2 ⟨zs, H2, I2, rz, q2⟩
  refine ⟨I2.kIn, ?_⟩
  rw [hks]
  exact run_fnk F hr hb hx I2 (vs := []) (us := []) .nil rz q2
end
/-- two arguments by name, the second one first -/
def sw2 {α : Type} (us ws : List α) : List α := match us, ws with
  | [], [a, b] => [b, a]
  | _, _ => []
theorem sw2_rel {vs : List V} {us : List Value} {zs : List V} {ws : List Value} (r : Vals vs us) (q : Vals zs ws) : Vals (sw2 vs zs) (sw2 us ws) := by
  cases r with
  | cons _ _ => exact .nil
  | nil =>
    cases q with
    | nil => exact .nil
    | cons q1 q =>
      cases q with
      | nil => exact .nil
      | cons q2 q =>
        cases q with
        | nil => exact .cons q2 (.cons q1 .nil)
        | cons _ _ => exact .nil
theorem sw2_binds {K : PySem.W.Frag} {x qual : Str} {st : Stmt} {f : Addr} {fd : FuncData} {p1 p2 : Str} (F : Fun K x qual st f fd)
    (h : ∀ (kV doc pm : Value) (an : Option Addr) (cdv ct a b : Value), bindArgs (PySem.W.fnOf x qual (defArgs st) (defBody st) (defScope st) .none kV doc pm an cdv ct) ⟨[], [(p2, a), (p1, b)]⟩ = pure [(p1, b), (p2, a)]) :
    KBinds K fd [p1, p2] [p2, p1] sw2 sw2 := by
  obtain ⟨oc, od, kV, doc, pm, an, cdv, ct, osl, rfl, lk, hcd⟩ := F.ex
  refine ⟨fun s us ws _ hl => ?_, sw2_rel⟩
  match us, ws, hl with
  | [], [a, b], _ => exact .of_eq (h kV doc pm an cdv ct a b)
  | _ :: _, _, hl => exact absurd hl (by intro z; cases z)
  | [], [], hl => exact absurd hl (by intro z; cases z)
  | [], [_], hl => exact absurd hl (by intro z; cases z)
  | [], _ :: _ :: _ :: _, hl => exact absurd hl (by intro z; cases z)
end Hr
namespace Hr
open PySem PySem.Spec PyProof.Rows L2 Evl
section
variable {K : PySem.W.Frag} {σ : L2.St} {H : Hp}
theorem Cw.more {H H1 H2 : Hp} {f : Nat → Bool} {v : Nat → V} {D : Addr} {i : Nat} (p : Cw H f v D i H1) (e : Ex H1 H2) : Cw H f v D i H2 := ⟨p.1, p.2.1.trans e, e D _ p.2.2⟩
/-- a comprehension over anything that is walked -/
theorem el_lcW {J : It} {n : Nat} {G : Hp → Prop} {Y : Nat → Hp → V → Hp → Prop} {wi : TI} {g : TG} {tt : TT} {te : TE} {vs : List Nat} (wk : Walk J n G Y) (f : Nat → Bool) (v : Nat → V) (hz : n ≤ 40000)
    (hi : ∀ H1, Ex H H1 → ∀ R : It → Hp → Prop, (∀ H2, Ex H1 H2 → R J H2) → wi σ H1 R) (hG : ∀ H1, Ex H H1 → G H1) (hY : ∀ i H1 x H2, Y i H1 x H2 → Ex H1 H2)
    (hs : ∀ i x H1 H2, i < n → Ex H H1 → Y i H1 x H2 → ∃ σ2, (∀ k : L2.St → Hp → Prop, k σ2 H2 → g x (wipe σ vs) H2 k) ∧ wipe σ2 vs = wipe σ vs ∧ EvT tt σ2 H2 (f i) ∧ (f i = true → Ev te σ2 H2 (v i))) :
    EvL (tLc wi g tt te vs) σ H (given n f v) := fun H0 e Q q => hi H0 e _ fun H1 e1 D hD => by
  refine lc_it wk (fun i H2 => Cw H1 f v D i H2) ⟨hD, Ex.new hD, upd_same⟩ (fun i H2 _ p => hG H2 ((e.trans e1).trans p.2.1)) (fun i x H2 H3 hi p y => ?_) (fun H2 p => q D H2 (fresh_back e1 p.1) (e1.trans p.2.1) p.2.2)
  have e3 := hY i H2 x H3 y
  obtain ⟨σ2, hk, hw, ht, he⟩ := hs i x H2 H3 hi ((e.trans e1).trans p.2.1) y
  refine hk _ ⟨hw, ?_⟩
  obtain ⟨p1, p2, p3⟩ := Hr.Cw.more p e3
  refine ht H3 (Ex.refl H3) _ fun H4 e4 => ?_
  cases hf : f i with
  | true =>
    show te σ2 H4 _
    refine he hf H4 e4 _ fun H5 e5 => ⟨given i f v, e5 D _ (e4 D _ p3), sz_lt (by have := given_len i f v; omega), p1, Ex.mut ((p2.trans e4).trans e5) p1, ?_⟩
    rw [given_yes hf]
    exact upd_same
  | false =>
    refine ⟨p1, p2.trans e4, ?_⟩
    rw [given_no hf]
    exact e4 D _ p3
theorem given_all (n : Nat) (v : Nat → V) : given n (fun _ => true) v = (List.range n).map v := by
  unfold given
  rw [List.filter_eq_self.mpr fun _ _ => rfl]
theorem given_none {n : Nat} {f : Nat → Bool} (v : Nat → V) (h : ∀ i, i < n → f i = false) : given n f v = [] := by
  unfold given
  rw [List.filter_eq_nil_iff.mpr fun i hi => by rw [h i (List.mem_range.mp hi)]; exact Bool.false_ne_true]
  rfl
theorem et_yes : EvT tYes σ H true := fun H1 _ _ q => q H1 (Ex.refl H1)
end
end Hr
namespace Hr
open PySem PySem.Spec PyProof.Rows L2 Evl
section
variable {σ : L2.St} {H : Hp} {Q : VK} {te ta tb : TE} {tr : TA} {D : Ends} {r : List V → Hp → VK → Prop} {q : R2} {tu tw : TS} {t : TT} {i : Nat}
theorem r_ret (h : te σ H D.rt) : tRet te D σ H := h
theorem r_cb (h : tr σ H fun vs H1 => r vs H1 Q) : tCB r tr σ H Q := h
theorem r_arg {Q : List V → Hp → Prop} (h : te σ H fun x H1 => tr σ H1 fun xs H2 => Q (x :: xs) H2) : tCons te tr σ H Q := h
theorem r_seq (h : tu { D with nx := tw D } σ H) : tSeq tu tw D σ H := h
theorem r_set (h : te σ H fun x H1 => D.nx (σ.set i (some x)) H1) : tAsg te (gName i) D σ H := h
theorem r_if (h : t σ H fun b H1 => if b = true then tu D σ H1 else tw D σ H1) : tIfS t tu tw D σ H := h
theorem r_op (h : ta σ H fun x H1 => tb σ H1 fun y H2 => q x y H2 Q) : tOp q ta tb σ H Q := h
theorem r_test {Q : Bool → Hp → Prop} (h : te σ H fun x H' => ∃ k, x = .bl k ∧ Q k H') : tTest te σ H Q := h
theorem r_B {Q : Bool → Hp → Prop} (h : te σ H fun x H' => ∃ k, x = .bl k ∧ Q k H') : tB te σ H Q := h
end
end Hr
namespace Hr
open PySem L2
theorem r_yes {σ : L2.St} {H : Hp} {Q : Bool → Hp → Prop} (h : Q true H) : tYes σ H Q := h
end Hr

/-! The mathematics of cascades, in plain Lean. -/
namespace HrM
open PySem

/-- how many sets of k of n things -/
def ch : Nat → Nat → Nat
  | _, 0 => 1
  | 0, _ + 1 => 0
  | n + 1, k + 1 => ch n k + ch n (k + 1)
theorem ch_zero (n : Nat) : ch n 0 = 1 := by cases n <;> rfl
theorem ch_succ (n k : Nat) : ch (n + 1) (k + 1) = ch n k + ch n (k + 1) := rfl
theorem ch_none (k : Nat) : ch 0 (k + 1) = 0 := rfl
theorem ch_lt : ∀ {n k : Nat}, n < k → ch n k = 0
  | _, 0, h => absurd h (Nat.not_lt_zero _)
  | 0, _ + 1, _ => rfl
  | n + 1, k + 1, h => by rw [ch_succ, ch_lt (by omega : n < k), ch_lt (by omega : n < k + 1)]
theorem ch_self : ∀ n : Nat, ch n n = 1
  | 0 => rfl
  | n + 1 => by rw [ch_succ, ch_self n, ch_lt (Nat.lt_succ_self n)]
theorem ch_pos : ∀ {n k : Nat}, k ≤ n → 1 ≤ ch n k
  | n, 0, _ => by rw [ch_zero]; exact Nat.le_refl 1
  | 0, _ + 1, h => absurd h (by omega)
  | n + 1, k + 1, h => by
    have := ch_pos (n := n) (k := k) (by omega)
    rw [ch_succ]
    omega
theorem ch_step (n : Nat) : ∀ k : Nat, ch n k ≤ ch (n + 1) k
  | 0 => by rw [ch_zero, ch_zero]; exact Nat.le_refl 1
  | k + 1 => by rw [ch_succ]; omega
theorem ch_mono {a b : Nat} (k : Nat) (h : a ≤ b) : ch a k ≤ ch b k := by
  induction h with
  | refl => exact Nat.le_refl _
  | step _ ih => exact Nat.le_trans ih (ch_step _ k)
theorem ch_one (n : Nat) : ch n 1 = n := by
  induction n with
  | zero => rfl
  | succ n ih =>
    have e := ch_succ n 0
    rw [ch_zero] at e
    rw [e, ih]
    omega
theorem ch_mul : ∀ n k : Nat, ch n (k + 1) * (k + 1) = ch n k * (n - k)
  | 0, 0 => rfl
  | 0, k + 1 => by rw [ch_none, ch_none, Nat.zero_mul, Nat.zero_mul]
  | n + 1, 0 => by
    rw [ch_zero]
    have := ch_one (n + 1)
    rw [show (0 + 1 : Nat) = 1 from rfl, this]
    omega
  | n + 1, k + 1 => by
    have h1 := ch_mul n (k + 1)
    have h2 := ch_mul n k
    rw [ch_succ n (k + 1), ch_succ n k, Nat.add_mul, Nat.add_mul, h1]
    have e0 : n + 1 - (k + 1) = n - k := by omega
    rw [e0, ← h2]
    by_cases h : k + 1 ≤ n
    · have e1 : ch n (k + 1) * (k + 1 + 1) + ch n (k + 1) * (n - (k + 1)) = ch n (k + 1) * (k + 1) + ch n (k + 1) * (n - k) := by
        rw [← Nat.mul_add, ← Nat.mul_add]
        congr 1
        omega
      exact e1
    · rw [ch_lt (by omega : n < k + 1)]
      omega
theorem ch_le_pow (a : Nat) : ∀ b : Nat, ch a b ≤ a ^ b
  | 0 => by rw [ch_zero, Nat.pow_zero]; exact Nat.le_refl 1
  | b + 1 => by
    have h := ch_mul a b
    have h2 : ch a (b + 1) ≤ ch a (b + 1) * (b + 1) := Nat.le_mul_of_pos_right _ (by omega)
    have h3 : ch a b * (a - b) ≤ a ^ b * a := Nat.mul_le_mul (ch_le_pow a b) (Nat.sub_le _ _)
    rw [Nat.pow_succ]
    omega
theorem log_lt {n m : Nat} (h : n < 2 ^ m) (hm : 0 < m) : n.log2 < m := by
  by_cases h0 : n = 0
  · subst h0
    exact hm
  · exact (Nat.log2_lt h0).mpr h
theorem ch_bits {a b m : Nat} (h : a < 2 ^ m) (hb : b ≤ 20) (hm : 0 < m) (hm2 : m ≤ 5000) : (ch a b).log2 < bitsLine := by
  have h1 : ch a b ≤ (2 ^ m) ^ b := Nat.le_trans (ch_le_pow a b) (Nat.pow_le_pow_left (Nat.le_of_lt h) b)
  rw [← Nat.pow_mul] at h1
  have h2 : ch a b < 2 ^ (m * b + 1) := Nat.lt_of_le_of_lt h1 (Nat.pow_lt_pow_right (by decide) (Nat.lt_succ_self _))
  have h3 := log_lt h2 (by omega)
  have h4 : m * b ≤ 5000 * 20 := Nat.mul_le_mul hm2 hb
  have h5 : bitsLine = 134217728 := by decide
  omega
def fac : Nat → Nat
  | 0 => 1
  | n + 1 => (n + 1) * fac n
theorem fac_pos : ∀ n : Nat, 1 ≤ fac n
  | 0 => Nat.le_refl 1
  | n + 1 => Nat.mul_le_mul (by omega : 1 ≤ n + 1) (fac_pos n)
theorem ch_fac (n : Nat) : ∀ k : Nat, k ≤ n → ch n k * (fac k * fac (n - k)) = fac n
  | 0, _ => by rw [ch_zero, Nat.sub_zero]; show 1 * (1 * fac n) = fac n; omega
  | k + 1, h => by
    have ih := ch_fac n k (by omega)
    have e : n - k = (n - (k + 1)) + 1 := by omega
    have h1 := ch_mul n k
    have h2 : fac (n - k) = (n - k) * fac (n - (k + 1)) := by
      rw [e]
      rfl
    rw [h2] at ih
    show ch n (k + 1) * ((k + 1) * fac k * fac (n - (k + 1))) = fac n
    have e1 : ch n (k + 1) * ((k + 1) * fac k * fac (n - (k + 1))) = (ch n (k + 1) * (k + 1)) * (fac k * fac (n - (k + 1))) := by
      rw [Nat.mul_assoc (k + 1), ← Nat.mul_assoc]
    rw [e1, h1, ← ih]
    rw [Nat.mul_assoc, ← Nat.mul_assoc (n - k), Nat.mul_comm (n - k) (fac k), Nat.mul_assoc (fac k)]
theorem ch_symm {n k : Nat} (h : k ≤ n) : ch n k = ch n (n - k) := by
  have h1 := ch_fac n k h
  have h2 := ch_fac n (n - k) (Nat.sub_le _ _)
  have e : n - (n - k) = k := by omega
  rw [e, Nat.mul_comm (fac (n - k))] at h2
  exact Nat.eq_of_mul_eq_mul_right (Nat.mul_pos (fac_pos k) (fac_pos (n - k))) (h1.trans h2.symm)
theorem falling (a : Nat) : ∀ k : Nat, k ≤ a → Builtin.Math.fallingProduct (a : Int) k = ((ch a k * fac k : Nat) : Int)
  | 0, _ => by rw [ch_zero]; rfl
  | k + 1, h => by
    rw [PySem.W.mc_fp_succ, falling a k (by omega)]
    have e : ((a : Int) - (k : Int)) = ((a - k : Nat) : Int) := by omega
    rw [e, ← Int.natCast_mul]
    congr 1
    show ch a k * fac k * (a - k) = ch a (k + 1) * ((k + 1) * fac k)
    rw [← Nat.mul_assoc, ch_mul, Nat.mul_assoc, Nat.mul_comm (fac k), Nat.mul_assoc]
theorem comb_nat (a b : Nat) : PySem.W.mcComb (a : Int) (b : Int) = ((ch a b : Nat) : Int) := by
  by_cases h : b ≤ a
  · have hm : ∃ m : Nat, min (b : Int) ((a : Int) - (b : Int)) = (m : Int) ∧ m ≤ a ∧ ch a b = ch a m := by
      by_cases hb : b ≤ a - b
      · exact ⟨b, by omega, h, rfl⟩
      · exact ⟨a - b, by omega, by omega, ch_symm h⟩
    obtain ⟨m, e, hma, e2⟩ := hm
    rw [PySem.W.mcComb_at (by omega) (by omega) e, e2]
    rw [Int.toNat_natCast, falling a m hma, falling m m (Nat.le_refl m), ch_self, Nat.one_mul, ← Int.natCast_ediv]
    congr 1
    exact Nat.mul_div_cancel _ (fac_pos m)
  · rw [PySem.W.mcComb_above (by omega), ch_lt (by omega)]
    rfl

/-! ### cascades -/
def val : Nat → List Nat → Nat
  | _, [] => 0
  | s, a :: r => ch a s + val (s - 1) r
structure Cas (s : Nat) (xs : List Nat) : Prop where
  len : xs.length ≤ s
  low : ∀ i a, xs[i]? = some a → s - i ≤ a
  fall : ∀ i a b, xs[i]? = some a → xs[i + 1]? = some b → b < a
theorem Cas.nil (s : Nat) : Cas s [] := ⟨Nat.zero_le _, fun i a h => by simp at h, fun i a b h => by simp at h⟩
theorem Cas.tail {s a : Nat} {r : List Nat} (c : Cas (s + 1) (a :: r)) : Cas s r :=
  ⟨Nat.le_of_succ_le_succ c.len, fun i x h => by have := c.low (i + 1) x (by simpa using h); omega, fun i x y h h' => c.fall (i + 1) x y (by simpa using h) (by simpa using h')⟩
theorem Cas.pos {s a : Nat} {r : List Nat} (c : Cas s (a :: r)) : 1 ≤ s := by
  have := c.len
  rw [List.length_cons] at this
  omega
theorem Cas.head {s a : Nat} {r : List Nat} (c : Cas s (a :: r)) : s ≤ a := c.low 0 a rfl
theorem val_lt : ∀ {xs : List Nat} {s u : Nat}, Cas s xs → (∀ a, xs[0]? = some a → a < u) → s ≤ u → val s xs < ch u s
  | [], s, u, _, _, h => ch_pos h
  | a :: r, s, u, c, hu, h => by
    obtain ⟨t, rfl⟩ : ∃ t, s = t + 1 := ⟨s - 1, by have := c.pos; omega⟩
    have hd := c.head
    have ih := val_lt (u := a) c.tail (fun b hb => c.fall 0 a b rfl (by simpa using hb)) (by omega)
    have ha := hu a rfl
    have hm := ch_mono (t + 1) (show a + 1 ≤ u from ha)
    show ch a (t + 1) + val (t + 1 - 1) r < ch u (t + 1)
    rw [Nat.add_sub_cancel]
    rw [ch_succ] at hm
    omega
def iz (xs : List Nat) : List Int := List.map (fun (n : Nat) => (n : Int)) xs
theorem iz_len (xs : List Nat) : (iz xs).length = xs.length := List.length_map _
theorem iz_append (xs ys : List Nat) : iz (xs ++ ys) = iz xs ++ iz ys := List.map_append
theorem iz_get (xs : List Nat) (i : Nat) : (iz xs)[i]? = Option.map (fun (n : Nat) => (n : Int)) xs[i]? := List.getElem?_map
theorem cas_lt : ∀ {xs ys : List Nat} {s : Nat}, Cas s xs → Cas s ys → HT.lexLt (iz xs) (iz ys) = true → val s xs < val s ys
  | [], [], _, _, _, h => by cases h
  | [], y :: ys, s, _, c, _ => by
    have := ch_pos c.head
    show 0 < ch y s + val (s - 1) ys
    omega
  | x :: xs, [], _, _, _, h => by cases h
  | x :: xs, y :: ys, s, c, d, h => by
    obtain ⟨t, rfl⟩ : ∃ t, s = t + 1 := ⟨s - 1, by have := c.pos; omega⟩
    have h' : (if (x : Int) = (y : Int) then HT.lexLt (iz xs) (iz ys) else decide ((x : Int) < (y : Int))) = true := h
    by_cases e : x = y
    · subst e
      rw [if_pos rfl] at h'
      have := cas_lt c.tail d.tail h'
      show ch x (t + 1) + val t xs < ch x (t + 1) + val t ys
      omega
    · rw [if_neg (by omega)] at h'
      have hlt : x < y := by
        have := of_decide_eq_true h'
        omega
      have h1 := val_lt (u := x + 1) c (fun a ha => by cases ha; omega) (by have := c.head; omega)
      have h2 := ch_mono (t + 1) (show x + 1 ≤ y from hlt)
      show val (t + 1) (x :: xs) < ch y (t + 1) + val t ys
      omega
theorem lex_eq : ∀ {xs ys : List Nat}, HT.lexLt (iz xs) (iz ys) = false → HT.lexLt (iz ys) (iz xs) = false → xs = ys
  | [], [], _, _ => rfl
  | [], _ :: _, h, _ => by cases h
  | _ :: _, [], _, h => by cases h
  | x :: xs, y :: ys, h, h' => by
    have g : (if (x : Int) = (y : Int) then HT.lexLt (iz xs) (iz ys) else decide ((x : Int) < (y : Int))) = false := h
    have g' : (if (y : Int) = (x : Int) then HT.lexLt (iz ys) (iz xs) else decide ((y : Int) < (x : Int))) = false := h'
    by_cases e : x = y
    · subst e
      rw [if_pos rfl] at g g'
      rw [lex_eq g g']
    · rw [if_neg (by omega)] at g g'
      have := of_decide_eq_false g
      have := of_decide_eq_false g'
      omega
theorem cas_uniq {xs ys : List Nat} {s : Nat} (c : Cas s xs) (d : Cas s ys) (h : val s xs = val s ys) : xs = ys := by
  refine lex_eq ?_ ?_
  · cases e : HT.lexLt (iz xs) (iz ys) with
    | false => rfl
    | true => have := cas_lt c d e; omega
  · cases e : HT.lexLt (iz ys) (iz xs) with
    | false => rfl
    | true => have := cas_lt d c e; omega
theorem cas_dec {xs ys : List Nat} {s : Nat} (c : Cas s xs) (d : Cas s ys) : HT.lexLt (iz xs) (iz ys) = decide (val s xs < val s ys) := by
  cases e : HT.lexLt (iz xs) (iz ys) with
  | true => exact (decide_eq_true (cas_lt c d e)).symm
  | false =>
    cases e' : HT.lexLt (iz ys) (iz xs) with
    | true => exact (decide_eq_false (by have := cas_lt d c e'; omega)).symm
    | false =>
      have := lex_eq e e'
      subst this
      exact (decide_eq_false (by omega)).symm
/-! ### one more item -/
theorem val_snoc : ∀ (xs : List Nat) (s a : Nat), val s (xs ++ [a]) = val s xs + ch a (s - xs.length)
  | [], s, a => by show ch a s + val (s - 1) [] = 0 + ch a (s - 0); rw [Nat.sub_zero]; show ch a s + 0 = _; omega
  | x :: xs, s, a => by
    show ch x s + val (s - 1) (xs ++ [a]) = ch x s + val (s - 1) xs + ch a (s - (xs.length + 1))
    rw [val_snoc xs (s - 1) a, show s - 1 - xs.length = s - (xs.length + 1) by omega]
    omega
theorem Cas.snoc {s : Nat} {xs : List Nat} {b : Nat} (c : Cas s xs) (hl : xs.length + 1 ≤ s) (hb : s - xs.length ≤ b) (hf : ∀ a, xs.getLast? = some a → b < a) : Cas s (xs ++ [b]) where
  len := by rw [List.length_append, List.length_singleton]; exact hl
  low := fun i a h => by
    by_cases hi : i < xs.length
    · rw [List.getElem?_append_left hi] at h
      exact c.low i a h
    · rw [List.getElem?_append_right (by omega)] at h
      by_cases e : i = xs.length
      · subst e
        rw [Nat.sub_self] at h
        cases h
        exact hb
      · rw [List.getElem?_eq_none (by rw [List.length_singleton]; omega)] at h
        cases h
  fall := fun i x y h h' => by
    by_cases hi : i + 1 < xs.length
    · rw [List.getElem?_append_left hi] at h'
      rw [List.getElem?_append_left (by omega)] at h
      exact c.fall i x y h h'
    · by_cases e : i + 1 = xs.length
      · rw [List.getElem?_append_right (by omega), e, Nat.sub_self] at h'
        cases h'
        rw [List.getElem?_append_left (by omega)] at h
        refine hf x ?_
        rw [List.getLast?_eq_getElem?, ← e, Nat.add_sub_cancel]
        exact h
      · rw [List.getElem?_append_right (by omega), List.getElem?_eq_none (by rw [List.length_singleton]; omega)] at h'
        cases h'
theorem Cas.init {s : Nat} {xs : List Nat} {b : Nat} (c : Cas s (xs ++ [b])) : Cas s xs ∧ xs.length + 1 ≤ s ∧ s - xs.length ≤ b ∧ ∀ a, xs.getLast? = some a → b < a := by
  have hl := c.len
  rw [List.length_append, List.length_singleton] at hl
  have hb : (xs ++ [b])[xs.length]? = some b := by rw [List.getElem?_append_right (Nat.le_refl _), Nat.sub_self]; rfl
  refine ⟨⟨by omega, fun i a h => ?_, fun i x y h h' => ?_⟩, hl, c.low _ _ hb, fun a h => ?_⟩
  · exact c.low i a (by rw [List.getElem?_append_left (List.getElem?_eq_some_iff.mp h).1]; exact h)
  · exact c.fall i x y (by rw [List.getElem?_append_left (List.getElem?_eq_some_iff.mp h).1]; exact h) (by rw [List.getElem?_append_left (List.getElem?_eq_some_iff.mp h').1]; exact h')
  · rw [List.getLast?_eq_getElem?] at h
    have h0 := (List.getElem?_eq_some_iff.mp h).1
    refine c.fall (xs.length - 1) a b (by rw [List.getElem?_append_left h0]; exact h) ?_
    rw [show xs.length - 1 + 1 = xs.length by omega]
    exact hb
/-- what the greatest item for the rest makes of the rest -/
theorem cas_add {s p rest a : Nat} {xs : List Nat} (c : Cas s xs) (hl : xs.length + p = s) (hp : 1 ≤ p) (hr : 1 ≤ rest) (hx : ∀ b, xs.getLast? = some b → rest < ch b p) (h1 : ch a p ≤ rest) (h2 : rest < ch (a + 1) p) :
    Cas s (xs ++ [a]) ∧ rest - ch a p < ch a (p - 1) := by
  have hap : p ≤ a := by
    by_cases h : p ≤ a
    · exact h
    · have h3 := ch_mono p (show a + 1 ≤ p by omega)
      rw [ch_self] at h3
      omega
  refine ⟨c.snoc (by omega) (by omega) fun b hb => ?_, ?_⟩
  · have h3 := hx b hb
    by_cases h : a < b
    · exact h
    · have := ch_mono p (show b ≤ a by omega)
      omega
  · obtain ⟨q, rfl⟩ : ∃ q, p = q + 1 := ⟨p - 1, by omega⟩
    rw [ch_succ] at h2
    rw [Nat.add_sub_cancel]
    omega
/-! ### the next number's cascade -/
structure Nxt (s n : Nat) (xs : List Nat) (b : Nat) : Prop where
  cas : Cas s xs
  len : xs.length + 1 ≤ s
  low : s - xs.length ≤ b
  last : ∀ a, xs.getLast? = some a → b ≤ a
  val : HrM.val s xs + ch b (s - xs.length) = n
theorem Nxt.done {s n : Nat} {xs : List Nat} {b : Nat} (h : Nxt s n xs b) (hb : ∀ a, xs.getLast? = some a → a ≠ b) : Cas s (xs ++ [b]) ∧ HrM.val s (xs ++ [b]) = n :=
  ⟨h.cas.snoc h.len h.low fun a ha => by have := h.last a ha; have := hb a ha; omega, by rw [val_snoc]; exact h.val⟩
theorem Nxt.step {s n : Nat} {xs : List Nat} {b : Nat} (h : Nxt s n (xs ++ [b]) b) : Nxt s n xs (b + 1) := by
  obtain ⟨c, h1, h2, h3⟩ := h.cas.init
  have hl := h.len
  rw [List.length_append, List.length_singleton] at hl
  refine ⟨c, h1, by omega, fun a ha => h3 a ha, ?_⟩
  have e := h.val
  rw [val_snoc, List.length_append, List.length_singleton] at e
  obtain ⟨q, hq⟩ : ∃ q, s - xs.length = q + 1 := ⟨s - xs.length - 1, by omega⟩
  rw [show s - (xs.length + 1) = q by omega, hq] at e
  rw [hq, ch_succ]
  omega
theorem Nxt.start {s : Nat} {xs : List Nat} {b : Nat} (c : Cas s (xs ++ [b])) (h : xs.length + 1 = s) : Nxt s (HrM.val s (xs ++ [b]) + 1) xs (b + 1) := by
  obtain ⟨c1, h1, h2, h3⟩ := c.init
  refine ⟨c1, h1, by omega, h3, ?_⟩
  rw [val_snoc, show s - xs.length = 1 by omega, ch_one, ch_one]
  omega
theorem cas_more {s : Nat} {xs : List Nat} (c : Cas s xs) (h : xs.length < s) : Cas s (xs ++ [s - xs.length]) ∧ val s (xs ++ [s - xs.length]) = val s xs + 1 := by
  refine ⟨c.snoc h (Nat.le_refl _) fun a ha => ?_, by rw [val_snoc, ch_self]⟩
  rw [List.getLast?_eq_getElem?] at ha
  have := c.low _ _ ha
  have := (List.getElem?_eq_some_iff.mp ha).1
  omega
/-! ### sums over a cascade -/
/-- the terms g a i, i the size left -/
def terms (g : Nat → Nat → Nat) : Nat → List Nat → List Nat
  | _, [] => []
  | s, a :: r => g a s :: terms g (s - 1) r
theorem terms_len (g : Nat → Nat → Nat) : ∀ (s : Nat) (xs : List Nat), (terms g s xs).length = xs.length
  | _, [] => rfl
  | s, _ :: r => congrArg (· + 1) (terms_len g (s - 1) r)
theorem terms_get (g : Nat → Nat → Nat) : ∀ (s : Nat) (xs : List Nat) (i : Nat), (terms g s xs)[i]? = (xs[i]?).map fun a => g a (s - i)
  | _, [], i => by simp [terms]
  | s, a :: r, 0 => rfl
  | s, a :: r, i + 1 => by
    show (terms g (s - 1) r)[i]? = (r[i]?).map _
    rw [terms_get g (s - 1) r i, show s - 1 - i = s - (i + 1) by omega]
theorem terms_sum : ∀ (s : Nat) (xs : List Nat), (terms ch s xs).sum = val s xs
  | _, [] => rfl
  | s, a :: r => by
    show (ch a s :: terms ch (s - 1) r).sum = _
    rw [List.sum_cons, terms_sum (s - 1) r]
    rfl
theorem iz_sum (xs : List Nat) : (iz xs).sum = ((xs.sum : Nat) : Int) := by
  induction xs with
  | nil => rfl
  | cons x xs ih =>
    show ((x : Int) :: iz xs).sum = _
    rw [List.sum_cons, ih, List.sum_cons]
    omega
/-- a cascade's number is small if its items are -/
theorem val_bits {s B : Nat} {xs : List Nat} (c : Cas s xs) (hs : s ≤ 17) (h : ∀ a ∈ xs, a < 2 ^ B) (hB : 5 ≤ B) : val s xs < 2 ^ (B * s + s) := by
  have hu : s ≤ 2 ^ B := Nat.le_trans hs (Nat.le_trans (by decide : 17 ≤ 2 ^ 5) (Nat.pow_le_pow_right (by decide) hB))
  have h1 := val_lt (u := 2 ^ B) c (fun a ha => h a (List.mem_of_getElem? ha)) hu
  have h2 := ch_le_pow (2 ^ B) s
  rw [← Nat.pow_mul] at h2
  exact Nat.lt_of_lt_of_le h1 (Nat.le_trans h2 (Nat.pow_le_pow_right (by decide) (Nat.le_add_right _ _)))
end HrM

/-! Rows that are moved by a step: the coefficients of p(t + s), s = 1 or -1. -/
namespace HrM
def sumN : Nat → (Nat → Int) → Int
  | 0, _ => 0
  | n + 1, f => sumN n f + f n
theorem sumN_range (n : Nat) (f : Nat → Int) : ((List.range n).map f).sum = sumN n f := by
  induction n with
  | zero => rfl
  | succ n ih =>
    rw [List.range_succ, List.map_append, List.sum_append, ih]
    show sumN n f + (f n + 0) = _
    rw [Int.add_zero]
    rfl
theorem sumN_congr {n : Nat} {f g : Nat → Int} (h : ∀ i, i < n → f i = g i) : sumN n f = sumN n g := by
  induction n with
  | zero => rfl
  | succ n ih =>
    show sumN n f + f n = sumN n g + g n
    rw [ih fun i hi => h i (by omega), h n (by omega)]
theorem sumN_add (n : Nat) (f g : Nat → Int) : sumN n (fun i => f i + g i) = sumN n f + sumN n g := by
  induction n with
  | zero => rfl
  | succ n ih =>
    show sumN n _ + (f n + g n) = (sumN n f + f n) + (sumN n g + g n)
    rw [ih]
    omega
theorem sumN_mul (n : Nat) (c : Int) (f : Nat → Int) : sumN n (fun i => c * f i) = c * sumN n f := by
  induction n with
  | zero => exact (Int.mul_zero c).symm
  | succ n ih =>
    show sumN n _ + _ = c * (sumN n f + f n)
    rw [ih, Int.mul_add]
theorem sumN_abs {n B : Nat} {f : Nat → Int} (h : ∀ i, i < n → (f i).natAbs ≤ B) : (sumN n f).natAbs ≤ n * B := by
  induction n with
  | zero => simp [sumN]
  | succ n ih =>
    have h1 := ih fun i hi => h i (by omega)
    have h2 := h n (by omega)
    have h3 : (sumN (n + 1) f).natAbs ≤ (sumN n f).natAbs + (f n).natAbs := Int.natAbs_add_le _ _
    rw [Nat.succ_mul]
    omega
def sg (s : Int) (n : Nat) : Int := if n % 2 = 0 then 1 else s
theorem sg_succ {s : Int} (h : s * s = 1) (n : Nat) : sg s (n + 1) = s * sg s n := by
  unfold sg
  by_cases e : n % 2 = 0
  · rw [if_pos e, if_neg (by omega), Int.mul_one]
  · rw [if_neg e, if_pos (by omega), h]
def tmv (s : Int) (d : Nat) (x : Nat → Int) (j i : Nat) : Int := sg s (j - i) * ((ch (d - i) (j - i) : Nat) : Int) * x i
def mvA (s : Int) (d : Nat) (x : Nat → Int) (j : Nat) : Int := sumN (j + 1) (tmv s d x j)
section
variable {s t : Int} {d : Nat} {x y z : Nat → Int}
theorem tmv_self (j : Nat) : tmv s d x j j = x j := by
  unfold tmv
  rw [Nat.sub_self, ch_zero]
  show 1 * 1 * x j = x j
  rw [Int.one_mul, Int.one_mul]
theorem mvA_zero : mvA s d x 0 = x 0 := by
  show 0 + tmv s d x 0 0 = x 0
  rw [tmv_self, Int.zero_add]
theorem mvA_step (h : s * s = 1) {j : Nat} (hj : j ≤ d) : mvA s (d + 1) x (j + 1) = mvA s d x (j + 1) + s * mvA s d x j := by
  show sumN (j + 1) (tmv s (d + 1) x (j + 1)) + tmv s (d + 1) x (j + 1) (j + 1) = sumN (j + 1) (tmv s d x (j + 1)) + tmv s d x (j + 1) (j + 1) + s * sumN (j + 1) (tmv s d x j)
  have e : sumN (j + 1) (tmv s (d + 1) x (j + 1)) = sumN (j + 1) (tmv s d x (j + 1)) + s * sumN (j + 1) (tmv s d x j) := by
    rw [← sumN_mul, ← sumN_add]
    apply sumN_congr
    intro i hi
    unfold tmv
    rw [show d + 1 - i = (d - i) + 1 by omega, show j + 1 - i = (j - i) + 1 by omega, ch_succ, sg_succ h, Int.natCast_add]
    generalize ((ch (d - i) (j - i) : Nat) : Int) = a
    generalize ((ch (d - i) (j - i + 1) : Nat) : Int) = b
    rw [Int.mul_add, Int.add_mul, Int.mul_assoc s (sg s (j - i)) a, Int.mul_assoc s, Int.add_comm]
  rw [e, tmv_self, tmv_self]
  omega
theorem mvA_top : mvA s d x (d + 1) = x (d + 1) := by
  show sumN (d + 1) (tmv s d x (d + 1)) + tmv s d x (d + 1) (d + 1) = _
  have e : sumN (d + 1) (tmv s d x (d + 1)) = sumN (d + 1) fun _ => 0 := by
    apply sumN_congr
    intro i hi
    unfold tmv
    rw [ch_lt (by omega)]
    show sg s _ * 0 * x i = 0
    rw [Int.mul_zero, Int.zero_mul]
  have e2 : ∀ n : Nat, sumN n (fun _ => 0) = 0 := by
    intro n
    induction n with
    | zero => rfl
    | succ n ih =>
      show sumN n _ + 0 = 0
      rw [ih]
      rfl
  rw [e, e2, tmv_self, Int.zero_add]
/-- the value at t, the first coefficient the highest -/
def ev : Nat → (Nat → Int) → Int → Int
  | 0, y, _ => y 0
  | n + 1, y, t => t * ev n y t + y (n + 1)
theorem ev_step (h : s * s = 1) : ∀ m : Nat, m ≤ d → ev (m + 1) (mvA s (d + 1) x) t = ev (m + 1) (mvA s d x) t + s * ev m (mvA s d x) t
  | 0, hm => by
    show t * mvA s (d + 1) x 0 + mvA s (d + 1) x 1 = t * mvA s d x 0 + mvA s d x 1 + s * mvA s d x 0
    rw [show mvA s (d + 1) x 1 = mvA s d x 1 + s * mvA s d x 0 from mvA_step h hm, mvA_zero, mvA_zero]
    omega
  | m + 1, hm => by
    show t * ev (m + 1) (mvA s (d + 1) x) t + mvA s (d + 1) x (m + 1 + 1) = t * ev (m + 1) (mvA s d x) t + mvA s d x (m + 1 + 1) + s * (t * ev m (mvA s d x) t + mvA s d x (m + 1))
    rw [ev_step h m (by omega), mvA_step h hm, Int.mul_add t, Int.mul_add s, ← Int.mul_assoc t s, ← Int.mul_assoc s t, Int.mul_comm t s]
    omega
theorem ev_mv (h : s * s = 1) : ∀ d : Nat, ev d (mvA s d x) t = ev d x (t + s)
  | 0 => mvA_zero
  | d + 1 => by
    rw [ev_step h d (Nat.le_refl d)]
    show t * ev d (mvA s d x) t + mvA s d x (d + 1) + s * ev d (mvA s d x) t = (t + s) * ev d x (t + s) + x (d + 1)
    rw [mvA_top, ev_mv h d, Int.add_mul]
    omega
theorem ev_sub : ∀ d : Nat, ev d (fun i => y i - z i) t = ev d y t - ev d z t
  | 0 => rfl
  | d + 1 => by
    show t * ev d _ t + (y (d + 1) - z (d + 1)) = t * ev d y t + y (d + 1) - (t * ev d z t + z (d + 1))
    rw [ev_sub d, Int.mul_sub]
    omega
theorem ev_none : ∀ (d : Nat) (y : Nat → Int), (∀ t : Int, t ≠ 0 → ev d y t = 0) → ∀ j, j ≤ d → y j = 0
  | 0, y, h, j, hj => by
    rw [show j = 0 by omega]
    exact h 1 (by decide)
  | d + 1, y, h, j, hj => by
    have e : y (d + 1) = 0 := by
      have h1 := h ((y (d + 1)).natAbs + 1) (by omega)
      have h2 : ((y (d + 1)).natAbs + 1 : Int) * ev d y ((y (d + 1)).natAbs + 1) + y (d + 1) = 0 := h1
      generalize ev d y ((y (d + 1)).natAbs + 1) = E at h2
      generalize y (d + 1) = v at h2 ⊢
      by_cases hE : E = 0
      · rw [hE, Int.mul_zero, Int.zero_add] at h2
        exact h2
      · have h3 : (((v.natAbs + 1 : Nat) : Int) * E).natAbs = (v.natAbs + 1) * E.natAbs := by rw [Int.natAbs_mul, Int.natAbs_natCast]
        have h4 : (v.natAbs + 1) * 1 ≤ (v.natAbs + 1) * E.natAbs := Nat.mul_le_mul_left _ (by omega)
        have h5 : ((v.natAbs + 1 : Nat) : Int) * E = -v := by
          have : (v.natAbs + 1 : Int) = ((v.natAbs + 1 : Nat) : Int) := by omega
          rw [← this]
          omega
        rw [h5, Int.natAbs_neg] at h3
        omega
    by_cases hj2 : j = d + 1
    · rw [hj2]
      exact e
    · refine ev_none d y (fun t ht => ?_) j (by omega)
      have h1 : t * ev d y t + y (d + 1) = 0 := h t ht
      rw [e, Int.add_zero] at h1
      rcases Int.mul_eq_zero.mp h1 with z | z
      · exact absurd z ht
      · exact z
theorem ev_only (h : ∀ t, ev d y t = ev d z t) {j : Nat} (hj : j ≤ d) : y j = z j := by
  have := ev_none d (fun i => y i - z i) (fun t _ => by rw [ev_sub, h]; omega) j hj
  have e : y j - z j = 0 := this
  omega
/-- there and back -/
theorem mvA_back (h : s * s = 1) {s' : Int} (hs : s' = -s) {j : Nat} (hj : j ≤ d) : mvA s' d (mvA s d x) j = x j := by
  subst hs
  refine ev_only (fun t => ?_) hj
  rw [ev_mv (by rw [Int.neg_mul_neg, h]), ev_mv h]
  congr 1
  omega
theorem mvA_congr {j : Nat} (h : ∀ i, i ≤ j → x i = y i) : mvA s d x j = mvA s d y j := by
  apply sumN_congr
  intro i hi
  unfold tmv
  rw [h i (by omega)]
theorem ev_one : ∀ d : Nat, ev d y 1 = sumN (d + 1) y
  | 0 => (Int.zero_add _).symm
  | d + 1 => by
    show 1 * ev d y 1 + y (d + 1) = sumN (d + 1) y + y (d + 1)
    rw [Int.one_mul, ev_one d]
theorem ev_nul : ∀ d : Nat, ev d y 0 = y d
  | 0 => rfl
  | d + 1 => by
    show 0 * ev d y 0 + y (d + 1) = _
    rw [Int.zero_mul, Int.zero_add]
/-- the sum of the moved row is the last of the row -/
theorem mv_sum : sumN (d + 1) (mvA (-1) d x) = x d := by
  rw [← ev_one, ev_mv (by decide)]
  exact ev_nul d
def sgn (n : Nat) (v : Int) : Int := if n % 2 = 0 then v else -v
theorem ev_alt : ∀ d : Nat, (if d % 2 = 1 then ev d y (-1) else -ev d y (-1)) = sumN d (fun i => sgn i (y (i + 1))) - y 0
  | 0 => by
    show -y 0 = 0 - y 0
    omega
  | d + 1 => by
    have ih := ev_alt d
    show (if (d + 1) % 2 = 1 then (-1) * ev d y (-1) + y (d + 1) else -((-1) * ev d y (-1) + y (d + 1))) = sumN d (fun i => sgn i (y (i + 1))) + sgn d (y (d + 1)) - y 0
    unfold sgn at ih ⊢
    by_cases e : d % 2 = 1
    · rw [if_pos e] at ih
      rw [if_neg (by omega), if_neg (by omega)]
      omega
    · rw [if_neg e] at ih
      rw [if_pos (by omega), if_pos (by omega)]
      omega
theorem mv_last : (if d % 2 = 1 then mvA (-1) d x d else -mvA (-1) d x d) = sumN d (fun i => sgn i (x (i + 1))) - x 0 := by
  have e : mvA (-1) d x d = ev d x (-1) := by
    rw [← ev_nul (y := mvA (-1) d x) d, ev_mv (by decide)]
    rfl
  rw [e]
  exact ev_alt d
theorem ch_two (n : Nat) : ∀ k : Nat, ch n k ≤ 2 ^ n := by
  induction n with
  | zero =>
    intro k
    cases k with
    | zero => exact Nat.le_refl 1
    | succ k => exact Nat.zero_le _
  | succ n ih =>
    intro k
    cases k with
    | zero => rw [ch_zero]; exact Nat.one_le_two_pow
    | succ k =>
      have h1 := ih k
      have h2 := ih (k + 1)
      rw [ch_succ, Nat.pow_succ]
      omega
theorem sg_abs (hs : s = 1 ∨ s = -1) (n : Nat) : (sg s n).natAbs = 1 := by
  unfold sg
  split
  · rfl
  · rcases hs with rfl | rfl <;> rfl
theorem tmv_abs (hs : s = 1 ∨ s = -1) {b j i : Nat} (hd : d ≤ 16) (hx : (x i).natAbs < 2 ^ b) : (tmv s d x j i).natAbs ≤ 2 ^ (16 + b) := by
  unfold tmv
  rw [Int.natAbs_mul, Int.natAbs_mul, sg_abs hs, Int.natAbs_natCast, Nat.one_mul, Nat.pow_add]
  refine Nat.mul_le_mul ?_ (Nat.le_of_lt hx)
  exact Nat.le_trans (ch_two _ _) (Nat.pow_le_pow_right (by decide) (by omega))
theorem mvA_abs (hs : s = 1 ∨ s = -1) {b j : Nat} (hd : d ≤ 16) (hj : j ≤ 16) (hx : ∀ i, i ≤ j → (x i).natAbs < 2 ^ b) : (mvA s d x j).natAbs < 2 ^ (22 + b) := by
  have h1 := sumN_abs (n := j + 1) (B := 2 ^ (16 + b)) (f := tmv s d x j) fun i hi => tmv_abs hs hd (hx i (by omega))
  have h2 : (j + 1) * 2 ^ (16 + b) ≤ 17 * 2 ^ (16 + b) := Nat.mul_le_mul_right _ (by omega)
  have h3 : 2 ^ (22 + b) = 64 * 2 ^ (16 + b) := by rw [show 22 + b = 6 + (16 + b) by omega, Nat.pow_add]
  have h4 : 0 < 2 ^ (16 + b) := Nat.two_pow_pos _
  have h5 : (mvA s d x j).natAbs ≤ (j + 1) * 2 ^ (16 + b) := h1
  omega
end
end HrM

/-! The least and the most rows of spheres. -/
namespace HrM
section
variable {d : Nat} {x y : Nat → Int}
theorem mvA_add (s : Int) (d : Nat) (x y : Nat → Int) (j : Nat) : mvA s d (fun i => x i + y i) j = mvA s d x j + mvA s d y j := by
  unfold mvA
  rw [← sumN_add]
  refine sumN_congr fun i _ => ?_
  unfold tmv
  rw [Int.mul_add]
/-- sums of C(r + i, i) moved by one -/
theorem mv_more (r : Nat) : ∀ d j : Nat, j ≤ d + 1 → mvA 1 d (fun i => ((ch (r + i) i : Nat) : Int)) j = ((ch (d + r + 1) j : Nat) : Int)
  | 0, 0, _ => by rw [mvA_zero, ch_zero, ch_zero]
  | 0, 1, _ => by
    rw [mvA_top (d := 0)]
    show ((ch (r + 1) 1 : Nat) : Int) = ((ch (0 + r + 1) 1 : Nat) : Int)
    rw [Nat.zero_add]
  | 0, j + 2, h => by omega
  | d + 1, 0, _ => by rw [mvA_zero, ch_zero, ch_zero]
  | d + 1, j + 1, h => by
    by_cases hj : j ≤ d
    · rw [mvA_step (by decide) hj, mv_more r d (j + 1) (by omega), mv_more r d j (by omega), Int.one_mul, ← Int.natCast_add]
      congr 1
      have e := ch_succ (d + r + 1) j
      rw [show d + 1 + r + 1 = (d + r + 1) + 1 by omega, e, Nat.add_comm]
    · have e : j = d + 1 := by omega
      subst e
      rw [mvA_top (d := d + 1)]
      show ((ch (r + (d + 2)) (d + 2) : Nat) : Int) = ((ch (d + 1 + r + 1) (d + 1 + 1) : Nat) : Int)
      rw [show r + (d + 2) = d + 1 + r + 1 by omega]
theorem mv_ones {d j : Nat} (h : j ≤ d + 1) : mvA 1 d (fun _ => 1) j = ((ch (d + 1) j : Nat) : Int) := by
  rw [← mv_more 0 d j h]
  refine mvA_congr fun i _ => ?_
  rw [Nat.zero_add, ch_self]
  rfl
theorem sumN_pick {n k : Nat} (hk : k < n) (f : Nat → Int) : sumN n (fun i => if i = k then f i else 0) = f k := by
  induction n with
  | zero => omega
  | succ n ih =>
    show sumN n _ + (if n = k then f n else 0) = f k
    by_cases e : n = k
    · subst e
      rw [if_pos rfl]
      have : sumN n (fun i => if i = n then f i else 0) = sumN n (fun _ => 0) := sumN_congr fun i hi => if_neg (by omega)
      have z : ∀ n, sumN n (fun _ => 0) = 0 := fun n => by
        induction n with
        | zero => rfl
        | succ n ih => show sumN n _ + 0 = 0; rw [ih]; rfl
      rw [this, z, Int.zero_add]
    · rw [if_neg e, ih (by omega), Int.add_zero]
theorem mv_at {d j k : Nat} (h : k ≤ j) : mvA 1 d (fun i => if i = k then 1 else 0) j = ((ch (d - k) (j - k) : Nat) : Int) := by
  have e : mvA 1 d (fun i => if i = k then 1 else 0) j = sumN (j + 1) (fun i => if i = k then ((ch (d - i) (j - i) : Nat) : Int) else 0) := by
    refine sumN_congr fun i _ => ?_
    unfold tmv
    dsimp only
    by_cases hi : i = k
    · rw [if_pos hi, if_pos hi, Int.mul_one]
      unfold sg
      split <;> rw [Int.one_mul]
    · rw [if_neg hi, if_neg hi, Int.mul_zero]
  rw [e, sumN_pick (by omega)]
theorem mv_before {d j k : Nat} (h : j < k) : mvA 1 d (fun i => if i = k then 1 else 0) j = 0 := by
  have e : mvA 1 d (fun i => if i = k then 1 else 0) j = sumN (j + 1) (fun _ => 0) := by
    refine sumN_congr fun i hi => ?_
    unfold tmv
    dsimp only
    rw [if_neg (show ¬ i = k by omega), Int.mul_zero]
  rw [e]
  generalize j + 1 = n
  induction n with
  | zero => rfl
  | succ n ih => show sumN n _ + 0 = 0; rw [ih]; rfl
end
/-- the symmetric row with first differences g -/
def symR (g : Nat → Int) (d i : Nat) : Int := sumN (min i (d - i) + 1) g
theorem symR_sym {g : Nat → Int} {d i : Nat} (h : i ≤ d) : symR g d (d - i) = symR g d i := by
  unfold symR
  rw [show d - (d - i) = i by omega, Nat.min_comm]
theorem symR_low {g : Nat → Int} {d i : Nat} (h : 2 * i ≤ d) : symR g d i = sumN (i + 1) g := by
  unfold symR
  rw [show min i (d - i) = i by omega]
/-- least g-rows for n = r + d + 1 points -/
def gLo (r : Nat) : Nat → Int
  | 0 => 1
  | 1 => (r : Int)
  | _ => 0
def gHiN (r : Nat) : Nat → Nat
  | 0 => 1
  | k + 1 => ch (r + k) (k + 1)
def gHi (r i : Nat) : Int := ((gHiN r i : Nat) : Int)
theorem gHi_sum (r : Nat) : ∀ i : Nat, sumN (i + 1) (gHi r) = ((ch (r + i) i : Nat) : Int)
  | 0 => by
    show 0 + (1 : Int) = _
    rw [ch_zero]
    rfl
  | i + 1 => by
    show sumN (i + 1) (gHi r) + ((ch (r + i) (i + 1) : Nat) : Int) = _
    rw [gHi_sum r i, ← Int.natCast_add, ← ch_succ]
    rfl
theorem gLo_sum (r : Nat) : ∀ i : Nat, sumN (i + 2) (gLo r) = 1 + (r : Int)
  | 0 => by
    show 0 + (1 : Int) + (r : Int) = _
    omega
  | i + 1 => by
    show sumN (i + 2) (gLo r) + 0 = _
    rw [gLo_sum r i]
    omega
theorem hL (r d i : Nat) (hi : i ≤ d) : symR (gLo r) d i = if i = 0 ∨ i = d then 1 else 1 + (r : Int) := by
  unfold symR
  by_cases h : i = 0 ∨ i = d
  · rw [if_pos h, show min i (d - i) = 0 by omega]
    rfl
  · rw [if_neg h]
    obtain ⟨k, hk⟩ : ∃ k, min i (d - i) + 1 = k + 2 := ⟨min i (d - i) - 1, by omega⟩
    rw [hk, gLo_sum]
theorem hL_more (r d i : Nat) (hd : 1 ≤ d) (hi : i ≤ d) : symR (gLo (r + 1)) d i + ((if i = 0 then 1 else 0) + (if i = d then 1 else 0)) = symR (gLo r) d i + 1 := by
  rw [hL _ _ _ hi, hL _ _ _ hi]
  by_cases h0 : i = 0
  · subst h0
    have : ¬ 0 = d := by omega
    simp [this]
  · by_cases h1 : i = d
    · subst h1
      simp [h0]
    · simp [h0, h1]
      omega
/-- least counts grow by the same amount -/
theorem least_more (r d j : Nat) (hd : 2 ≤ d) (h1 : 1 ≤ j) (hj : j ≤ d) : mvA 1 d (symR (gLo (r + 1)) d) j - mvA 1 d (symR (gLo r) d) j = if j = d then (d : Int) - 1 else ((ch d (j - 1) : Nat) : Int) := by
  have e : mvA 1 d (fun i => symR (gLo (r + 1)) d i + ((if i = 0 then 1 else 0) + (if i = d then 1 else 0))) j = mvA 1 d (fun i => symR (gLo r) d i + 1) j :=
    mvA_congr fun i hi => hL_more r d i (by omega) (by omega)
  rw [mvA_add, mvA_add, mvA_add, mv_ones (by omega), mv_at (Nat.zero_le j)] at e
  have c0 : ch (d + 1) j = ch d (j - 1) + ch d j := by
    obtain ⟨k, rfl⟩ : ∃ k, j = k + 1 := ⟨j - 1, by omega⟩
    rw [ch_succ]
    rfl
  rw [Nat.sub_zero, Nat.sub_zero, c0, Int.natCast_add] at e
  by_cases hz : j = d
  · subst hz
    rw [mv_at (Nat.le_refl j), Nat.sub_self, ch_zero] at e
    rw [if_pos rfl]
    have c1 : ch j (j - 1) = j := by
      rw [ch_symm (by omega), show j - (j - 1) = 1 by omega, ch_one]
    rw [c1] at e
    have : ((1 : Nat) : Int) = 1 := rfl
    omega
  · rw [mv_before (by omega)] at e
    rw [if_neg hz]
    omega
/-- the most counts have all sets of few points -/
theorem most_all (r d k : Nat) (h1 : 2 * k ≤ d) : mvA 1 d (symR (gHi r) d) k = ((ch (r + d + 1) k : Nat) : Int) := by
  rw [show r + d + 1 = d + r + 1 by omega, ← mv_more r d k (by omega)]
  refine mvA_congr fun i hi => ?_
  rw [symR_low (by omega), gHi_sum]
/-- the rows tell the differences -/
theorem sym_only {g g' : Nat → Int} {d : Nat} (h : ∀ j, j ≤ d → mvA 1 d (symR g d) j = mvA 1 d (symR g' d) j) {i : Nat} (hi : i ≤ d) : symR g d i = symR g' d i := by
  rw [← mvA_back (s := 1) (by decide) (s' := -1) rfl (x := symR g d) hi, ← mvA_back (s := 1) (by decide) (s' := -1) rfl (x := symR g' d) hi]
  exact mvA_congr fun j hj => h j (by omega)
theorem gHiN_pos {r k : Nat} (h : 1 ≤ r) : 1 ≤ gHiN r k := by
  cases k with
  | zero => exact Nat.le_refl 1
  | succ k => exact ch_pos (by omega)
theorem gHiN_zero {k : Nat} (h : 1 ≤ k) : gHiN 0 k = 0 := by
  obtain ⟨k, rfl⟩ : ∃ j, k = j + 1 := ⟨k - 1, by omega⟩
  show ch (0 + k) (k + 1) = 0
  exact ch_lt (by omega)
theorem ends_equal {r d : Nat} (hd : 2 ≤ d) : (∀ j, j ≤ d → mvA 1 d (symR (gLo r) d) j = mvA 1 d (symR (gHi r) d) j) ↔ (r = 0 ∨ d < 4) := by
  constructor
  · intro h
    by_cases c : r = 0 ∨ d < 4
    · exact c
    · have e := sym_only h (show 2 ≤ d by omega)
      rw [symR_low (by omega), symR_low (by omega), gLo_sum, gHi_sum] at e
      have e2 : ch (r + 2) 2 = ch (r + 1) 1 + ch (r + 1) 2 := ch_succ (r + 1) 1
      rw [ch_one] at e2
      have e3 : 1 ≤ ch (r + 1) 2 := ch_pos (by omega)
      omega
  · intro h j hj
    refine mvA_congr fun i hi => ?_
    unfold symR
    refine sumN_congr fun k hk => ?_
    rcases h with rfl | h
    · match k with
      | 0 => rfl
      | 1 => rfl
      | k + 2 =>
        show (0 : Int) = ((gHiN 0 (k + 2) : Nat) : Int)
        rw [gHiN_zero (by omega)]
        rfl
    · match k with
      | 0 => rfl
      | 1 =>
        show (r : Int) = ((ch (r + 0) 1 : Nat) : Int)
        rw [ch_one]
        rfl
      | k + 2 => omega
theorem symR_nn {g : Nat → Int} {d i : Nat} (hg : ∀ k, 0 ≤ g k) (h0 : g 0 = 1) : 1 ≤ symR g d i := by
  unfold symR
  generalize min i (d - i) = n
  induction n with
  | zero =>
    show 1 ≤ 0 + g 0
    omega
  | succ n ih =>
    show 1 ≤ sumN (n + 1) g + g (n + 1)
    have := hg (n + 1)
    omega
theorem mv_nn {x : Nat → Int} {d j : Nat} (hx : ∀ i, i ≤ d → 1 ≤ x i) (hj : j ≤ d) : 1 ≤ mvA 1 d x j := by
  unfold mvA
  show 1 ≤ sumN j _ + _
  rw [tmv_self]
  have h1 := hx j hj
  have h2 : 0 ≤ sumN j (tmv 1 d x j) := by
    have : ∀ n, n ≤ j → 0 ≤ sumN n (tmv 1 d x j) := by
      intro n
      induction n with
      | zero => intro _; exact Int.le_refl 0
      | succ n ih =>
        intro hn
        show 0 ≤ sumN n _ + tmv 1 d x j n
        have a := ih (by omega)
        have b : 0 ≤ tmv 1 d x j n := by
          unfold tmv
          have e : sg 1 (j - n) = 1 := by unfold sg; split <;> rfl
          rw [e, Int.one_mul]
          exact Int.mul_nonneg (Int.natCast_nonneg _) (by have := hx n (by omega); omega)
        omega
    exact this j (Nat.le_refl j)
  omega
theorem gLo_nn (r k : Nat) : 0 ≤ gLo r k := by
  match k with
  | 0 => exact (by decide : (0 : Int) ≤ 1)
  | 1 => exact Int.natCast_nonneg r
  | k + 2 => exact Int.le_refl 0
theorem gHi_nn (r k : Nat) : 0 ≤ gHi r k := Int.natCast_nonneg _
/-- the differences of the symmetric row -/
theorem sym_step {g : Nat → Int} {d i : Nat} (h1 : 1 ≤ i) (h : 2 * i ≤ d) : symR g d i - symR g d (i - 1) = g i := by
  obtain ⟨k, rfl⟩ : ∃ k, i = k + 1 := ⟨i - 1, by omega⟩
  rw [symR_low h, symR_low (by omega)]
  show sumN (k + 1) g + g (k + 1) - sumN (k + 1) g = _
  omega
theorem low3 (r : Nat) : (mvA 1 2 (symR (gLo r) 2) 1 = (r : Int) + 3 ∧ mvA 1 2 (symR (gLo r) 2) 2 = (r : Int) + 3) ∧ (mvA 1 3 (symR (gLo r) 3) 1 = (r : Int) + 4 ∧ mvA 1 3 (symR (gLo r) 3) 2 = 3 * ((r : Int) + 4) - 6 ∧ mvA 1 3 (symR (gLo r) 3) 3 = 2 * ((r : Int) + 4) - 4) := by
  have a : ∀ i, i ≤ 2 → symR (gLo r) 2 i = if i = 0 ∨ i = 2 then 1 else 1 + (r : Int) := fun i hi => hL r 2 i hi
  have b : ∀ i, i ≤ 3 → symR (gLo r) 3 i = if i = 0 ∨ i = 3 then 1 else 1 + (r : Int) := fun i hi => hL r 3 i hi
  have a0 := a 0 (by omega); have a1 := a 1 (by omega); have a2 := a 2 (by omega)
  have b0 := b 0 (by omega); have b1 := b 1 (by omega); have b2 := b 2 (by omega); have b3 := b 3 (by omega)
  simp at a0 a1 a2 b0 b1 b2 b3
  simp [mvA, sumN, tmv, sg, ch, a0, a1, a2, b0, b1, b2, b3]
  omega
end HrM

/-! Set comprehensions with two clauses: {elt for .. in .. for .. in ..}, by the rule of the set's add. -/
namespace Hr
open PySem PySem.Spec PyProof.Rows L2 PpSet
/-- {elt for t0 in i0 if .. for t1 in i1 if ..} -/
abbrev sc2 (elt t0 i0 t1 i1 : Expr) (ifs0 ifs1 : List Expr) (scope : Scope) (pos : Pos) : Expr := .SetComp elt [⟨t0, i0, ifs0, 0⟩, ⟨t1, i1, ifs1, 0⟩] scope pos
section
variable {prog : Program} {w : World} {A : Around} {R : Result → Shared → Prop} {s : Shared} {elt t0 i0 t1 i1 : Expr} {ifs0 ifs1 : List Expr} {scope : Scope} {pos : Pos} {it acc : Value} {env : Env}
theorem sturn_out : compTurn (sc2 elt t0 i0 t1 i1 ifs0 ifs1 scope pos) 0 it acc env = (do
      standAt i0.pos
      match ← pyNext it with
      | none => pure (.done .next)
      | some v =>
        letOwnedTupleGo t0 it v
        assign t0 env v
        let mut ok := true
        for c in ifs0 do
          if ok then ok ← isTrue c env (eval c env)
        if ok then
          let x ← eval i1 env
          standAt i1.pos
          let x ← foldedSetIterable i1 env x
          let _ ← runOwn (.compStart (sc2 elt t0 i0 t1 i1 ifs0 ifs1 scope pos) 1 (← holding [x] (pyIter x)) acc env) env
        again (.compLoop (sc2 elt t0 i0 t1 i1 ifs0 ifs1 scope pos) 0 it acc env)) := by rfl
theorem sturn_in : compTurn (sc2 elt t0 i0 t1 i1 ifs0 ifs1 scope pos) 1 it acc env = (do
      standAt i1.pos
      match ← pyNext it with
      | none => pure (.done .next)
      | some v =>
        letOwnedTupleGo t1 it v
        assign t1 env v
        let mut ok := true
        for c in ifs1 do
          if ok then ok ← isTrue c env (eval c env)
        if ok then
          (do let v ← eval elt env; standAt elt.pos; let _ ← call (.builtin "set.add") [acc, v])
        again (.compLoop (sc2 elt t0 i0 t1 i1 ifs0 ifs1 scope pos) 1 it acc env)) := by rfl
/-- tests of a clause -/
def tests (ifs : List Expr) (env : Env) : Sem Bool := forIn ifs true fun c r => if r = true then do let ok ← isTrue c env (eval c env); pure (ForInStep.yield ok) else pure (ForInStep.yield r)
theorem sloop_out (hs : ∀ x, foldedSetIterable i1 env x = pure x) (I : Nat → Shared → Prop)
    (turn : ∀ n s, I n s → wpAny (model prog w) A (pyNext it) (fun r s₁ => match r with
      | none => R (.ok .next) s₁
      | some v => wpAny (model prog w) A (letOwnedTupleGo t0 it v) (fun _ s₁' => wpAny (model prog w) A (assign t0 env v) (fun _ s₂ =>
          wpAny (model prog w) A (tests ifs0 env) (fun ok s₃ =>
            if ok = true then wpAny (model prog w) A (eval i1 env) (fun x s₄ => wpAny (model prog w) A (pyIter x) (fun it1 s₅ =>
              codeAny (model prog w) A (.compStart (sc2 elt t0 i0 t1 i1 ifs0 ifs1 scope pos) 1 it1 acc env) (fun r s' => match r with
                | .ok _ => ∃ m, m < n ∧ I m s'
                | .error _ => False) s₅) (notedBy (model prog w) A env fun e s' => R (.error e) s') s₄) (notedBy (model prog w) A env fun e s' => R (.error e) s') s₃
            else ∃ m, m < n ∧ I m s₃) (notedBy (model prog w) A env fun e s' => R (.error e) s') s₂) (notedBy (model prog w) A env fun e s' => R (.error e) s') s₁') (notedBy (model prog w) A env fun e s' => R (.error e) s') s₁) (notedBy (model prog w) A env fun e s' => R (.error e) s') s)
    (n : Nat) (h : I n s) : codeAny (model prog w) A (.compLoop (sc2 elt t0 i0 t1 i1 ifs0 ifs1 scope pos) 0 it acc env) R s := by
  refine codeAny_loop rfl I (fun n s hI => ?_) n h
  show wpAny _ A ((compTurn (sc2 elt t0 i0 t1 i1 ifs0 ifs1 scope pos) 0 it acc env).onRaise (fun x => do noteFrame x env; theTreesLotGoes x)) _ _ s
  refine wpAny_noted ?_
  rw [sturn_out]
  refine wpAny_bind (wpAny_standAt (wpAny_bind (wpAny_mono (turn n s hI) (fun r s₁ h₁ => ?_) fun _ _ h' => h')))
  cases r with
  | none => exact wpAny_pure h₁
  | some v =>
    refine wpAny_bind (wpAny_mono h₁ (fun _ s₁' h₁' => ?_) fun _ _ h' => h')
    refine wpAny_bind (wpAny_mono h₁' (fun _ s₂ h₂ => wpAny_bind (wpAny_mono h₂ (fun ok s₃ h₃ => ?_) fun _ _ h' => h')) fun _ _ h' => h')
    cases ok with
    | false => exact wpAny_pure ⟨rfl, h₃⟩
    | true =>
      refine wpAny_bind (wpAny_mono h₃ (fun x s₄ h₄ => ?_) fun _ _ h' => h')
      refine wpAny_bind (wpAny_standAt (wpAny_bind (wpAny_of_eq (hs x) (wpAny_bind (wpAny_holding (wpAny_mono h₄ (fun it1 s₅ h₅ => ?_) fun _ _ h' => h'))))))
      refine wpAny_bind (wpAny_runOwn ?_)
      rw [Around.mark_none]
      refine codeAny_mono h₅ fun r s' hr => ?_
      cases r with
      | ok f => first
          | exact wpAny_pure ⟨rfl, hr⟩
          | exact wpAny_bind (wpAny_pure (wpAny_pure ⟨rfl, hr⟩))
      | error e => exact hr.elim
theorem sloop_in (I : Nat → Shared → Prop)
    (turn : ∀ n s, I n s → wpAny (model prog w) A (pyNext it) (fun r s₁ => match r with
      | none => R (.ok .next) s₁
      | some v => wpAny (model prog w) A (letOwnedTupleGo t1 it v) (fun _ s₁' => wpAny (model prog w) A (assign t1 env v) (fun _ s₂ =>
          wpAny (model prog w) A (tests ifs1 env) (fun ok s₃ =>
            if ok = true then wpAny (model prog w) A (eval elt env) (fun x s₄ =>
              wpAny (model prog w) A (call (.builtin "set.add") [acc, x]) (fun _ s₅ => ∃ m, m < n ∧ I m s₅) (notedBy (model prog w) A env fun e s' => R (.error e) s') s₄) (notedBy (model prog w) A env fun e s' => R (.error e) s') s₃
            else ∃ m, m < n ∧ I m s₃) (notedBy (model prog w) A env fun e s' => R (.error e) s') s₂) (notedBy (model prog w) A env fun e s' => R (.error e) s') s₁') (notedBy (model prog w) A env fun e s' => R (.error e) s') s₁) (notedBy (model prog w) A env fun e s' => R (.error e) s') s)
    (n : Nat) (h : I n s) : codeAny (model prog w) A (.compLoop (sc2 elt t0 i0 t1 i1 ifs0 ifs1 scope pos) 1 it acc env) R s := by
  refine codeAny_loop rfl I (fun n s hI => ?_) n h
  show wpAny _ A ((compTurn (sc2 elt t0 i0 t1 i1 ifs0 ifs1 scope pos) 1 it acc env).onRaise (fun x => do noteFrame x env; theTreesLotGoes x)) _ _ s
  refine wpAny_noted ?_
  rw [sturn_in]
  refine wpAny_bind (wpAny_standAt (wpAny_bind (wpAny_mono (turn n s hI) (fun r s₁ h₁ => ?_) fun _ _ h' => h')))
  cases r with
  | none => exact wpAny_pure h₁
  | some v =>
    refine wpAny_bind (wpAny_mono h₁ (fun _ s₁' h₁' => ?_) fun _ _ h' => h')
    refine wpAny_bind (wpAny_mono h₁' (fun _ s₂ h₂ => wpAny_bind (wpAny_mono h₂ (fun ok s₃ h₃ => ?_) fun _ _ h' => h')) fun _ _ h' => h')
    cases ok with
    | false => exact wpAny_pure ⟨rfl, h₃⟩
    | true => exact wpAny_bind (wpAny_bind (wpAny_mono h₃ (fun x s₄ h₄ => wpAny_bind (wpAny_standAt (wpAny_bind (wpAny_mono h₄ (fun _ s₅ h₅ => wpAny_pure (wpAny_pure ⟨rfl, h₅⟩)) fun _ _ h' => h')))) fun _ _ h' => h'))
theorem sstart_in (h0 : codeAny (model prog w) A (.compLoop (sc2 elt t0 i0 t1 i1 ifs0 ifs1 scope pos) 1 it acc env) R s)
    (h : wpAny (model prog w) A (pyIter it) (fun it' s' => codeAny (model prog w) A (.compLoop (sc2 elt t0 i0 t1 i1 ifs0 ifs1 scope pos) 1 it' acc env) R s') (notedBy (model prog w) A env fun x s' => R (.error x) s') s) :
    codeAny (model prog w) A (.compStart (sc2 elt t0 i0 t1 i1 ifs0 ifs1 scope pos) 1 it acc env) R s := by
  refine codeAny_of_tree ?_
  show wpAny _ _ ((compStart (sc2 elt t0 i0 t1 i1 ifs0 ifs1 scope pos) 1 it acc env).onRaise (fun x => do noteFrame x env; standAt theWindowsPlace)) _ _ s
  refine wpAny_notedAt ?_
  unfold compStart
  show wpAny _ _ (ask >>= _) _ _ s
  refine wpAny_bind (wpAny_askSetting (wpAny_ite ?_))
  split
  · first
      | exact wpAny_bind (wpAny_pure (wpAny_pure (And.intro rfl h0)))
      | exact wpAny_pure (And.intro rfl h0)
  · first
      | exact wpAny_bind (wpAny_rule (wpAny_bind (wpAny_standAt (wpAny_bind (wpAny_mono h (fun it' s' h' => wpAny_pure (And.intro rfl h')) fun _ _ x => x)))))
      | (refine wpAny_bind (wpAny_rule ?_); show wpAny _ _ (standAt i1.pos >>= _) _ _ s; exact wpAny_bind (wpAny_standAt (wpAny_bind (wpAny_mono h (fun it' s' h' => wpAny_pure (And.intro rfl h')) fun _ _ x => x))))
end

section
variable {X : Cx}
/-- a set comprehension with two clauses: behind the first clause's store and tests the second source's own loop, from which Nx is reached; add: what adding a value asks and leaves -/
def tSc2 (new : Addr → HO) (add : Addr → V → Hp → (Hp → Prop) → Prop) (wi : TI) (g : TG) (tt : TT) (wi1 : TI) (g1 : TG) (tt1 : TT) (te : TE) (vs vs1 : List Nat) : TE := fun σ H Q => wi σ H fun J H1 => ∀ D, H1 D = none →
  ∃ W : Nat → Nat → Hp → Prop, (∃ m, W 0 m (upd H1 D (new D))) ∧ ∀ i m H, W i m H →
    (J.stop i H ∧ Q (.ref D) H) ∨ (J.go i H ∧ ∃ Nx : Hp → Prop, (∀ H', Nx H' → ∃ m', m' < m ∧ W (i + 1) m' H') ∧ ∀ x H', J.yld i H x H' → g x (wipe σ vs) H' fun σ2 H2 => wipe σ2 vs = wipe σ vs ∧ tt σ2 H2 fun b H3 =>
      if b = true then wi1 σ2 H3 fun J1 H4 => ∃ W1 : Nat → Nat → Hp → Prop, (∃ m, W1 0 m H4) ∧ ∀ j k H, W1 j k H →
        (J1.stop j H ∧ Nx H) ∨ (J1.go j H ∧ ∃ Nx1 : Hp → Prop, (∀ H', Nx1 H' → ∃ k', k' < k ∧ W1 (j + 1) k' H') ∧ ∀ x H', J1.yld j H x H' → g1 x (wipe σ2 vs1) H' fun σ3 H5 => wipe σ3 vs1 = wipe σ2 vs1 ∧ tt1 σ3 H5 fun b H6 =>
          if b = true then te σ3 H6 fun y H7 => add D y H7 Nx1 else Nx1 H6)
      else Nx H3)
theorem sc2_core {new : Addr → HO} {add : Addr → V → Hp → (Hp → Prop) → Prop} {pins : List (Addr × Obj)} {s : Shared} {σ : L2.St} {H : Hp} {Q : VK} {elt tg iter tg1 iter1 : Expr} {ifs ifs1 : List Expr} {scope : Scope} {own : List (PySem.Str × Nat)} {vs1 : List Nat} {pos pos' : Pos}
    {wi wi1 : TI} {g g1 : TG} {tt tt1 : TT} {te : TE} {use : Option (Value → Sem Unit)} {Qf : Value → Shared → Prop}
    (hnew : ∀ (H : Hp) (h : Heap), ObjOk X.prog X.w H (h.push { cls := .type "set", dict := none, data := .set #[] 0 (.fresh 0 0 (!X.w.params.followText "set-order")) }) h.objs.size (new h.objs.size))
    (hadd : ∀ (s : Shared) (H : Hp) (C : Addr) (cl : List (PySem.Str × Addr)) (fp : List Addr) (pins : List (Addr × Obj)) (σ : L2.St) (H' : Hp) (s' : Shared) (D : Addr) (y : V) (v : Value) (Nx : Hp → Prop) (Q E : Value → Shared → Prop),
      Inv (X.blk s H scope (compEnvC scope cl C X.env) fp) pins σ H' s' → RelV y v → add D y H' Nx → (∀ s2 H2, Inv (X.blk s H scope (compEnvC scope cl C X.env) fp) pins σ H2 s2 → Nx H2 → Q .none s2) → wpAny (model X.prog X.w) X.A (call (.builtin "set.add") [.ref D, v]) Q E s')
    (hc : X.calm = true) (hN : X.N.Nodup) (I : Inv X pins σ H s) (hi : PI X tg iter wi) (ok : BlkOk X.N X.env.scope scope own) (hv : ∀ i ∈ vs1, i ∈ own.map (·.2))
    (hg : ∀ (s : Shared) (H : Hp) (C : Addr) (cl : List (PySem.Str × Addr)) (fp : List Addr), PG (X.blk s H scope (compEnvC scope cl C X.env) fp) tg g)
    (ht : ∀ (s : Shared) (H : Hp) (C : Addr) (cl : List (PySem.Str × Addr)) (fp : List Addr), PTs (X.blk s H scope (compEnvC scope cl C X.env) fp) ifs tt)
    (he : ∀ (s : Shared) (H : Hp) (C : Addr) (cl : List (PySem.Str × Addr)) (fp : List Addr), PE (X.blk s H scope (compEnvC scope cl C X.env) fp) elt te)
    (hs : ∀ x, foldedSetIterable iter X.env x = pure x)
    (hi1 : ∀ (s : Shared) (H : Hp) (C : Addr) (cl : List (PySem.Str × Addr)) (fp : List Addr), PI (X.blk s H scope (compEnvC scope cl C X.env) fp) tg1 iter1 wi1)
    (hg1 : ∀ (s : Shared) (H : Hp) (C : Addr) (cl : List (PySem.Str × Addr)) (fp : List Addr), PG (X.blk s H scope (compEnvC scope cl C X.env) fp) tg1 g1)
    (ht1 : ∀ (s : Shared) (H : Hp) (C : Addr) (cl : List (PySem.Str × Addr)) (fp : List Addr), PTs (X.blk s H scope (compEnvC scope cl C X.env) fp) ifs1 tt1)
    (hs1 : ∀ env x, foldedSetIterable iter1 env x = pure x)
    (h : tSc2 new add wi g tt wi1 g1 tt1 te (own.map (·.2)) vs1 σ H Q)
    (hRR : ∀ D C s' m H', Inv X pins σ H' s' → Q (.ref D) H' → s'.heap.Ns C m → FpOk X pins H' C → compPost (model X.prog X.w) X.A X.xe use Qf (.ref D) C (.ok .next) s') :
    wpAny (model X.prog X.w) X.A (comprehension (sc2 elt tg iter tg1 iter1 ifs ifs1 scope pos) scope X.env pos' (newSet (.type "set")) false (eval iter X.env) use) Qf X.xe s := by
  have hfree : ∀ y ∈ scope.names, y.2 = .free → ∃ c, X.env.cells.lookup y.1 = some c := fun y hy e => by
    rcases ok.free y hy e with k | k
    · exact I.ok.has _ (.inl k)
    · exact I.ok.has _ (.inr k)
  refine wpAny_comprehension_free (use := use) rfl hs (closure_ok hfree) ok.kind (fun y hy e => by rw [ok.uniq y hy, e])
    (thn (hi.run pins s σ H _ I h) fun xv s1 hx => thn hx fun itv s2 h2 => ?_)
  obtain ⟨it, fp, tn, J, H2, e, I2, T, st2, f2, q⟩ := h2
  subst e
  refine newSet_ok (newEnv_comp ?_)
  have new2 := hnew (upd H2 s2.heap.objs.size (new s2.heap.objs.size)) s2.heap
  generalize hD : s2.heap.objs.size = D at new2
  have hDn : H2 D = none := I2.hok.fresh (Nat.le_of_eq hD)
  obtain ⟨W, ⟨m0, w0⟩, turn⟩ := q D hDn
  -- the new set
  generalize hs3 : ({ s2 with heap := s2.heap.push { cls := .type "set", dict := none, data := .set #[] 0 (.fresh 0 0 (!X.w.params.followText "set-order")) } } : Shared) = s3
  have I3 : Inv X pins σ (upd H2 D (new D)) s3 := by
    rw [← hs3]
    exact I2.laid (t' := s2.toks) (fun b o e => Heap.get?_push_of_some _ e) (Nat.le_of_eq hD) new2
  have h3 : s3.heap = s2.heap.push { cls := .type "set", dict := none, data := .set #[] 0 (.fresh 0 0 (!X.w.params.followText "set-order")) } := by rw [← hs3]
  have sz : ∀ b ∈ fp, b < s2.heap.objs.size := fun b hb => let ⟨_, e, _⟩ := T.obj _ _ st2 b hb; Heap.lt_size e
  have f3 : ∀ b ∈ fp, FpOk X pins (upd H2 D (new D)) b ∧ b < s3.heap.objs.size := fun b hb => by
    have hlt := sz b hb
    refine ⟨⟨?_, (f2 b hb).2⟩, by rw [h3, Heap.size_push]; exact Nat.lt_succ_of_lt hlt⟩
    rw [upd_ne (by rw [← hD]; exact Nat.ne_of_lt hlt)]
    exact (f2 b hb).1
  have st3 : tn 0 s3.heap := T.keep _ _ _ st2 fun b _ o e => by rw [h3]; exact Heap.get?_push_of_some _ e
  have I4 := block_start I3 ok hN f3
  generalize hcl : cellsFrom (s3.heap.objs.size + 1) scope.names (cloFrom X.env.cells scope.names []) = cl at I4
  have pg := hg s3 (upd H2 D (new D)) s3.heap.objs.size cl fp
  have pt := ht s3 (upd H2 D (new D)) s3.heap.objs.size cl fp
  have pe := he s3 (upd H2 D (new D)) s3.heap.objs.size cl fp
  have pi1 := hi1 s3 (upd H2 D (new D)) s3.heap.objs.size cl fp
  have pg1 := hg1 s3 (upd H2 D (new D)) s3.heap.objs.size cl fp
  have pt1 := ht1 s3 (upd H2 D (new D)) s3.heap.objs.size cl fp
  have pa := hadd s3 (upd H2 D (new D)) s3.heap.objs.size cl fp
  show codeAny _ _ (.compStart (sc2 elt tg iter tg1 iter1 ifs ifs1 scope pos) 0 (.ref it) (.ref D) (compEnvC scope cl s3.heap.objs.size X.env)) (compPost (model X.prog X.w) X.A X.xe use Qf (.ref D) s3.heap.objs.size) { s3 with heap := pushCells (s3.heap.push { cls := .type "dict", data := .dict #[] }) scope.names }
  have nfp : ∀ b ∈ fp, (upd H2 D (new D)) b = none := fun b hb => (f3 b hb).1.1
  generalize hce : compEnvC scope cl s3.heap.objs.size X.env = ce at I4 pg pt pe pi1 pg1 pt1 pa ⊢
  have cL : ce.locals = s3.heap.objs.size := by subst hce; rfl
  generalize hH3 : upd H2 D (new D) = H3 at I3 I4 pg pt pe pi1 pg1 pt1 pa w0 nfp f3
  generalize hs4 : ({ s3 with heap := pushCells (s3.heap.push { cls := .type "dict", data := .dict #[] }) scope.names } : Shared) = s4 at I4 ⊢
  have st4 : tn 0 s4.heap := T.keep _ _ _ st3 fun b _ o e => by rw [← hs4]; exact pushCells_keeps _ _ _ _ (Heap.get?_push_of_some _ e)
  have stat : ∀ {σ' : L2.St} {H' : Hp} {s' : Shared}, Inv (X.blk s3 H3 scope ce fp) [] σ' H' s' → (∀ b ∈ fp, H' b = none) → ∀ b ∈ fp, FpOk (X.blk s3 H3 scope ce fp) [] H' b := fun {σ' H' s'} I' hn b hb =>
    ⟨hn b hb, (I'.ok.exf b hb).1, I'.ok.exfs b hb, .inl hb, fun x c e => (I'.ok.exf b hb).2 x c e, fun p hp => absurd (show p ∈ ([] : List (Addr × Obj)) ++ [] from hp) (by simp)⟩
  have loop : codeAny (model X.prog X.w) X.A (.compLoop (sc2 elt tg iter tg1 iter1 ifs ifs1 scope pos) 0 (.ref it) (.ref D) ce) (compPost (model X.prog X.w) X.A X.xe use Qf (.ref D) s3.heap.objs.size) s4 := by
    refine sloop_out (hs1 ce) (fun n s' => ∃ i H', Inv (X.blk s3 H3 scope ce fp) [] (wipe σ (own.map (·.2))) H' s' ∧ tn i s'.heap ∧ (∀ b ∈ fp, H' b = none) ∧ W i n H') ?_ m0 ⟨0, H3, I4, st4, nfp, w0⟩
    rintro n s5 ⟨i, H5, I5, st5, n5, w5⟩
    rcases turn i n H5 w5 with ⟨stop, qq⟩ | ⟨go, Nx, hNx, step⟩
    · refine thnF (T.done (X.blk s3 H3 scope ce fp) rfl rfl rfl hc i [] s5 _ H5 (fun _ _ => False) I5 (stat I5 n5) st5 stop) fun r s6 ⟨hr, I6⟩ => ?_
      subst hr
      have I7 : Inv X pins σ H5 s6 := I3.call' (ch := fp) I6.os I6.base I6.hok I6.bare fun b hb => ⟨(f3 b hb).1.2.2.2.1, (f3 b hb).1.2.1, (f3 b hb).1.2.2.2.2.1, (f3 b hb).1.2.2.2.2.2⟩
      have nC : H5 s3.heap.objs.size = none := by
        have z : H5 ce.locals = none := I6.free
        rw [cL] at z
        exact z
      obtain ⟨m, hn, _⟩ := I6.loc
      have hn : s6.heap.Ns ce.locals m := hn
      rw [cL] at hn
      exact hRR D s3.heap.objs.size s6 m H5 I7 qq hn (I3.fpOk (Nat.le_refl _) nC)
    · refine thnF (T.item (X.blk s3 H3 scope ce fp) rfl rfl rfl hc i [] s5 _ H5 (fun _ _ => False) I5 (stat I5 n5) st5 go) fun r s6 ⟨u, hr, h6⟩ => ?_
      subst hr
      refine thnF h6 fun _ s7 ⟨x, H7, I7, r7, y7, st7, n7⟩ => ?_
      have I7' := I7.pinned (stat I7 n7) (T.obj _ _ st7)
      refine thnF (pg.run _ s7 _ H7 x u _ I7' r7 (step x H7 y7)) fun _ s8 ⟨σ8, H8, I8, hw8, q8⟩ => ?_
      refine thnF (pt.run _ s8 σ8 H8 _ I8 q8) fun b s9 ⟨H9, I9, q9⟩ => ?_
      -- the turn's end
      have fin : ∀ {σ9 : L2.St} {s' : Shared} {H' : Hp}, Inv (X.blk s3 H3 scope ce fp) ([] ++ pinsAt fp s7.heap) σ9 H' s' → (wipe σ (own.map (·.2))).length = σ9.length → (∀ (j : Nat) v, (wipe σ (own.map (·.2)))[j]? = some (some v) → σ9[j]? = some (some v)) → Nx H' →
          ∃ m, m < n ∧ ∃ i H', Inv (X.blk s3 H3 scope ce fp) [] (wipe σ (own.map (·.2))) H' s' ∧ tn i s'.heap ∧ (∀ b ∈ fp, H' b = none) ∧ W i m H' := fun {σ9 s' H'} I' hl hk nx => by
        obtain ⟨m', hm, w'⟩ := hNx H' nx
        have pin' : ∀ b ∈ fp, ∀ o, s7.heap.get? b = some o → s'.heap.get? b = some o ∧ H' b = none := fun b hb o e =>
          let z := I'.pin (b, o) (List.mem_append_right _ (List.mem_append_right _ (mem_pinsAt hb e)))
          ⟨z.1, z.2.1⟩
        refine ⟨m', hm, i + 1, H', (I'.unpinned (pins := [])).weak hl hk, T.keep _ _ _ st7 fun b hb o e => (pin' b hb o e).1, fun b hb => ?_, w'⟩
        obtain ⟨o, e, _⟩ := T.obj _ _ st7 b hb
        exact (pin' b hb o e).2
      have hl8 : (wipe σ (own.map (·.2))).length = σ8.length := by rw [← hw8, wipe_length]
      have hk8 : ∀ (j : Nat) v, (wipe σ (own.map (·.2)))[j]? = some (some v) → σ8[j]? = some (some v) := fun j v e => by
        rw [← hw8] at e
        exact (wipe_some e).1
      have hk9 : ∀ (j : Nat) v, (wipe σ (own.map (·.2)))[j]? = some (some v) → (wipe σ8 vs1)[j]? = some (some v) := fun j v e => by
        rw [← hw8] at e
        obtain ⟨e1, e2⟩ := wipe_some e
        rw [wipe_out fun z => e2 (hv j z)]
        exact e1
      cases b with
      | false =>
        simp only [Bool.false_eq_true, if_false] at q9 ⊢
        exact fin I9 hl8 hk8 q9
      | true =>
        simp only [if_true] at q9 ⊢
        refine thnF (pi1.run _ s9 σ8 H9 _ I9 q9) fun xv s10 hx => thnF hx fun itv s11 h11 => ?_
        obtain ⟨it1, fp1, tn1, J1, H11, e1, I11, T1, st11, f11, W1, ⟨m1, w1⟩, turn1⟩ := h11
        subst e1
        have stat1 : ∀ {H' : Hp}, (∀ b ∈ fp1, H' b = none) → ∀ b ∈ fp1, FpOk (X.blk s3 H3 scope ce fp) ([] ++ pinsAt fp s7.heap) H' b := fun hn b hb => ⟨hn b hb, (f11 b hb).2⟩
        have loop1 : codeAny (model X.prog X.w) X.A (.compLoop (sc2 elt tg iter tg1 iter1 ifs ifs1 scope pos) 1 (.ref it1) (.ref D) ce)
            (fun r s' => match r with
              | .ok _ => ∃ m, m < n ∧ ∃ i H', Inv (X.blk s3 H3 scope ce fp) [] (wipe σ (own.map (·.2))) H' s' ∧ tn i s'.heap ∧ (∀ b ∈ fp, H' b = none) ∧ W i m H'
              | .error _ => False) s11 := by
          refine sloop_in (fun k s' => ∃ j H', Inv (X.blk s3 H3 scope ce fp) ([] ++ pinsAt fp s7.heap) (wipe σ8 vs1) H' s' ∧ tn1 j s'.heap ∧ (∀ b ∈ fp1, H' b = none) ∧ W1 j k H') ?_ m1 ⟨0, H11, I11.weak (wipe_length _ _) (fun j v e => (wipe_some e).1), st11, fun b hb => (f11 b hb).1, w1⟩
          rintro k s12 ⟨j, H12, I12, st12, n12, w12⟩
          rcases turn1 j k H12 w12 with ⟨stop1, nx1⟩ | ⟨go1, Nx1, hNx1, step1⟩
          · refine thnF (T1.done (X.blk s3 H3 scope ce fp) rfl rfl rfl hc j _ s12 (wipe σ8 vs1) H12 (fun _ _ => False) I12 (stat1 n12) st12 stop1) fun r s13 ⟨hr, I13⟩ => ?_
            subst hr
            exact fin I13 (hl8.trans (wipe_length σ8 vs1).symm) hk9 nx1
          · refine thnF (T1.item (X.blk s3 H3 scope ce fp) rfl rfl rfl hc j _ s12 (wipe σ8 vs1) H12 (fun _ _ => False) I12 (stat1 n12) st12 go1) fun r s13 ⟨u1, hr, h13⟩ => ?_
            subst hr
            refine thnF h13 fun _ s14 ⟨x1, H14, I14, r14, y14, st14, n14⟩ => ?_
            have I14' := I14.pinned (stat1 n14) (T1.obj _ _ st14)
            refine thnF (pg1.run _ s14 (wipe σ8 vs1) H14 x1 u1 _ I14' r14 (step1 x1 H14 y14)) fun _ s15 ⟨σ15, H15, I15, hw15, q15⟩ => ?_
            refine thnF (pt1.run _ s15 σ15 H15 _ I15 q15) fun b1 s16 ⟨H16, I16, q16⟩ => ?_
            have fin1 : ∀ {s' : Shared} {H' : Hp}, Inv (X.blk s3 H3 scope ce fp) (([] ++ pinsAt fp s7.heap) ++ pinsAt fp1 s14.heap) σ15 H' s' → Nx1 H' → ∃ m, m < k ∧ ∃ j H', Inv (X.blk s3 H3 scope ce fp) ([] ++ pinsAt fp s7.heap) (wipe σ8 vs1) H' s' ∧ tn1 j s'.heap ∧ (∀ b ∈ fp1, H' b = none) ∧ W1 j m H' := fun {s' H'} I' nx => by
              obtain ⟨m', hm, w'⟩ := hNx1 H' nx
              have pin' : ∀ b ∈ fp1, ∀ o, s14.heap.get? b = some o → s'.heap.get? b = some o ∧ H' b = none := fun b hb o e =>
                let z := I'.pin (b, o) (List.mem_append_right _ (List.mem_append_right _ (mem_pinsAt hb e)))
                ⟨z.1, z.2.1⟩
              refine ⟨m', hm, j + 1, H', I'.unpinned.weak (by rw [← hw15, wipe_length]) (fun j v e => by rw [← hw15] at e; exact (wipe_some e).1), T1.keep _ _ _ st14 fun b hb o e => (pin' b hb o e).1, fun b hb => ?_, w'⟩
              obtain ⟨o, e, _⟩ := T1.obj _ _ st14 b hb
              exact (pin' b hb o e).2
            cases b1 with
            | false =>
              simp only [Bool.false_eq_true, if_false] at q16 ⊢
              exact fin1 I16 q16
            | true =>
              simp only [if_true] at q16 ⊢
              refine thnF (pe.run _ s16 σ15 H16 _ I16 q16) fun z s17 ⟨yv, H17, I17, r17, ad⟩ => ?_
              exact pa _ _ H17 s17 D yv z Nx1 _ _ I17 r17 ad fun s18 H18 I18 nx => fin1 I18 nx
        exact sstart_in loop1 (T1.self X.A 0 _ _ _ st11 loop1)
  exact codeAny_compStart_set loop (T.self X.A 0 _ _ _ st4 loop)
end
end Hr
namespace Hr
open PySem PySem.Spec PyProof.Rows L2 PpSet
section
variable {X : Cx}
/-- adding an int -/
def addI (w : World) (D : Addr) (y : V) (H : Hp) (Nx : Hp → Prop) : Prop := ∃ (k : Int) (S : Int → Bool) (n : Nat), y = .int k ∧ H D = some (SetO w D S n) ∧ n + 1 < scanBound ∧ Nx (upd H D (SetO w D (fun j => S j || decide (j = k)) (if S k = true then n else n + 1)))
theorem pe_sc2I {elt tg iter tg1 iter1 : Expr} {ifs ifs1 : List Expr} {scope : Scope} {own : List (PySem.Str × Nat)} {vs1 : List Nat} {pos : Pos} {wi wi1 : TI} {g g1 : TG} {tt tt1 : TT} {te : TE}
    (hc : X.calm = true) (hN : X.N.Nodup) (hi : PI X tg iter wi) (ok : BlkOk X.N X.env.scope scope own) (hv : ∀ i ∈ vs1, i ∈ own.map (·.2))
    (hg : ∀ (s : Shared) (H : Hp) (C : Addr) (cl : List (PySem.Str × Addr)) (fp : List Addr), PG (X.blk s H scope (compEnvC scope cl C X.env) fp) tg g)
    (ht : ∀ (s : Shared) (H : Hp) (C : Addr) (cl : List (PySem.Str × Addr)) (fp : List Addr), PTs (X.blk s H scope (compEnvC scope cl C X.env) fp) ifs tt)
    (hi1 : ∀ (s : Shared) (H : Hp) (C : Addr) (cl : List (PySem.Str × Addr)) (fp : List Addr), PI (X.blk s H scope (compEnvC scope cl C X.env) fp) tg1 iter1 wi1)
    (hg1 : ∀ (s : Shared) (H : Hp) (C : Addr) (cl : List (PySem.Str × Addr)) (fp : List Addr), PG (X.blk s H scope (compEnvC scope cl C X.env) fp) tg1 g1)
    (ht1 : ∀ (s : Shared) (H : Hp) (C : Addr) (cl : List (PySem.Str × Addr)) (fp : List Addr), PTs (X.blk s H scope (compEnvC scope cl C X.env) fp) ifs1 tt1)
    (he : ∀ (s : Shared) (H : Hp) (C : Addr) (cl : List (PySem.Str × Addr)) (fp : List Addr), PE (X.blk s H scope (compEnvC scope cl C X.env) fp) elt te)
    (hs : ∀ x, foldedSetIterable iter X.env x = pure x := by intro _; rfl) (hs1 : ∀ env x, foldedSetIterable iter1 env x = pure x := by intro _ _; rfl) :
    PE X (.SetComp elt [⟨tg, iter, ifs, 0⟩, ⟨tg1, iter1, ifs1, 0⟩] scope pos) (tSc2 (fun D => SetO X.w D (fun _ => false) 0) (addI X.w) wi g tt wi1 g1 tt1 te (own.map (·.2)) vs1) := by
  refine ⟨fun pins s σ H Q I h => ?_⟩
  rw [eval_SetComp]
  refine sc2_core (fun H h => setO_new (setR_fresh X.w)) (fun s1 H1 C cl fp pins1 σ1 H' s' D y v Nx Q1 E1 I1 r1 ad hq => ?_) hc hN I hi ok hv hg ht he hs hi1 hg1 ht1 hs1 h fun D C s' m H' I' q hn f => ⟨m, hn, fun h'' sb => ?_⟩
  · obtain ⟨k, S, n, rfl, ha, room, nx⟩ := ad
    obtain ⟨tk, rfl⟩ := r1
    have R := setO_get I1 ha
    refine setR_add R room fun h' sb new => ?_
    have he : ∃ u, h'.get? D = some u := by
      have ⟨o, _, _, _, ho, _⟩ := new
      exact ⟨o, ho⟩
    exact hq _ _ (I1.write (e := D) (t' := s'.toks + 1) (by rw [ha]; trivial) (.inl rfl) (fun b u hb hu => (sb.2 b hb).trans hu) he (setO_new new)) nx
  · obtain ⟨f0, f1, f2, f3, f4, f5⟩ := f
    exact ⟨.ref D, H', I'.turned (t' := s'.toks) (fun b o hb e => (sb.2 b hb).trans e) f0 f1 f3 f4 f5, rfl, q⟩
end
end Hr

/-! sorted of lists of tuples of ints, of any lengths but 0, any number of them. -/
namespace Hr
open PySem PySem.Spec PyProof.Rows L2
def sh0 : Nat → Bool := fun _ => false
def inls (ns : List Int) : List (Int ⊕ List Nat) := ns.map Sum.inl
theorem lex_inls : ∀ as bs : List Int, PyProof.Rows.lexLt itemOrd (inls as) (inls bs) = HT.lexLt as bs
  | [], [] => rfl
  | [], _ :: _ => rfl
  | _ :: _, [] => rfl
  | x :: xs, y :: ys => by
    have ih := lex_inls xs ys
    show PyProof.Rows.lexLt itemOrd (Sum.inl x :: inls xs) (Sum.inl y :: inls ys) = _
    rw [lex_cons, ih, HT.lexLt_cons]
    show (decide (x < y) || (!decide (y < x) && HT.lexLt xs ys)) = _
    by_cases e : x = y
    · rw [if_pos e, e, decide_eq_false (Int.lt_irrefl y)]
      rfl
    · rw [if_neg e]
      by_cases h : x < y
      · rw [decide_eq_true h]
        rfl
      · rw [decide_eq_false h, decide_eq_true (show y < x by omega)]
        rfl
theorem items_ints : ∀ (i : Nat) {us : List Value} {ns : List Int}, IntsAre us ns → tupItems sh0 i us = some (inls ns)
  | _, _, _, .nil => rfl
  | i, _, _, .cons n t r => by
    show (if sh0 i = true then none else (tupItems sh0 (i + 1) _).map (Sum.inl n :: ·)) = _
    rw [items_ints (i + 1) r]
    rfl
section
variable {h : Heap} {v : Value} {ns : List Int}
theorem key_of (x : TS.TupInts h v ns) : PyProof.Rows.G.tupKeyC h sh0 v = some (inls ns) := by
  obtain ⟨a, xs, rfl, ⟨o, ho, hc, n, hd⟩, i⟩ := x
  unfold PyProof.Rows.G.tupKeyC
  rw [if_pos (by simp only [PyProof.Rows.G.isTupObj, ho, hc]; decide)]
  simp only [tupKey, ho, hd]
  exact items_ints 0 i
theorem tup_of (x : TS.TupInts h v ns) (hn : ns ≠ []) : ∃ f, TupOf h sh0 v f := by
  obtain ⟨a, xs, rfl, ⟨o, ho, hc, n, hd⟩, i⟩ := x
  obtain ⟨l⟩ := xs
  cases i with
  | nil => exact absurd rfl hn
  | cons k t r => exact ⟨_, a, o, _, n, rfl, ho, hc, hd, rfl, fun _ => ⟨k, t, rfl⟩, fun z => nomatch z⟩
theorem tups_of : ∀ {vs : List Value}, (∀ v ∈ vs, ∃ ns, TS.TupInts h v ns ∧ ns ≠ []) → ∃ fs, TupsOf h sh0 vs fs
  | [], _ => ⟨[], .nil⟩
  | v :: vs, hx => by
    obtain ⟨ns, x, hn⟩ := hx v List.mem_cons_self
    obtain ⟨f, t⟩ := tup_of x hn
    obtain ⟨fs, r⟩ := tups_of fun u hu => hx u (List.mem_cons_of_mem _ hu)
    exact ⟨f :: fs, .cons t r⟩
end
section
variable {X : Cx} {pins : List (Addr × Obj)} {σ : L2.St} {H : Hp} {s : Shared}
/-- sorted(xs), xs a list of tuples of ints, none of them empty: a new list of the same, ascending -/
def rSortV (K : PySem.W.Frag) : List V → Hp → VK → Prop := fun vs H Q => ∃ (a : Addr) (xs : List V), vs = [V.ref a] ∧ SqL K H a xs ∧ (∀ x ∈ xs, ∃ ns, TupI K H x ns ∧ ns ≠ []) ∧
  ∀ (ys : List V) (p : Addr), ys.Perm xs → ys.Pairwise (fun x y => ∀ n m, TupI K H x n → TupI K H y m → HT.lexLt m n = false) → H p = none → Q (.ref p) (upd H p (.lst ys))
theorem cr_sortV : CallR X (.builtin "sorted") (rSortV X.K) := by
  intro pins s σ H vs us Q I r h
  obtain ⟨a, xs, rfl, hs, hx, q⟩ := h
  obtain ⟨its, rv, hl, hz⟩ := I.list hs
  rw [Vals.ref1 r]
  obtain ⟨e1, e2⟩ := bkV_refs rv fun x m => by
    obtain ⟨ns, ⟨t, e, _⟩, _⟩ := hx x m
    exact ⟨t, e⟩
  have hv : ∀ v ∈ its, ∃ ns, TS.TupInts s.heap v ns ∧ ns ≠ [] := fun v hv => by
    obtain ⟨t, rfl⟩ := e2 v hv
    have hm : V.ref t ∈ xs := by
      rw [e1]
      exact List.mem_map.mpr ⟨_, hv, rfl⟩
    obtain ⟨ns, ⟨t', e, ht⟩, hn⟩ := hx _ hm
    cases e
    exact ⟨ns, tupI_raw I ht, hn⟩
  obtain ⟨fs, tf⟩ := tups_of hv
  refine PyProof.Rows.G.sorted_tups (shape := sh0) hl.isList tf (fun v m => let ⟨ns, x, _⟩ := hv v m; ⟨_, key_of x⟩) (by rw [← rv.length]; exact hz) fun st' hp hsort hst => ?_
  have hpl := hp.toList
  rw [pairsOf_toList] at hpl
  have same : ∀ p ∈ (arrOf st').toList, p.1 = p.2 := fun p m => (mem_zip_self (hpl.mem_iff.mp m)).1
  have hperm : ((arrOf st').map (·.2)).toList.Perm its := by
    rw [Array.toList_map]
    have z := hpl.map Prod.snd
    rw [List.map_snd_zip (Nat.le_refl _)] at z
    exact z
  obtain ⟨ep, he'⟩ := PyProof.Rows.sortedAll_at s.heap its ((arrOf st').map (·.2))
  have h3 : ∀ u ∈ ((arrOf st').map (·.2)).toList, ∃ a, u = Value.ref a := fun u hu => e2 u (hperm.mem_iff.mp hu)
  have hpv : (((arrOf st').map (·.2)).toList.map bkV).Perm xs := by
    rw [e1]
    exact hperm.map bkV
  have hlen : (((arrOf st').map (·.2)).toList.map bkV).length ≤ sizeLine := by
    rw [hpv.length_eq]
    exact hz
  refine ⟨.ref _, upd H (s.heap.objs.size + 1) (.lst (((arrOf st').map (·.2)).toList.map bkV)), I.laid (t' := s.toks) (fun _ _ => PyProof.Rows.sortedAll_old) (Nat.le_succ _) ⟨hlen, _, ep, bkV_vals h3, he'⟩, rfl, q _ _ hpv ?_ (I.hok.fresh (Nat.le_succ _))⟩
  rw [Array.toList_map, List.map_map, List.pairwise_map, List.pairwise_iff_getElem]
  intro i j hi hj hij n m hn hm
  have key : ∀ (i : Nat) (hi : i < (arrOf st').toList.length) (n : List Int), TupI X.K H ((bkV ∘ fun x => x.2) (arrOf st').toList[i]) n → KK (PyProof.Rows.G.tupKindC s.heap sh0) (arrOf st') i = inls n := fun i hi n hn => by
    obtain ⟨t, et, ht⟩ := hn
    have eu : (arrOf st').toList[i].2 = .ref t := bkV_ref et
    have em := same _ (List.getElem_mem hi)
    have ea : (arrOf st')[i]? = some (arrOf st').toList[i] := by
      rw [← Array.getElem?_toList]
      exact List.getElem?_eq_getElem hi
    unfold KK
    rw [ea]
    show (PyProof.Rows.G.tupKeyC s.heap sh0 (arrOf st').toList[i].1).getD _ = _
    rw [em, eu, key_of (tupI_raw I ht)]
    rfl
  have hs2 := hsort i j (Nat.le_of_lt hij) (by rw [← hp.size_eq, ← Array.length_toList]; exact hj)
  rw [key i hi n hn, key j hj m hm] at hs2
  rw [← lex_inls]
  exact hs2
end
end Hr

/-! Any value, as far as a test of sets and families looks at it. -/
namespace Hr
open PySem PySem.Spec PyProof.Rows L2 Evl
inductive TD where
  | int (n : Int)
  | bl (b : Bool)
  | tup (ds : List TD)
  | oth
def TD.isInt : TD → Bool | .int _ => true | .bl _ => true | _ => false
def TD.isBl : TD → Bool | .bl _ => true | _ => false
def TD.isTup : TD → Bool | .tup _ => true | _ => false
mutual
inductive Th (H : Hp) : V → TD → Prop
  | non : Th H .non .oth
  | bl (b : Bool) : Th H (.bl b) (.bl b)
  | int (i : Int) : Th H (.int i) (.int i)
  | str (x : Str) : Th H (.str x) .oth
  | lst {a : Addr} {xs : List V} : H a = some (.lst xs) → Th H (.ref a) .oth
  | dK {a : Addr} {kvs : List (Key × V)} : H a = some (.dK kvs) → Th H (.ref a) .oth
  | tup {a : Addr} {xs : List V} {ds : List TD} : H a = some (.tup xs) → ThAll H xs ds → Th H (.ref a) (.tup ds)
inductive ThAll (H : Hp) : List V → List TD → Prop
  | nil : ThAll H [] []
  | cons {v : V} {vs : List V} {d : TD} {ds : List TD} : Th H v d → ThAll H vs ds → ThAll H (v :: vs) (d :: ds)
end
section
variable {H H' : Hp}
mutual
theorem Th.more (e : Ex H H') : ∀ {v : V} {d : TD}, Th H v d → Th H' v d
  | _, _, .non => .non
  | _, _, .bl b => .bl b
  | _, _, .int i => .int i
  | _, _, .str x => .str x
  | _, _, .lst h => .lst (e _ _ h)
  | _, _, .dK h => .dK (e _ _ h)
  | _, _, .tup h t => .tup (e _ _ h) (ThAll.more e t)
theorem ThAll.more (e : Ex H H') : ∀ {vs : List V} {ds : List TD}, ThAll H vs ds → ThAll H' vs ds
  | _, _, .nil => .nil
  | _, _, .cons h t => .cons (Th.more e h) (ThAll.more e t)
end
theorem ThAll.len : ∀ {vs : List V} {ds : List TD}, ThAll H vs ds → vs.length = ds.length
  | _, _, .nil => rfl
  | _, _, .cons _ t => by rw [List.length_cons, List.length_cons, t.len]
theorem ThAll.at : ∀ {vs : List V} {ds : List TD}, ThAll H vs ds → ∀ {i : Nat} {v : V}, vs[i]? = some v → ∃ d, ds[i]? = some d ∧ Th H v d
  | _, _, .nil, i, v, h => by simp at h
  | _, _, .cons (d := d) hd t, 0, v, h => by
    cases h
    exact ⟨d, rfl, hd⟩
  | _, _, .cons hd t, i + 1, v, h => ThAll.at t (by simpa using h)
theorem ThAll.ints : ∀ ns : List Int, ThAll H (ns.map V.int) (ns.map TD.int)
  | [] => .nil
  | n :: ns => .cons (.int n) (ThAll.ints ns)
theorem Th.kit {K : PySem.W.Frag} {v : V} {d : TD} (h : Th H v d) : ∃ nm : String, TyX K H v (.type nm) ∧ kitB nm "int" = some d.isInt ∧ kitB nm "bool" = some d.isBl ∧ kitB nm "tuple" = some d.isTup := by
  cases h with
  | non => exact ⟨"NoneType", .base .non, by decide +kernel, by decide +kernel, by decide +kernel⟩
  | bl b => exact ⟨"bool", .base (.bl b), by show kitB _ _ = some true; decide +kernel, by show kitB _ _ = some true; decide +kernel, by show kitB _ _ = some false; decide +kernel⟩
  | int i => exact ⟨"int", .base (.int i), by show kitB _ _ = some true; decide +kernel, by show kitB _ _ = some false; decide +kernel, by show kitB _ _ = some false; decide +kernel⟩
  | str x => exact ⟨"str", .base (.str x), by decide +kernel, by decide +kernel, by decide +kernel⟩
  | lst h => exact ⟨"list", .base (.lst h), by decide +kernel, by decide +kernel, by decide +kernel⟩
  | dK h => exact ⟨"dict", .base (.dK h), by decide +kernel, by decide +kernel, by decide +kernel⟩
  | tup h t => exact ⟨"tuple", .base (.tup h), by show kitB _ _ = some false; decide +kernel, by show kitB _ _ = some false; decide +kernel, by show kitB _ _ = some true; decide +kernel⟩
end
/-- for x in xs, xs a tuple or a list -/
def iAny (K : PySem.W.Frag) (tl : TE) : TI := fun σ H R => iTup K tl σ H R ∨ iList K tl σ H R
theorem pi_any {X : Cx} {tg l : Expr} {tl : TE} (h : PE X l tl) : PI X tg l (iAny X.K tl) :=
  ⟨fun pins s σ H R I q => q.elim (fun q => (pi_tup (tg := tg) h).run pins s σ H R I q) (fun q => (pi_list (tg := tg) h).run pins s σ H R I q)⟩
/-- the truth of a value -/
def tTru (K : PySem.W.Frag) (te : TE) : TT := fun σ H Q => te σ H fun x H' => ∃ k, TruV K x H' k ∧ Q k H'
theorem pt_tru {X : Cx} {K : PySem.W.Frag} {a : Expr} {ta : TE} (h : PE X a ta) (hw : ∀ whole : Sem Value, isTrue a X.env whole = (do let v ← whole; standAt a.pos; holding [v] (truthy v)) := by intro _; rfl) (hK : X.K = K := by rfl) : PT X a (tTru K ta) := by
  subst hK
  exact pt_truth h hw
/-! ### what the tests answer -/
def intB (l : Int) : TD → Bool
  | .int n => decide (l ≤ n)
  | _ => false
def intsB (l : Int) : TD → Bool
  | .tup ds => ds.all (intB l)
  | _ => false
def TD.val : TD → Int
  | .int n => n
  | _ => 0
def TD.items : TD → List TD
  | .tup ds => ds
  | _ => []
def TD.vals (d : TD) : List Int := d.items.map TD.val
def risB (ns : List Int) : Bool := (List.range (ns.length - 1)).all fun k => decide (ns.getD k 0 < ns.getD (k + 1) 0)
def setB (d : TD) : Bool := intsB 0 d && risB d.vals
theorem ints_vals {l : Int} {d : TD} (h : intsB l d = true) : d = .tup (d.vals.map .int) ∧ ∀ n ∈ d.vals, l ≤ n := by
  cases d with
  | tup ds =>
    have key : ∀ ds : List TD, ds.all (intB l) = true → ds = (ds.map TD.val).map .int ∧ ∀ n ∈ ds.map TD.val, l ≤ n := by
      intro ds
      induction ds with
      | nil => exact fun _ => ⟨rfl, fun n hn => by simp at hn⟩
      | cons d ds ih =>
        intro h
        rw [List.all_cons, Bool.and_eq_true] at h
        obtain ⟨h1, h2⟩ := ih h.2
        cases d with
        | int n =>
          refine ⟨?_, fun m hm => ?_⟩
          · rw [List.map_cons, List.map_cons, ← h1]
            rfl
          · rw [List.map_cons] at hm
            rcases List.mem_cons.mp hm with rfl | hm
            · exact of_decide_eq_true h.1
            · exact h2 m hm
        | _ => exact absurd h.1 Bool.false_ne_true
    obtain ⟨h1, h2⟩ := key ds h
    exact ⟨congrArg TD.tup h1, h2⟩
  | _ => exact absurd h Bool.false_ne_true
theorem bools (n : Nat) (f : Nat → Bool) : (List.range n).map (fun i => V.bl (f i)) = ((List.range n).map f).map V.bl := by rw [List.map_map]; rfl
theorem all_get {α : Type} (f : α → Bool) : ∀ (xs : List α) (g : Nat → Bool), (∀ i x, xs[i]? = some x → g i = f x) → ((List.range xs.length).map g).all id = xs.all f
  | [], _, _ => rfl
  | x :: xs, g, h => by
    rw [List.length_cons, List.range_succ_eq_map, List.map_cons, List.map_map, List.all_cons, List.all_cons, all_get f xs (g ∘ Nat.succ) fun i y hy => h (i + 1) y (by simpa using hy)]
    rw [show id (g 0) = f x from h 0 x rfl]
end Hr

/-! Own classes below Exception, at any depth: a field is stored in a fresh one. -/
namespace Hr
open PySem PySem.W PySem.Calls PyProof.Rows PySem.HandSPX
abbrev exT : List Value := [.type "Exception", .type "BaseException", .type "object"]
/-- own classes, then Exception's order -/
def refsEx : List Value → Bool
  | .ref _ :: r => refsEx r
  | l => l == exT
theorem refsEx_split : ∀ l : List Value, refsEx l = true → ∃ cs : List Addr, l = cs.map Value.ref ++ exT
  | [], h => absurd h (by decide)
  | .ref c :: r, h => by
    obtain ⟨cs, e⟩ := refsEx_split r h
    exact ⟨c :: cs, by rw [e]; rfl⟩
  | .none :: r, h => ⟨[], beq_iff_eq.mp h⟩
  | .ellipsis :: r, h => ⟨[], beq_iff_eq.mp h⟩
  | .notImplemented :: r, h => ⟨[], beq_iff_eq.mp h⟩
  | .bool _ :: r, h => ⟨[], beq_iff_eq.mp h⟩
  | .int _ _ :: r, h => ⟨[], beq_iff_eq.mp h⟩
  | .float _ _ :: r, h => ⟨[], beq_iff_eq.mp h⟩
  | .str _ _ :: r, h => ⟨[], beq_iff_eq.mp h⟩
  | .bytes _ _ :: r, h => ⟨[], beq_iff_eq.mp h⟩
  | .type _ :: r, h => ⟨[], beq_iff_eq.mp h⟩
  | .builtin _ :: r, h => ⟨[], beq_iff_eq.mp h⟩
theorem refsEx_pass (self : Value) (l : List Value) (h : refsEx l = true) : refuseLoop self "__setattr__" l = pure () := by
  obtain ⟨cs, rfl⟩ := refsEx_split l h
  clear h
  induction cs with
  | nil => exact F.store_Exception.passes self
  | cons c cs ih =>
    show refuseLoop self "__setattr__" (Value.ref c :: (cs.map Value.ref ++ exT)) = pure ()
    rw [refuseLoop_ref]
    exact ih
theorem refsEx_has (X : String) (l : List Value) (h : refsEx l = true) : l.contains (.type X) = exT.contains (.type X) := by
  obtain ⟨cs, rfl⟩ := refsEx_split l h
  clear h
  induction cs with
  | nil => rfl
  | cons c cs ih =>
    show (Value.ref c :: (cs.map Value.ref ++ exT)).contains (.type X) = _
    rw [List.contains_cons, ih]
    rfl
theorem refsEx_ne {l : List Value} (h : refsEx l = true) : l.isEmpty = false := by
  cases l with
  | nil => exact absurd h (by decide)
  | cons _ _ => rfl
end Hr
namespace Hr
open PySem PySem.Spec PyProof.Rows L2
/-- a comprehension within a comprehension: its block, by the names of the outer one -/
theorem blkOk_nest {N : List Str} {sc scope : Scope} {own : List (Str × Nat)} (h : blkC N sc scope own = true) : BlkOk N sc scope own := blkOk_by h
theorem passOn {X : Cx} {E : XK} (tk : Takes X fun cls d _ H => E cls d H) : Passes (L2.CX X.prog X.w) X E := passes_call tk fun _ _ _ _ h => h
/-- tuple(xs), by its own K -/
def rTupO (K : PySem.W.Frag) : List V → Hp → VK → Prop := fun xs H Q => ∃ p ys, xs = [V.ref p] ∧ ((SqL K H p ys ∧ ∀ l, H l = none → Q (.ref l) (upd H l (.tup ys))) ∨ SqT K H p ys ∧ Q (.ref p) H)
theorem call_tupO {X : Cx} {K : PySem.W.Frag} (hK : X.K = K := by rfl) : CallR X (.type "tuple") (rTupO K) := by
  subst hK
  exact call_tuple_of
end Hr

/-! try with several clauses `except X as n`, all of one name. -/
namespace Hr
open PySem PySem.Spec PyProof.Rows L2
abbrev Clause := Value × (Addr → Value → Option Addr → TS)
/-- the ends of a suite behind which the slot i is empty again -/
def offE (i : Nat) (D : Ends) : Ends where
  nx := fun τ G => D.nx (τ.set i none) G
  rt := D.rt
  bk := fun τ G => D.bk (τ.set i none) G
  ct := fun τ G => D.ct (τ.set i none) G
/-- what the clauses ask of an exception of the body, the first that takes it; slot i is the name's -/
def wNamed (K : PySem.W.Frag) (i : Nat) (W0 : WX) (D : Ends) : List Clause → WX
  | [] => W0
  | p :: ps => fun cls d τ G => ∃ b, PySem.W.exmOne K cls p.1 = some b ∧ (b = true → ∀ a, G a = none → p.2 a cls d (offE i D) (τ.set i (some (.ref a))) G) ∧ (b = false → wNamed K i W0 D ps cls d τ G)
inductive Named (X : Cx) (n : Str) : List ExceptHandler → List Clause → Prop
  | nil : Named X n [] []
  | cons {y : Str} {c : Value} {t : Addr → Value → Option Addr → TS} {st : Stmt} {sts : List Stmt} {q1 q2 : Pos} {hs : List ExceptHandler} {ps : List Clause} (nm : Names X y c)
      (go : ∀ (a : Addr) (ob : Obj) (cls : Value) (d : Option Addr) (pn : List (Addr × Obj)), Zc cls d ob → (∃ fv, ob.data = .fields fv) → PSs (X.suite a ((a, ob) :: pn)) (st :: sts) (t a cls d)) (r : Named X n hs ps) :
      Named X n (.ExceptHandler (some (.Name y q1)) (some n) (st :: sts) q2 :: hs) ((c, t) :: ps)
section
variable {X : Cx} {n : Str} {i : Nat} {sts : List Stmt} {h1 : ExceptHandler} {hs : List ExceptHandler} {ps : List Clause} {pos : Pos} {tb : WX → TS} {W0 : WX}
theorem ps_try_named (e1 : X.stack = X.env :: X.outer) (e2 : X.env.frame = some X.env.locals) (nd : X.N.Nodup) (hi : X.N[i]? = some n) (kn : X.env.kindOf n = some .local) (tk : Takes X W0)
    (hb : ∀ (W : WX) (pn : List (Addr × Obj)) (xe : Value → Shared → Prop), Takes (X.tr pn xe) W → PassesOwn (model X.prog X.w) X.A X.env xe → PSs (X.tr pn xe) sts (tb W))
    (hh : Named X n (h1 :: hs) ps) : PS X (.Try sts (h1 :: hs) [] [] pos) (fun D τ G => tb (wNamed X.K i W0 D ps) D τ G) := by
  constructor
  intro pins s τ G D I q0
  have frm : X.A.frames = some (X.env :: X.outer) := I.ok.frames.trans (congrArg some e1)
  have kl : Loc X.env.scope n := .inl kn
  refine wpAny_Try_except (wpAny_mono ((hb (wNamed X.K i W0 D ps) (X.pn ++ pins) (fun e u1 => wpAny (model X.prog X.w) X.A (noteFrame e X.env) (fun _ u2 =>
    wpAny (model X.prog X.w) X.A (setFlight e none) (fun _ u3 => wpAny (model X.prog X.w) X.A (handleBy e X.env (h1 :: hs)) (SP X pins D) X.xe u3) X.xe u2) X.xe u1) (fun u z xx => ?_) PassesOwn.looking).run [] s τ G D (I.toTry _) q0) (fun f z sp => ?_) fun _ _ z => z)
  · obtain ⟨a, B, s0, pins', τ', G', cls, d, rfl, J0, nb, up, sky, na, os, ag, w⟩ := xx
    have J : Inv X pins τ' G' s0 := J0.ofTry I.ok
    rw [e1] at sky
    show wpAny (model X.prog X.w) X.A (noteFrame (.ref a) X.env) _ _ _
    refine Sky.land Zc.steady frm e2 sky fun g3 fl up3 => ?_
    have upB := up.trans up3
    have J3 : Inv X pins τ' G' { z with heap := g3 } := J.landed nb fl.1 upB os ag
    obtain ⟨ob, fv, hob, hzc, hfv⟩ := fl.there
    have off : a ∉ frs (X.env :: X.outer) := fun hm => by
      obtain ⟨_, o', e', hn⟩ := fl.2.2.1.mem hm
      rw [hob] at e'
      cases e'
      exact hn _ hfv
    have aL : a ≠ X.env.locals := fun e => off (List.mem_filterMap.mpr ⟨X.env, List.mem_cons_self, by rw [e2, e]⟩)
    have aF : a ∉ X.fs := fun hm => by
      obtain ⟨ev, hev, hq⟩ := List.mem_filterMap.mp hm
      exact off (List.mem_filterMap.mpr ⟨ev, List.mem_cons_of_mem _ hev, hq⟩)
    have T3 := J3.suite hob hfv na aL aF
    suffices all : ∀ {ks : List ExceptHandler} {qs : List Clause}, Named X n ks qs → wNamed X.K i W0 D qs cls d τ' G' →
        wpAny (model X.prog X.w) X.A (handleBy (.ref a) X.env ks) (SP X pins D) X.xe { z with heap := g3 } from all hh w
    intro ks qs nk
    induction nk with
    | nil =>
      intro w
      refine wpAny_handleBy_nil ?_
      obtain ⟨_, _, _, _, _, t1, _, _, r1, _, r3, r4, _⟩ := id fl
      unfold PySem.passOn
      refine wpAny_bind (wpAny_field r1 r3 r4 ?_)
      rw [if_neg (show ¬ ((Value.ref t1 == Value.none) = true) by simp)]
      have last : wpAny (model X.prog X.w) X.A (setFlight (.ref a) X.env.frame) (fun _ z4 => wpAny (model X.prog X.w) X.A (throw (.ref a) : Sem Flow) (SP X pins D) X.xe z4) X.xe { z with heap := g3 } := by
        rw [e2]
        refine HandSPX.setFlight_upZ fl fun g4 f4 up4 => wpAny_throw (tk _ _ ?_)
        exact ⟨a, B, s0, pins, τ', G', cls, d, rfl, J, nb, upB.trans up4, .inr (.inr (e1 ▸ f4)), na, os, ag, w⟩
      first
        | exact wpAny_bind last
        | exact wpAny_bind (wpAny_pure (wpAny_bind last))
    | @cons y c t st sts' q1 q2 ks' qs' nm go rest ih =>
      intro w
      obtain ⟨b, hb1, yes, no⟩ := w
      have look : PySem.W.Looks (model X.prog X.w) g3 (typeOf (.ref a)) cls := fun A' Q' E' s' k q => wpAny_typeOf_ref (k _ _ hob) (hzc.1.symm ▸ q)
      have mt := PySem.W.exm_one (M := model X.prog X.w) J3.kIn look hb1
      refine wpAny_handleBy_cons (codeAny_handlers_test ?_) nofun
      have name : ∀ {Q' E' : Value → Shared → Prop}, Q' c { z with heap := g3 } → wpAny (model X.prog X.w) (X.A.mark (some (.ref a))) (eval (.Name y q1) X.env) Q' E' { z with heap := g3 } := fun {Q' E'} q => by
        obtain ⟨g, nd, k | ⟨k1, k2, k3⟩⟩ := nm
        · exact ld_glob (X := X.suite a ((a, ob) :: (X.pn ++ pins))) T3 g k q nd
        · exact ld_blt (X := X.suite a ((a, ob) :: (X.pn ++ pins))) T3 g k1 k2 q k3 nd
      refine name (mt.here ?_)
      cases b with
      | false => exact ih (no rfl)
      | true =>
        refine codeAny_handlers_suite_as (HandSPX.lands_againZ fl fun g4 f4 up4 => ?_)
        have J4 : Inv X pins τ' G' { z with heap := g4 } := J.landed nb f4.1 (upB.trans up4) os ag
        obtain ⟨ob4, fv4, hob4, hz4, hf4⟩ := f4.there
        refine store_ok (X := X.suite a ((a, ob4) :: (X.pn ++ pins))) (v := .ref a) (J4.suite hob4 hf4 na aL aF) nd hi kl rfl (fun s5 T5 => ?_) (.inr kn)
        refine wpAny_mono ((go a ob4 cls d (X.pn ++ pins) hz4 ⟨_, hf4⟩).run [] s5 _ G' _ T5 (yes rfl a na)) (fun f s6 sp => ?_) fun _ _ x => False.elim x
        have fin : ∀ {τ6 : L2.St} {G6 : Hp} {Q' : Shared → Prop}, Inv (X.suite a ((a, ob4) :: (X.pn ++ pins))) [] τ6 G6 s6 → (∀ s7, Inv X pins (τ6.set i none) G6 s7 → Q' s7) →
            wpAny (model X.prog X.w) X.A (do bindName X.env n .none; unbindBehindTheSuite X.env n q2) (fun _ s7 => Q' s7) X.xe s6 := fun T6 q => gone_ok (T6.unsuite I.ok) nd hi kn q
        cases f with
        | ret u =>
          obtain ⟨v, τ6, G6, T6, r6, q6⟩ := sp
          exact fin T6 fun s7 J7 => ⟨_, _, _, J7, r6, q6⟩
        | next =>
          obtain ⟨τ6, G6, T6, q6⟩ := sp
          exact fin T6 fun s7 J7 => ⟨_, _, J7, q6⟩
        | brk =>
          obtain ⟨τ6, G6, T6, q6⟩ := sp
          exact fin T6 fun s7 J7 => ⟨_, _, J7, q6⟩
        | cont =>
          obtain ⟨τ6, G6, T6, q6⟩ := sp
          exact fin T6 fun s7 J7 => ⟨_, _, J7, q6⟩
  · cases f with
    | ret u =>
      obtain ⟨v, τ', G', J', r, q⟩ := sp
      exact ⟨v, τ', G', J'.ofTry I.ok, r, q⟩
    | next =>
      obtain ⟨τ', G', J', q⟩ := sp
      exact wpAny_execs_nil ⟨τ', G', J'.ofTry I.ok, q⟩
    | brk =>
      obtain ⟨τ', G', J', q⟩ := sp
      exact ⟨τ', G', J'.ofTry I.ok, q⟩
    | cont =>
      obtain ⟨τ', G', J', q⟩ := sp
      exact ⟨τ', G', J'.ofTry I.ok, q⟩
end
end Hr

namespace HrE_thing
open PySem PySem.W PySem.Calls PyProof.Rows PySem.HandSPX Hr
section
variable {prog : Program} {w : World} {A : Around} {R : Result → Shared → Prop} {hp : Heap} {g : Array GenState} {d : Drawn} {t : Nat} {os : OsState}
open Builtin Builtin.ObjectAttr
theorem ex_osa {K : W.Frag} {name : Str} {tk : Tok} {v : Value} {x C : Addr} {fv : Array Value} {cd : ClassData}
    (X : K.In hp) (hx : hp.get? x = some { cls := .ref C, data := .fields fv }) (hcd : W.clsIn K C = some cd) (hm : refsEx cd.mro = true) (hh : cd.hasDict = true) (ha : W.findIn K (.ref C) name = some none)
    (hq : ∀ h' tk' dx, (∀ b o, b ≠ x → hp.get? b = some o → h'.get? b = some o) → hp.objs.size ≤ dx → dx ≠ x → h'.get? x = some { cls := .ref C, dict := some dx, data := .fields fv } →
      h'.Ns1 dx (fun y => if y = name then some v else none) → R (.ok (.ret .none)) ⟨h', g, d, tk', os⟩) :
    codeAny (model prog w) A (.call (.builtin "object.__setattr__") ⟨[.ref x, .str name tk, v], []⟩) R ⟨hp, g, d, t, os⟩ := by
  have I : W.InstAt hp x { cls := .ref C, data := .fields fv } C none := ⟨hx, rfl, rfl, trivial⟩
  have SF := F.store_object
  have ne := refsEx_ne hm
  have hob : cd.mro.contains (.type "object") = true := (refsEx_has "object" _ hm).trans (by decide +kernel)
  have hxs : x ≠ hp.objs.size := Nat.ne_of_lt (Heap.lt_size hx)
  have sub : W.Looks (model prog w) hp (isInstance (.ref x) (.type "object")) true := I.type.andThen (W.looks_mroIn X (by unfold W.mroIn; rw [hcd, Option.bind_some, if_neg (by rw [ne]; decide), hob]))
  refine codeAny_call_builtin SF.slot.plain SF.entry (@W.check_slot (model prog w) _ _ ⟨hp, g, d, t, os⟩ "object.__setattr__" "object" "__setattr__" (.ref x) [.str name tk, v] [] _ SF.kind SF.split sub (SF.args (.ref x) (.str name tk) v) ?_)
  have hmr : W.Looks (model prog w) hp (mroOf (.ref C)) cd.mro := (W.looks_clsIn X hcd).andThen .now
  have L3 : W.Looks (model prog w) hp (storeTaker? none) none := .now
  have hcls : W.Looks (model prog w) hp (classData C) cd := W.looks_clsIn X hcd
  rw [W.osa_eq, refuse_eq]
  refine wpAny_bind (wpAny_bind (I.type.at (wpAny_bind (hmr.at ?_))))
  rw [refsEx_pass _ _ hm]
  refine wpAny_pure (wpAny_bind (I.type.at (wpAny_bind ((W.looks_findIn X ha).at (wpAny_bind (L3.at ?_))))))
  show wpAny _ _ (storeInOwnDict (.ref x) (.ref C) (.str name tk) name v false) _ _ _
  obtain ⟨nm, bs, mro, ns, qn, hd, sn, sb, ab, col, del⟩ := cd
  dsimp only at hh
  subst hh
  unfold storeInOwnDict ownDictForStores
  repeat (first | with_reducible refine store_in_new ?_ ?_ | with_reducible refine wpAny_loadPart_at hx ?_ | with_reducible refine hcls.at ?_ | wp_step)
  · exact ⟨_, #[], _, (Heap.get?_update_ne _ _ _ _ hxs.symm).trans (Heap.get?_push_at rfl rfl), rfl, fun e he => absurd he (by simp), fun _ => rfl⟩
  · intro h' tk' hn' hs
    have hx₁ : (hp.push { cls := .type "dict", data := .dict #[] }).get? x = some { cls := .ref C, data := .fields fv } := Heap.get?_push_of_some _ hx
    refine hq h' tk' hp.objs.size (fun b o hb ho => ?_) (Nat.le_refl _) hxs.symm ?_ hn'
    · exact (hs.2 b (Nat.ne_of_lt (Heap.lt_size ho))).trans ((Heap.get?_update_ne _ _ _ _ hb).trans (Heap.get?_push_of_some _ ho))
    · exact (hs.2 x hxs).trans (Heap.get?_update_self _ hx₁ rfl)
end
/-! ### the text of __init__ -/
def iA (p1 p2 : Pos) : Arguments := { posonlyargs := [], args := [{ arg := "self", annotation := none, pos := p1 }, { arg := "thing", annotation := none, pos := p2 }], vararg := none, kwonlyargs := [], kw_defaults := [], kwarg := none, defaults := [] }
def iB (q1 q2 q3 q4 : Pos) : List Stmt := [.Assign [.Attribute (.Name "self" q1) "thing" q2] (.Name "thing" q3) q4]
def iS : Scope := { kind := .function, names := [(PySem.Str.ofString "self", .local), (PySem.Str.ofString "thing", .local)], isGenerator := false, isCoroutine := false, more := [] }
/-- what the written part says of Low, at C, and of its __init__, at fI -/
structure ExTxt (K : Frag) (mg : Str → Option Value) (cn : Str) (C fI : Addr) : Prop where
  gC : mg cn = some (.ref C)
  cls : ∃ nm q N bs bm sn sub ab col dd k0 k1 k2 k3 k5, K.lookup C = some (excClassObj nm q C N bs bm true sn sub ab col dd k0 k1 k2 k3 k5 "Exception.__new__") ∧ refsEx bm = true
  sa : findIn K (.ref C) "__setattr__" = some (some (.builtin "object.__setattr__"))
  ga : findIn K (.ref C) "__getattribute__" = some (some (.builtin "BaseException.__getattribute__"))
  gg : findIn K (.ref C) "__getattr__" = some none
  noN : findIn K (.ref C) "thing" = some none
  iC : findIn K (.ref C) "__init__" = some (some (.ref fI))
  tC : typeIn K (.ref fI) = some (.type "function")
  kC : keepIn K (.ref C) = true
  exC : subIn K (.ref C) (.type "BaseException") = some true
  tyC : typeIn K (.ref C) = some (.type "type")
  hdC : hasDictIn K C = true
  te : exmOne K (.ref C) (.ref C) = some true
  fn : ∃ (oc : Value) (od : Option Addr) (doc pm : Value) (an : Option Addr) (cdv ct : Value) (osl : Array (Option Value)) (p1 p2 q1 q2 q3 q4 : Pos) (qn : Str),
    K.lookup fI = some ⟨oc, od, .func (fnOf "__init__" qn (iA p1 p2) (iB q1 q2 q3 q4) iS .none .none doc pm an cdv ct), osl⟩ ∧ codeIn K cdv qn = true
theorem one_size (v : Value) : [v].length ≤ sizeLine := by
  rw [sizeLine_eq]
  exact (by decide : 1 ≤ 16777216)
theorem kept_but {K : Frag} {h h' : Heap} {x : Addr} (X : K.In h) (hx : K.lookup x = none) (k : ∀ b o, b ≠ x → h.get? b = some o → h'.get? b = some o) : K.In h' := fun a o e =>
  k a o (fun z => by rw [z, hx] at e; cases e) (X a o e)
theorem ldC {M : Model} {s : Shared} {name : Str} {scope : Scope} {L a : Addr} {cd : Value} {m : Str → Option Value} {x : Str} {pos : Pos} {v : Value} {Q : Value → Shared → Prop} {A : Around} {E : Value → Shared → Prop} (hn : s.heap.Ns L m) (hv : m x = some v) (h : Q v s)
    (hk : scope.kind = .function := by rfl) (hl : (envOfC name scope L a cd).kindOf x = some .local := by rfl) (hd : (x == ("__debug__" : Str)) = false := by decide) :
    wpAny M A (eval (.Name x pos) (envOfC name scope L a cd)) Q E s := wpAny_Name (wpAny_loadName_local hk hl hn hv h) hd
/-- what __init__ leaves of a fresh exception at x -/
structure InitEnd (h h' : Heap) (x C dx t1 : Addr) (v : Value) : Prop where
  keep : ∀ b o, b ≠ x → h.get? b = some o → h'.get? b = some o
  obj : h'.get? x = some { cls := .ref C, dict := some dx, data := .fields #[.ref t1, .none, .none, .none, .bool false, .none] }
  dbig : h.objs.size ≤ dx
  dne : dx ≠ x
  ns : h'.Ns1 dx (fun y => if y = "thing" then some v else none)
/-- a made Low -/
structure OwnMade (h h' : Heap) (e C d : Addr) (v : Value) : Prop where
  keep : ∀ b o, h.get? b = some o → h'.get? b = some o
  new : h.objs.size ≤ e
  obj : ∃ oe vs, h'.get? e = some oe ∧ oe.cls = .ref C ∧ oe.dict = some d ∧ oe.data = .fields vs ∧ vs[1]? = some .none
  dbig : h.objs.size ≤ d
  dne : d ≠ e
  ns : h'.Ns1 d (fun y => if y = "thing" then some v else none)
section
variable {prog : Program} {w : World} {A : Around} {E : Value → Shared → Prop} {R : Result → Shared → Prop} {s : Shared} {K : Frag} {mg : Str → Option Value} {cn : Str} {C fI : Addr}
theorem ex_init (T : ExTxt K mg cn C fI) {x t0 : Addr} {v : Value} (X : K.In s.heap) (hlim : s.heap.NoLimit) (hx : s.heap.get? x = some (excO C t0)) (hnx : K.lookup x = none) (hroom : A.depth < recursionLimit)
    (hq : ∀ h' tk dx, InitEnd s.heap h' x C dx t0 v → R (.ok (.ret .none)) { s with heap := h', toks := tk }) :
    codeAny (model prog w) A (.call (.ref fI) ⟨[.ref x, v], []⟩) R s := by
  obtain ⟨oc, od, doc, pm, an, cdv, ct, osl, p1, p2, q1, q2, q3, q4, qn, ho, hcd⟩ := T.fn
  obtain ⟨nm, q, N, bs, bm, sn, sub, ab, col, dd, k0, k1, k2, k3, k5, hC, hbm⟩ := T.cls
  have hcl : clsIn K C = some { name := nm, bases := bs, mro := .ref C :: bm, ns := N, qualname := q, hasDict := true, slotNames := sn, subclasses := sub, abstract := ab, collection := col, hasDel := false } := by unfold clsIn; rw [hC] <;> rfl
  refine Att.call_fn (binds := [("self", .ref x), ("thing", v)]) X hlim ho hcd hroom (BindsTo.of_eq (by first | rfl | with_unfolding_all rfl)) (by first | rfl | decide | with_unfolding_all rfl) (fun s₁ IC => ?_) rfl rfl rfl
  obtain ⟨h₁, tk₁, rfl⟩ := IC.toInCall.same
  have k : ∀ b o, s.heap.get? b = some o → h₁.get? b = some o := IC.toInCall.keep
  have hn := IC.toInCall.ns
  have hxL : s.heap.objs.size ≠ x := Nat.ne_of_gt (Heap.lt_size hx)
  have X₁ : K.In h₁ := X.keeps k
  have hx₁ := k _ _ hx
  -- self.by = by
  show wpAny _ _ (execs _ _) _ _ _
  refine wpAny_execs_cons (plainObj_wpAny_Assign_Attribute ?_)
  refine ldC (v := v) hn (by first | rfl | with_unfolding_all rfl | kernel_rfl) (ldC (v := .ref x) hn (by first | rfl | with_unfolding_all rfl | kernel_rfl) ?_)
  refine set_plain X₁ (ox := excO C t0) (od := none) ⟨hx₁, rfl, rfl, trivial⟩ T.sa ?_
  refine ex_osa X₁ hx₁ hcl (show refsEx (.ref C :: bm) = true from hbm) rfl T.noN (fun h₃ tk₃ dx k₃ dn dne hx₃ hn₃ => ?_)
  show wpAny _ _ (execs _ _) _ _ _
  have z : s.heap.objs.size < h₁.objs.size := hn.lt
  exact wpAny_execs_nil (hq h₃ tk₃ dx ⟨fun b o hb e => k₃ b o hb (k b o e), hx₃, Nat.le_of_lt (Nat.lt_of_lt_of_le z dn), dne, hn₃⟩)
theorem ex_made (T : ExTxt K mg cn C fI) {v : Value} (X : K.In s.heap) (hlim : s.heap.NoLimit) (hroom : A.depth + 1 < recursionLimit)
    (hq : ∀ h' tk e d, OwnMade s.heap h' e C d v → R (.ok (.ret (.ref e))) { s with heap := h', toks := tk }) :
    codeAny (model prog w) A (.call (.ref C) ⟨[v], []⟩) R s := by
  obtain ⟨nm, q, N, bs, bm, sn, sub, ab, col, dd, k0, k1, k2, k3, k5, hC, hbm⟩ := T.cls
  obtain ⟨hp, g, dr, tk, os⟩ := s
  have k : ∀ b o, hp.get? b = some o → ((hp.push (kdv_tup [v])).push (excO C hp.objs.size)).get? b = some o := fun b o e => Heap.get?_push_of_some _ (Heap.get?_push_of_some _ e)
  have hget : ((hp.push (kdv_tup [v])).push (excO C hp.objs.size)).get? (hp.objs.size + 1) = some (excO C hp.objs.size) := by heap_get
  have hnx : K.lookup (hp.objs.size + 1) = none := by
    cases e : K.lookup (hp.objs.size + 1) with
    | none => rfl
    | some o =>
      have z : hp.get? (hp.objs.size + 1) = some o := X _ _ e
      exact absurd (Nat.lt_of_succ_lt (Heap.lt_size z)) (Nat.lt_irrefl _)
  refine call_own F.excBase_Exception (fun X => refsEx_has X bm hbm) (X _ _ hC) (looks_findIn X T.iC) (fun self => bind_fn X self T.tC) (one_size v) ?_
  refine ex_init (s := ⟨(hp.push (kdv_tup [v])).push (excO C hp.objs.size), g, dr, tk, os⟩) T (X.keeps k) (hlim.keeps k) hget hnx ?_ fun h' tk' dx ⟨k', hx, dn, dne, hns⟩ => ?_
  · show A.depth + 1 < recursionLimit
    exact hroom
  · have old : ∀ b o, hp.get? b = some o → h'.get? b = some o := fun b o e => k' b o (Nat.ne_of_lt (Nat.lt_succ_of_lt (Heap.lt_size e))) (k b o e)
    have z : hp.objs.size + 1 + 1 ≤ dx := by
      first
        | (simpa only [Heap.size_push] using dn)
        | exact dn
        | (have q := dn; rw [Heap.size_push, Heap.size_push] at q; exact q)
    exact ⟨rfl, hq h' tk' (hp.objs.size + 1) dx ⟨old, Nat.le_succ _, ⟨_, _, hx, rfl, rfl, rfl, rfl⟩, Nat.le_trans (Nat.le_trans (Nat.le_succ _) (Nat.le_succ _)) z, dne, hns⟩⟩
end
end HrE_thing
namespace HrE_thing
open PySem PySem.Spec PyProof.Rows L2 Hr
theorem relO_ex {v : V} {v' : Value} (r : RelV v v') (f : Str) : RelO (List.lookup f [(("thing" : Str), v)]) (if f = "thing" then some v' else none) := by
  by_cases hw : f = "thing"
  · subst hw
    rw [if_pos rfl]
    have q : List.lookup ("thing" : Str) [(("thing" : Str), v)] = some v := by simp [List.lookup]
    rw [q]
    exact r
  · rw [if_neg hw]
    have qw : (f == ("thing" : Str)) = false := by simpa using hw
    have q2 : List.lookup f [(("thing" : Str), v)] = none := by simp [List.lookup, qw]
    rw [q2]
    trivial
section
variable {X : Cx} {cn : Str} {C fI : Addr}
/-- Low(e) -/
def tMkEx (C : Addr) (ta : TA) : L2.St → Hp → XK → Prop := fun σ H Q => ta σ H fun vs H1 => ∃ v, vs = [v] ∧ ∀ d, H1 d = none → Q (.ref C) (some d) (upd H1 d (.xd [(("thing" : Str), v)]))
theorem pmk_ex {a : Expr} {ta : TA} {p pos : Pos} {k : Nat} (T : ExTxt X.K X.mg cn C fI) (hr : Room k X.A) (ha : PA X [a] ta) (hg : Gl X cn := by rfl) (hdb : (cn == ("__debug__" : Str)) = false := by decide)
    (he : starEach (a :: []) X.env = (false, eval a X.env) :: starEach [] X.env := by rfl) (hpl : (backTo pos (starEach [] X.env)).any (·.1) = false := by rfl) :
    PMk X (.Call (.Name cn p) [a] [] pos) (tMkEx C ta) := by
  intro pins s σ H Q I h
  refine wpAny_Call_Name_kw (ld_glob I hg T.gC ?_ (hd := hdb))
  refine PySem.W.callWith_K (h₀ := X.base) I.ok.mod.kin T.kC (thn (ha.run pos pins s σ H _ I h) fun us s1 hh => ?_) he hpl
  obtain ⟨vs, H1, I1, r1, v, ev, q1⟩ := hh
  subst ev
  refine ⟨I1.kIn, ?_⟩
  cases r1 with
  | cons rv rn =>
    rename_i v' us'
    cases rn
    show wpAny _ _ (call (.ref C) [v']) _ _ _
    have hlim := I1.nolimit
    obtain ⟨hp, g, dr, tk, os⟩ := s1
    refine wpAny_call (ex_made T I1.kIn hlim (by have := hr.dp; omega) fun h' tk' e d M => ?_)
    show MkP X pins σ Q (.ref e) ⟨h', g, dr, tk', os⟩
    obtain ⟨oe, fv, hoe, hc, hd, hdat, h1⟩ := M.obj
    have hns := M.ns
    obtain ⟨G', g1, g2⟩ := restrict h' fun b => decide (b ≠ e)
    have gk : ∀ b, b ≠ e → G'.get? b = h'.get? b := fun b hb => g1 b (decide_eq_true hb)
    have ge : G'.get? e = none := g2 e (by simp)
    have old : ∀ b o, hp.get? b = some o → G'.get? b = some o := fun b o q => (gk b (Nat.ne_of_lt (Nat.lt_of_lt_of_le (Heap.lt_size q) M.new))).trans (M.keep b o q)
    have ob : ObjOk X.prog X.w (upd H1 d (.xd [(("thing" : Str), v)])) G' d (.xd [(("thing" : Str), v)]) :=
      ⟨_, hns.at (fun o q => (gk d M.dne).trans q), fun f => relO_ex rv f⟩
    have J : Inv X pins σ (upd H1 d (.xd [(("thing" : Str), v)])) ⟨G', g, dr, tk', os⟩ := I1.laid (t' := tk') old M.dbig ob
    refine ⟨e, oe, fv, ⟨G', g, dr, tk', os⟩, _, .ref C, some d, rfl, J, fun b o q => ?_, ge, hoe, ⟨hc, hd⟩, hdat, h1, ?_, rfl, I1.bare, raises_own T.exC T.tyC, q1 d (I1.hok.fresh M.dbig)⟩
    · by_cases hb : b = e
      · have q' : G'.get? b = some o := q
        rw [hb, ge] at q'; cases q'
      · exact (gk b hb).symm.trans q
    · rw [upd_ne (Ne.symm M.dne)]
      exact I1.hok.fresh M.new
/-- raise Low(e) -/
def tRaiseEx (C : Addr) (W : WX) (ta : TA) : TS := fun _ σ H => tMkEx C ta σ H fun cls d H' => W cls d σ H'
theorem ps_raiseEx {a : Expr} {ta : TA} {W : WX} {p pos pos2 : Pos} {k : Nat} (hc : X.calm = true) (T : ExTxt X.K X.mg cn C fI) (hr : Room k X.A) (tk : Takes X W) (ha : PA X [a] ta) (hg : Gl X cn := by rfl) (hdb : (cn == ("__debug__" : Str)) = false := by decide)
    (he : starEach (a :: []) X.env = (false, eval a X.env) :: starEach [] X.env := by rfl) (hpl : (backTo pos (starEach [] X.env)).any (·.1) = false := by rfl) :
    PS X (.Raise (some (.Call (.Name cn p) [a] [] pos)) none pos2) (tRaiseEx C W ta) := ps_raise hc tk (pmk_ex T hr ha hg hdb he hpl)
/-- e.thing, low the exception that the suite holds (at a; its class cls, its dict d) -/
def tGetEx (C : Addr) (a : Addr) (cls : Value) (d : Option Addr) (te : TE) : TE := fun σ H Q => te σ H fun x H1 => x = .ref a ∧ cls = .ref C ∧ ∃ (dd : Addr) (v : V), d = some dd ∧ H1 dd = some (.xd [(("thing" : Str), v)]) ∧ Q v H1
theorem pe_getEx {a : Addr} {oe : Obj} {cls : Value} {d : Option Addr} {pn : List (Addr × Obj)} {e : Expr} {te : TE} {pos : Pos} (T : ExTxt X.K X.mg cn C fI) (hz : Zc cls d oe) (hf : ∃ vs, oe.data = .fields vs) (he : PE (X.suite a ((a, oe) :: pn)) e te)
    (hb : attributeBase e "thing" X.env (eval e X.env) = eval e X.env := by rfl) :
    PE (X.suite a ((a, oe) :: pn)) (.Attribute e "thing" pos) (tGetEx C a cls d te) := by
  refine ⟨fun pins s σ H Q I h => ?_⟩
  refine attr_of hb (thn (he.run pins s σ H _ I h) fun u s1 hh => ?_)
  obtain ⟨x, H1, I1, rx, ex, ec, dd, v, ed, ea, q⟩ := hh
  subst ex
  obtain rfl : u = Value.ref a := rx
  subst ec
  subst ed
  obtain ⟨ha, _⟩ := I1.pin (a, oe) (List.mem_append_left _ List.mem_cons_self)
  obtain ⟨vs, hd⟩ := hf
  have hx : ObjOk X.prog X.w H1 s1.heap dd (.xd [(("thing" : Str), v)]) := I1.hok dd _ ea
  obtain ⟨mA, hns, hr⟩ := hx
  obtain ⟨od, ho, hl⟩ := lookIn_ns hns
  have l : List.lookup ("thing" : Str) [(("thing" : Str), v)] = some v := by simp [List.lookup]
  obtain ⟨u, hu, ru⟩ := RelO.some_of (v := v) (o := mA "thing") (by rw [← l]; exact hr "thing")
  have J : PySem.W.InstAt s1.heap a oe C (some od) := ⟨ha, hz.1, by unfold PySem.W.notCls; rw [hd] <;> rfl, by rw [hz.2]; exact ho⟩
  exact HandSPX.exc_get I1.kIn J T.ga T.gg T.exC (PySem.W.findObj_own T.hdC T.noN rfl (by rw [hl, hu])) (handed_of ru) ⟨v, H1, I1.tok _, ru, q⟩
end

end HrE_thing

/-! More rules: min of a tuple, repr of a bool, a range walked again, zip of tuples. -/
namespace Hr
open PySem PySem.Spec PyProof.Rows L2 Evl RZ
section
variable {X : Cx}
/-! ### min of a tuple of ints -/
def rMinT (K : PySem.W.Frag) : List V → Hp → VK → Prop := fun vs H Q => ∃ (a : Addr) (ns : List Int), vs = [.ref a] ∧ SqT K H a (ns.map V.int) ∧ 0 < ns.length ∧ ∀ m, m ∈ ns → (∀ y, y ∈ ns → m ≤ y) → Q (.int m) H
theorem foldl_min (n : Int) : ∀ ns : List Int, (ns.foldl min n ∈ n :: ns) ∧ (∀ y ∈ n :: ns, ns.foldl min n ≤ y) := by
  intro ns
  induction ns generalizing n with
  | nil => exact ⟨List.mem_singleton.mpr rfl, fun y hy => by cases List.mem_singleton.mp hy; exact Int.le_refl _⟩
  | cons k r ih =>
    obtain ⟨h1, h2⟩ := ih (min n k)
    rw [List.foldl_cons]
    refine ⟨?_, fun y hy => ?_⟩
    · rcases List.mem_cons.mp h1 with e | h
      · rw [e]
        by_cases z : n ≤ k
        · rw [Int.min_eq_left z]; exact List.mem_cons_self
        · rw [Int.min_eq_right (by omega)]; exact List.mem_cons_of_mem _ List.mem_cons_self
      · exact List.mem_cons_of_mem _ (List.mem_cons_of_mem _ h)
    · have h3 := h2 (min n k) List.mem_cons_self
      rcases List.mem_cons.mp hy with rfl | hy
      · omega
      · rcases List.mem_cons.mp hy with rfl | hy
        · omega
        · exact h2 y (List.mem_cons_of_mem _ hy)
theorem alike_all_ints (ns : List Int) : PySem.W.AlikeAll (ns.map PyData.int) := by
  refine ⟨fun x hx y hy => ?_, fun x hx => ?_⟩
  · obtain ⟨i, _, rfl⟩ := List.mem_map.mp hx
    obtain ⟨j, _, rfl⟩ := List.mem_map.mp hy
    simp only [PySem.W.alike]
  · obtain ⟨i, _, rfl⟩ := List.mem_map.mp hx
    intro h
    cases h
theorem depth_ints : ∀ ns : List Int, PyData.depthAll (ns.map PyData.int) ≤ 1
  | [] => by simp [PyData.depthAll]
  | x :: xs => by
    have ih := depth_ints xs
    simp only [List.map_cons, PyData.depthAll, PyData.depth]
    exact Nat.max_le.mpr ⟨by decide, ih⟩
theorem dp_ints {K : PySem.W.Frag} {H : Hp} : ∀ xs : List Int, DpAll K H (xs.map V.int) (xs.map PyData.int)
  | [] => .nil
  | x :: xs => .cons (.int x) (dp_ints xs)
theorem cr_minT (hc : X.calm = true) (hu : X.A.units + 64 < cLine) : CallR X (.builtin "min") (rMinT X.K) := by
  intro pins s σ H vs us Q I r h
  obtain ⟨a, ns, rfl, hs, hne, q⟩ := h
  obtain ⟨its, rv, hl, hz⟩ := I.tuple hs
  rw [Vals.ref1 r]
  obtain ⟨as, rd⟩ := Dp.readsAll I _ _ _ (dp_ints (K := X.K) (H := H) ns) rv
  cases ns with
  | nil => exact absurd hne (by decide)
  | cons n ns =>
    have rd' : ReadsAll s.heap its.toArray.toList (PyData.int n :: ns.map PyData.int) as := by
      rw [List.toList_toArray]
      exact rd
    have hd := depth_ints (n :: ns)
    refine PySem.W.min_tuple_data (I.ok.hd hc) (show s.heap.IsTuple a its.toArray from hl) rd' (alike_all_ints (n :: ns)) ?_ fun i v h' tk bs hv hr hk => ?_
    · have hd' : PyData.depthAll (PyData.int n :: ns.map PyData.int) ≤ 1 := hd
      omega
    · rw [PySem.W.minD_ints] at hr
      obtain ⟨m1, m2⟩ := foldl_min n ns
      generalize ns.foldl min n = m at hr m1 m2
      cases hr with
      | int _ t => exact ⟨.int m, H, I.kept hk, ⟨_, rfl⟩, q m m1 m2⟩

/-! ### repr of a bool -/
def tOf (b : Bool) : Str := if b then "True" else "False"
theorem cr_reprB : CallR X (.builtin "repr") (fun xs H Q => ∃ b, xs = [.bl b] ∧ Q (.str (tOf b)) H) := by
  intro pins s σ H xs us Q I r h
  obtain ⟨b, rfl, q⟩ := h
  obtain ⟨u, rfl, r1⟩ := vals1 r
  cases r1
  exact PySem.P.repr_of_bool ⟨.str _, H, I.tok _, ⟨_, rfl⟩, q⟩

/-! ### a range that stands, walked -/
def iRngV (te : TE) : TI := fun σ H R => te σ H fun x H1 => ∃ (a : Addr) (lo hi : Int), x = .ref a ∧ H1 a = some (.rng lo hi) ∧ (-(2 ^ 62) ≤ lo ∧ lo < 2 ^ 62 ∧ -(2 ^ 62) ≤ hi ∧ hi < 2 ^ 62) ∧ R (Itr lo (hi - lo).toNat) H1
theorem pi_rngV {tg e : Expr} {te : TE} (he : PE X e te) : PI X tg e (iRngV te) := by
  refine ⟨fun pins s σ H R I h => ?_⟩
  refine thn (he.run pins s σ H _ I h) fun v s1 ⟨x, H1, I1, r1, q1⟩ => ?_
  obtain ⟨a, lo, hi, e, ha, ⟨h1, h2, h3, h4⟩, q⟩ := q1
  subst e
  cases r1
  obtain ⟨t, u, v, ho⟩ := I1.hok _ _ ha
  refine wpAny_pyIter_range (show IsRange s1.heap a lo hi 1 t u v from ho) (small_one h1 h2 h3 h4) ?_
  refine ⟨s1.heap.objs.size, [s1.heap.objs.size], _, _, H1, rfl, I1.kept (t' := s1.toks) fun b o e => Heap.get?_push_of_some _ e, turn_range _ lo (hi - lo).toNat, ?_, fun b hb => ?_, q⟩
  · have e1 : lo + ((0 : Nat) : Int) * 1 = lo := by simp
    have e2 : (((hi - lo).toNat : Nat) : Int) - ((0 : Nat) : Int) = Builtin.Range.rangeSize lo hi 1 := by rw [rangeSize_one]; split <;> omega
    show IsRangeIter _ _ (lo + ((0 : Nat) : Int) * 1) ((((hi - lo).toNat : Nat) : Int) - ((0 : Nat) : Int)) 1
    rw [e1, e2]
    exact Heap.get?_push_size _ rfl
  · have e : b = s1.heap.objs.size := by simpa using hb
    subst e
    exact I1.fpOk (Nat.le_refl _) (I1.hok.fresh (Nat.le_refl _))
end
theorem walk_zipT {K : PySem.W.Frag} {a b : Addr} {xs ys : List V} {n : Nat} (hn : n = min xs.length ys.length) : Walk (ItzT K a b) n (fun H => SqT K H a xs ∧ SqT K H b ys) (YPair (fun i => xs[i]?) (fun i => ys[i]?)) := by
  subst hn
  refine ⟨fun i _ hi q => ?_, fun _ q => ⟨xs, ys, q.1, q.2, by omega⟩, fun i H v H' _ q y => ?_⟩
  · have h1 : i < xs.length := by omega
    have h2 : i < ys.length := by omega
    exact ⟨xs, ys, xs[i], ys[i], q.1, q.2, by simp [h1], by simp [h2]⟩
  · obtain ⟨T, x, z, h1, h2, h3, h4, h5⟩ := y
    exact ⟨T, x, z, h1, h2, h3, h4 xs q.1, h5 ys q.2⟩
/-- one argument, by name -/
def sw1 {α : Type} (us ws : List α) : List α := match us, ws with
  | [], [a] => [a]
  | _, _ => []
theorem sw1_rel {vs : List V} {us : List Value} {zs : List V} {ws : List Value} (r : Vals vs us) (q : Vals zs ws) : Vals (sw1 vs zs) (sw1 us ws) := by
  cases r with
  | cons _ _ => exact .nil
  | nil =>
    cases q with
    | nil => exact .nil
    | cons q1 q =>
      cases q with
      | nil => exact .cons q1 .nil
      | cons _ _ => exact .nil
theorem sw1_binds {K : PySem.W.Frag} {x qual : Str} {st : Stmt} {f : Addr} {fd : FuncData} {p1 : Str} (F : Fun K x qual st f fd)
    (h : ∀ (kV doc pm : Value) (an : Option Addr) (cdv ct a : Value), bindArgs (PySem.W.fnOf x qual (defArgs st) (defBody st) (defScope st) .none kV doc pm an cdv ct) ⟨[], [(p1, a)]⟩ = pure [(p1, a)]) :
    KBinds K fd [p1] [p1] sw1 sw1 := by
  obtain ⟨oc, od, kV, doc, pm, an, cdv, ct, osl, rfl, lk, hcd⟩ := F.ex
  refine ⟨fun s us ws _ hl => ?_, sw1_rel⟩
  match us, ws, hl with
  | [], [a], _ => exact .of_eq (h kV doc pm an cdv ct a)
  | _ :: _, _, hl => exact absurd hl (by intro z; cases z)
  | [], [], hl => exact absurd hl (by intro z; cases z)
  | [], _ :: _ :: _, hl => exact absurd hl (by intro z; cases z)

/-! ### comprehensions over what is made on the way -/
section
variable {K : PySem.W.Frag} {σ : L2.St} {H : Hp} {te tl : TE} {g : TG} {tt : TT} {vs : List Nat} {f : Nat → Bool} {v : Nat → V} {xs ys : List V}
theorem lcW {J : It} {n : Nat} {G : Hp → Prop} {Y : Nat → Hp → V → Hp → Prop} {Q : VK} (wk : Walk J n G Y) (f : Nat → Bool) (v : Nat → V) (hz : n ≤ 40000)
    (hG : ∀ H1, Ex H H1 → G H1) (hY : ∀ i H1 x H2, Y i H1 x H2 → Ex H1 H2)
    (hs : ∀ i x H1 H2, i < n → Ex H H1 → Y i H1 x H2 → ∃ σ2, (∀ k : L2.St → Hp → Prop, k σ2 H2 → g x (wipe σ vs) H2 k) ∧ wipe σ2 vs = wipe σ vs ∧ EvT tt σ2 H2 (f i) ∧ (f i = true → Ev te σ2 H2 (v i)))
    (q : ∀ p H2, H p = none → Ex H H2 → H2 p = some (.lst (given n f v)) → Q (.ref p) H2) : tLc (fun _ H' R => R J H') g tt te vs σ H Q :=
  el_lcW (wi := fun _ H' R => R J H') wk f v hz (fun H1 _ R k => k H1 (Ex.refl H1)) hG hY hs H (Ex.refl H) Q q
theorem el_lcN (hl : EvL tl σ H ys) (f : Nat → Bool) (v : Nat → V) (hz : ys.length ≤ 40000)
    (hs : ∀ i x H2, Ex H H2 → ys[i]? = some x → ∃ σ2, (∀ k : L2.St → Hp → Prop, k σ2 H2 → g x (wipe σ vs) H2 k) ∧ wipe σ2 vs = wipe σ vs ∧ EvT tt σ2 H2 (f i) ∧ (f i = true → Ev te σ2 H2 (v i))) :
    EvL (tLc (iList K tl) g tt te vs) σ H (given ys.length f v) := fun H0 e Q q =>
  hl H0 e _ fun a H1 _ e1 h1 => ⟨a, rfl, ⟨_, SqL.of h1⟩, lcW (walk_list (K := K) (a := a) (xs := ys)) f v hz (fun H2 e2 => SqL.of (e2 _ _ h1)) (fun i H1 x H2 y => by rw [y.1]; exact Ex.refl _)
    (fun i x H2 H3 hi e2 y => by
      obtain ⟨rfl, y2⟩ := y
      exact hs i x H3 ((e.trans e1).trans e2) y2) fun p H2 np e2 hp => q p H2 (fresh_back e1 np) (e1.trans e2) hp⟩
theorem el_lcT {a : Addr} (ha : H a = some (.tup xs)) (hl : Ev tl σ H (.ref a)) (f : Nat → Bool) (v : Nat → V) (hz : xs.length ≤ 40000)
    (hs : ∀ i x H2, Ex H H2 → xs[i]? = some x → ∃ σ2, (∀ k : L2.St → Hp → Prop, k σ2 H2 → g x (wipe σ vs) H2 k) ∧ wipe σ2 vs = wipe σ vs ∧ EvT tt σ2 H2 (f i) ∧ (f i = true → Ev te σ2 H2 (v i))) :
    EvL (tLc (iTup K tl) g tt te vs) σ H (given xs.length f v) :=
  el_lcW (walk_tup (K := K) (a := a) (xs := xs)) f v hz (fun H1 e R k => hl H1 e _ fun H2 e2 => ⟨a, rfl, ⟨_, SqT.of (e2 _ _ (e _ _ ha))⟩, k H2 e2⟩) (fun H1 e => SqT.of (e _ _ ha)) (fun i H1 x H2 y => by rw [y.1]; exact Ex.refl _)
    fun i x H1 H2 hi e y => by
      obtain ⟨rfl, y2⟩ := y
      exact hs i x H2 e y2
theorem el_lcR {ta : TA} {lo hi : Int} (ha : EvA ta σ H [.int lo, .int hi]) (hb : -(2 ^ 62) ≤ lo ∧ lo < 2 ^ 62 ∧ -(2 ^ 62) ≤ hi ∧ hi < 2 ^ 62) (f : Nat → Bool) (v : Nat → V) (hz : (hi - lo).toNat ≤ 40000)
    (hs : ∀ (i : Nat) H2, Ex H H2 → i < (hi - lo).toNat → ∃ σ2, (∀ k : L2.St → Hp → Prop, k σ2 H2 → g (.int (lo + i)) (wipe σ vs) H2 k) ∧ wipe σ2 vs = wipe σ vs ∧ EvT tt σ2 H2 (f i) ∧ (f i = true → Ev te σ2 H2 (v i))) :
    EvL (tLc (iRng2 ta) g tt te vs) σ H (given (hi - lo).toNat f v) :=
  el_lcW (walk_range (lo := lo) (n := (hi - lo).toNat)) f v hz (fun H1 e R k => ha H1 e _ fun H2 e2 => ⟨lo, hi, rfl, hb, k H2 e2⟩) (fun _ _ => trivial) (fun i H1 x H2 y => by rw [y.1]; exact Ex.refl _)
    fun i x H1 H2 hi e y => by
      obtain ⟨rfl, rfl⟩ := y
      exact hs i H2 e hi
theorem el_lcR1 {ta : TA} {n : Int} (ha : EvA ta σ H [.int n]) (hb : -(2 ^ 62) ≤ n ∧ n < 2 ^ 62) (f : Nat → Bool) (v : Nat → V) (hz : n.toNat ≤ 40000)
    (hs : ∀ (i : Nat) H2, Ex H H2 → i < n.toNat → ∃ σ2, (∀ k : L2.St → Hp → Prop, k σ2 H2 → g (.int (0 + i)) (wipe σ vs) H2 k) ∧ wipe σ2 vs = wipe σ vs ∧ EvT tt σ2 H2 (f i) ∧ (f i = true → Ev te σ2 H2 (v i))) :
    EvL (tLc (iRng1 ta) g tt te vs) σ H (given n.toNat f v) :=
  el_lcW (walk_range (lo := 0) (n := n.toNat)) f v hz (fun H1 e R k => ha H1 e _ fun H2 e2 => ⟨n, rfl, hb.1, hb.2, k H2 e2⟩) (fun _ _ => trivial) (fun i H1 x H2 y => by rw [y.1]; exact Ex.refl _)
    fun i x H1 H2 hi e y => by
      obtain ⟨rfl, rfl⟩ := y
      exact hs i H2 e hi
theorem el_lcRV {r : Addr} {lo hi : Int} (ha : H r = some (.rng lo hi)) (hl : Ev tl σ H (.ref r)) (hb : -(2 ^ 62) ≤ lo ∧ lo < 2 ^ 62 ∧ -(2 ^ 62) ≤ hi ∧ hi < 2 ^ 62) (f : Nat → Bool) (v : Nat → V) (hz : (hi - lo).toNat ≤ 40000)
    (hs : ∀ (i : Nat) H2, Ex H H2 → i < (hi - lo).toNat → ∃ σ2, (∀ k : L2.St → Hp → Prop, k σ2 H2 → g (.int (lo + i)) (wipe σ vs) H2 k) ∧ wipe σ2 vs = wipe σ vs ∧ EvT tt σ2 H2 (f i) ∧ (f i = true → Ev te σ2 H2 (v i))) :
    EvL (tLc (iRngV tl) g tt te vs) σ H (given (hi - lo).toNat f v) :=
  el_lcW (walk_range (lo := lo) (n := (hi - lo).toNat)) f v hz (fun H1 e R k => hl H1 e _ fun H2 e2 => ⟨r, lo, hi, rfl, e2 _ _ (e _ _ ha), hb, k H2 e2⟩) (fun _ _ => trivial) (fun i H1 x H2 y => by rw [y.1]; exact Ex.refl _)
    fun i x H1 H2 hi e y => by
      obtain ⟨rfl, rfl⟩ := y
      exact hs i H2 e hi
/-- over enumerate of a tuple: at the turn a new pair -/
theorem el_lcE {a : Addr} {ta : TA} (ha : H a = some (.tup xs)) (hl : EvA ta σ H [.ref a]) (f : Nat → Bool) (v : Nat → V) (hz : xs.length ≤ 40000)
    (hs : ∀ (i : Nat) x T H2, Ex H H2 → xs[i]? = some x → H2 T = some (.tup [.int (i : Nat), x]) → ∃ σ2, (∀ k : L2.St → Hp → Prop, k σ2 H2 → g (.ref T) (wipe σ vs) H2 k) ∧ wipe σ2 vs = wipe σ vs ∧ EvT tt σ2 H2 (f i) ∧ (f i = true → Ev te σ2 H2 (v i))) :
    EvL (tLc (iEnumT K ta) g tt te vs) σ H (given xs.length f v) :=
  el_lcW (walk_enumT (K := K) (a := a) (xs := xs)) f v hz (fun H1 e R k => hl H1 e _ fun H2 e2 => ⟨a, xs, rfl, SqT.of (e2 _ _ (e _ _ ha)), k H2 e2⟩) (fun H1 e => SqT.of (e _ _ ha))
    (fun i H1 x H2 y => by
      obtain ⟨T, _, _, rfl, nT, rfl, _, _⟩ := y
      exact Ex.new nT)
    fun i x H1 H2 hi e y => by
      obtain ⟨T, _, x2, rfl, nT, rfl, e1, e2⟩ := y
      cases e1
      exact hs i x2 T _ (e.trans (Ex.new nT)) e2 upd_same
/-- over zip of two tuples, made on the way or not -/
theorem el_lcZ {ta : TA} (hl : ∀ H1, Ex H H1 → ∀ Q : List V → Hp → Prop, (∀ a b H2, Ex H1 H2 → H2 a = some (.tup xs) → H2 b = some (.tup ys) → Q [.ref a, .ref b] H2) → ta σ H1 Q) (f : Nat → Bool) (v : Nat → V) (hz : min xs.length ys.length ≤ 40000)
    (hs : ∀ (i : Nat) x y T H2, Ex H H2 → xs[i]? = some x → ys[i]? = some y → H2 T = some (.tup [x, y]) → ∃ σ2, (∀ k : L2.St → Hp → Prop, k σ2 H2 → g (.ref T) (wipe σ vs) H2 k) ∧ wipe σ2 vs = wipe σ vs ∧ EvT tt σ2 H2 (f i) ∧ (f i = true → Ev te σ2 H2 (v i))) :
    EvL (tLc (iZipA K ta) g tt te vs) σ H (given (min xs.length ys.length) f v) := fun H0 e Q q =>
  hl H0 e _ fun a b H1 e1 ha hb => ⟨a, b, xs, ys, rfl, .inr ⟨SqT.of ha, SqT.of hb, lcW (walk_zipT (K := K) rfl) f v hz (fun H2 e2 => ⟨SqT.of (e2 _ _ ha), SqT.of (e2 _ _ hb)⟩)
    (fun i H1 x H2 y => by
      obtain ⟨T, _, _, rfl, nT, rfl, _, _⟩ := y
      exact Ex.new nT)
    (fun i x H2 H3 hi e2 y => by
      obtain ⟨T, x1, x2, rfl, nT, rfl, h1, h2⟩ := y
      exact hs i x1 x2 T _ (((e.trans e1).trans e2).trans (Ex.new nT)) h1 h2 upd_same)
    fun p H2 np e2 hp => q p H2 (fresh_back e1 np) (e1.trans e2) hp⟩⟩
/-- over zip of two lists -/
theorem el_lcZL {ta : TA} (hl : ∀ H1, Ex H H1 → ∀ Q : List V → Hp → Prop, (∀ a b H2, Ex H1 H2 → H2 a = some (.lst xs) → H2 b = some (.lst ys) → Q [.ref a, .ref b] H2) → ta σ H1 Q) (f : Nat → Bool) (v : Nat → V) (hz : min xs.length ys.length ≤ 40000)
    (hs : ∀ (i : Nat) x y T H2, Ex H H2 → xs[i]? = some x → ys[i]? = some y → H2 T = some (.tup [x, y]) → ∃ σ2, (∀ k : L2.St → Hp → Prop, k σ2 H2 → g (.ref T) (wipe σ vs) H2 k) ∧ wipe σ2 vs = wipe σ vs ∧ EvT tt σ2 H2 (f i) ∧ (f i = true → Ev te σ2 H2 (v i))) :
    EvL (tLc (iZipA K ta) g tt te vs) σ H (given (min xs.length ys.length) f v) := fun H0 e Q q =>
  hl H0 e _ fun a b H1 e1 ha hb => ⟨a, b, xs, ys, rfl, .inl ⟨SqL.of ha, SqL.of hb, lcW (walk_zip (K := K) rfl) f v hz (fun H2 e2 => ⟨SqL.of (e2 _ _ ha), SqL.of (e2 _ _ hb)⟩)
    (fun i H1 x H2 y => by
      obtain ⟨T, _, _, rfl, nT, rfl, _, _⟩ := y
      exact Ex.new nT)
    (fun i x H2 H3 hi e2 y => by
      obtain ⟨T, x1, x2, rfl, nT, rfl, h1, h2⟩ := y
      exact hs i x1 x2 T _ (((e.trans e1).trans e2).trans (Ex.new nT)) h1 h2 upd_same)
    fun p H2 np e2 hp => q p H2 (fresh_back e1 np) (e1.trans e2) hp⟩⟩
/-- tuple(list made on the way) -/
theorem r_tupL {r : Prop} {xs : List V} {H : Hp} {Q : VK} {p : Addr} (hp : H p = some (.lst xs)) (q : ∀ l H2, H l = none → Ex H H2 → H2 l = some (.tup xs) → Q (.ref l) H2) :
    ∃ a ys, [V.ref p] = [V.ref a] ∧ ((SqL K H a ys ∧ ∀ l, H l = none → Q (.ref l) (upd H l (.tup ys))) ∨ (SqT K H a ys ∧ Q (.ref a) H)) :=
  ⟨p, xs, rfl, .inl ⟨SqL.of hp, fun l hl => q l _ hl (Ex.new hl) upd_same⟩⟩
theorem two_get {H : Hp} {T : Addr} {x y : V} {i j : Nat} {σ : L2.St} {k : L2.St → Hp → Prop} (h : H T = some (.tup [x, y])) (q : k ((σ.set i (some x)).set j (some y)) H) : gTup K 2 (gCons (gName i) (gCons (gName j) gNil)) (.ref T) σ H k :=
  ⟨T, [x, y], rfl, .inl (.inl h), rfl, _, _, rfl, _, _, rfl, rfl, q⟩
end
section
variable {K : PySem.W.Frag} {σ : L2.St} {H : Hp} {Q : VK} {te : TE} {tr : TA} {D : Ends} {trs : List (TE × TE)} {i j : Nat}
theorem r_disp (h : ∀ p, H p = none → tPairs trs σ (upd H p (.dK [])) fun ps H2 => H2 p = some (.dK []) ∧ ∃ kvs : List (Key × V), ps = kvs.map (fun kv => (kV kv.1, kv.2)) ∧ kvs.length ≤ 15 ∧ Q (.ref p) (upd H2 p (.dK (mergeK [] kvs)))) : tDisp trs σ H Q := h
theorem r_pairC {v : V} {Q : List (V × V) → Hp → Prop} (h : te σ H fun y H2 => tPairs trs σ H2 fun ps H3 => Q ((v, y) :: ps) H3) : tPairs ((tC v, te) :: trs) σ H Q := h
theorem r_revL (h : te σ H fun x H1 => ∃ a xs, x = .ref a ∧ SqL K H1 a xs ∧ ∀ p, H1 p = none → Q (.ref p) (upd H1 p (.lst xs.reverse))) : tRevL K te σ H Q := h
theorem r_tup (h : tr σ H fun xs H1 => xs.length ≤ sizeLine ∧ ∀ p, H1 p = none → Q (.ref p) (upd H1 p (.tup xs))) : tTup tr σ H Q := h
theorem r_lst (h : tr σ H fun xs H1 => xs.length ≤ sizeLine ∧ ∀ p, H1 p = none → Q (.ref p) (upd H1 p (.lst xs))) : tLst tr σ H Q := h
theorem r_nil {Q : List V → Hp → Prop} (h : Q [] H) : tNil σ H Q := h
theorem r_call {sp : Sp} {dvs : List V} {E : XK} (h : tr σ H fun vs H1 => sp (vs ++ dvs) H1 Q E) : tCall sp dvs E tr σ H Q := h
theorem r_callN {sp : Sp} {g : List V → List V → List V} {E : XK} (h : tr σ H fun zs H2 => sp (g [] zs) H2 Q E) : tCallN sp g E tr σ H Q := h
theorem r_var {v : V} (e : σ[i]? = some (some v)) (h : Q v H) : tVar i σ H Q := ⟨v, e, h⟩
theorem r_c {v : V} (h : Q v H) : tC v σ H Q := h
theorem r_drop (h : te σ H fun _ H1 => D.nx σ H1) : tDrop te D σ H := h
theorem r_slice {r : V → Option Int → Option Int → Hp → VK → Prop} {tl th : TO} (h : te σ H fun x H1 => tl σ H1 fun l H2 => th σ H2 fun u H3 => r x l u H3 Q) : tSl r te tl th σ H Q := h
/-- a list of tuples of a kind, made on the way -/
def TupR (R : List V → Prop) (H : Hp) (y : V) : Prop := ∃ c us, y = .ref c ∧ H c = some (.tup us) ∧ R us
theorem TupR.up {R : List V → Prop} {H H' : Hp} {y : V} (e : Ex H H') (h : TupR R H y) : TupR R H' y := by
  obtain ⟨c, us, rfl, hc, r⟩ := h
  exact ⟨c, us, rfl, e _ _ hc, r⟩
theorem TupR.upd {R : List V → Prop} {H : Hp} {y : V} {D : Addr} {xs ys : List V} (hD : H D = some (.lst xs)) (h : TupR R H y) : TupR R (upd H D (.lst ys)) y := by
  obtain ⟨c, us, rfl, hc, r⟩ := h
  exact ⟨c, us, rfl, by rw [upd_ne (ne_of hc hD (by intro z; cases z))]; exact hc, r⟩
theorem lcU {J : It} {n : Nat} {G : Hp → Prop} {Y : Nat → Hp → V → Hp → Prop} {g : TG} {tt : TT} {te : TE} {vs : List Nat} {R : List V → Prop} (wk : Walk J n G Y) (f : Nat → Bool) (hz : n ≤ 40000)
    (hG : ∀ H1, Ex H H1 → G H1) (hY : ∀ i H1 x H2, Y i H1 x H2 → Ex H1 H2)
    (hs : ∀ i x H1 H2, i < n → Ex H H1 → Y i H1 x H2 → ∃ σ2, (∀ k : L2.St → Hp → Prop, k σ2 H2 → g x (wipe σ vs) H2 k) ∧ wipe σ2 vs = wipe σ vs ∧ EvT tt σ2 H2 (f i) ∧
      (f i = true → ∀ H3, Ex H2 H3 → ∀ Q3 : VK, (∀ c us H4, Ex H3 H4 → H4 c = some (.tup us) → R us → Q3 (.ref c) H4) → te σ2 H3 Q3))
    (q : ∀ p H2 ys, H p = none → Ex H H2 → H2 p = some (.lst ys) → ys.length = ((List.range n).filter f).length → (∀ y ∈ ys, TupR R H2 y) → Q (.ref p) H2) : tLc (fun _ H' R => R J H') g tt te vs σ H Q := by
  intro D hD
  refine lc_it wk (fun i H2 => Ex H H2 ∧ ∃ ys, H2 D = some (.lst ys) ∧ ys.length = ((List.range i).filter f).length ∧ ys.length ≤ i ∧ ∀ y ∈ ys, TupR R H2 y)
    ⟨Ex.new hD, [], upd_same, rfl, Nat.le_refl _, fun y hy => absurd hy (by simp)⟩ (fun i H2 _ p => hG H2 p.1) (fun i x H2 H3 hi p y => ?_) (fun H2 p => ?_)
  · have e3 := hY i H2 x H3 y
    obtain ⟨σ2, hk, hw, ht, he⟩ := hs i x H2 H3 hi p.1 y
    obtain ⟨p1, ys, hy, hl, hl2, hr⟩ := p
    refine hk _ ⟨hw, ht H3 (Ex.refl H3) _ fun H4 e4 => ?_⟩
    rw [List.range_succ, List.filter_append, List.length_append]
    cases hf : f i with
    | true =>
      show te σ2 H4 _
      refine he hf H4 e4 _ fun c us H5 e5 hc hR => ⟨ys, e5 _ _ (e4 _ _ (e3 _ _ hy)), sz_lt (by omega), Ex.mut (((p1.trans e3).trans e4).trans e5) hD, ys ++ [.ref c], upd_same, ?_, ?_, ?_⟩
      · rw [List.length_append, List.filter_cons, if_pos hf, hl]
        rfl
      · rw [List.length_append]
        show ys.length + 1 ≤ i + 1
        omega
      · intro y hy2
        have hD5 := e5 _ _ (e4 _ _ (e3 _ _ hy))
        refine TupR.upd hD5 ?_
        rcases List.mem_append.mp hy2 with h | h
        · exact TupR.up ((e3.trans e4).trans e5) (hr y h)
        · cases List.mem_singleton.mp h
          exact ⟨c, us, rfl, hc, hR⟩
    | false =>
      refine ⟨(p1.trans e3).trans e4, ys, e4 _ _ (e3 _ _ hy), ?_, by omega, fun y h => TupR.up (e3.trans e4) (hr y h)⟩
      rw [List.filter_cons, if_neg (by rw [hf]; exact Bool.false_ne_true), hl]
      rfl
  · obtain ⟨p1, ys, hy, hl, _, hr⟩ := p
    exact q D H2 ys hD p1 hy hl hr
end
section
variable {K : PySem.W.Frag} {σ : L2.St} {H : Hp} {Q : VK} {te : TE} {g : TG} {tt : TT} {vs : List Nat} {xs : List V} {ta : TA} {R : List V → Prop}
theorem u_lcE {a : Addr} (ha : H a = some (.tup xs)) (hl : EvA ta σ H [.ref a]) (f : Nat → Bool) (hz : xs.length ≤ 40000)
    (hs : ∀ (i : Nat) x T H2, Ex H H2 → xs[i]? = some x → H2 T = some (.tup [.int (i : Nat), x]) → ∃ σ2, (∀ k : L2.St → Hp → Prop, k σ2 H2 → g (.ref T) (wipe σ vs) H2 k) ∧ wipe σ2 vs = wipe σ vs ∧ EvT tt σ2 H2 (f i) ∧
      (f i = true → ∀ H3, Ex H2 H3 → ∀ Q3 : VK, (∀ c us H4, Ex H3 H4 → H4 c = some (.tup us) → R us → Q3 (.ref c) H4) → te σ2 H3 Q3))
    (q : ∀ p H2 ys, H p = none → Ex H H2 → H2 p = some (.lst ys) → ys.length = ((List.range xs.length).filter f).length → (∀ y ∈ ys, TupR R H2 y) → Q (.ref p) H2) : tLc (iEnumT K ta) g tt te vs σ H Q :=
  hl H (Ex.refl H) _ fun H1 e1 => ⟨a, xs, rfl, SqT.of (e1 _ _ ha), lcU (walk_enumT (K := K) (a := a) (xs := xs)) f hz (fun H2 e2 => SqT.of (e2 _ _ (e1 _ _ ha)))
    (fun i H1 x H2 y => by
      obtain ⟨T, _, _, rfl, nT, rfl, _, _⟩ := y
      exact Ex.new nT)
    (fun i x H2 H3 hi e2 y => by
      obtain ⟨T, _, x2, rfl, nT, rfl, h1, h2⟩ := y
      cases h1
      exact hs i x2 T _ ((e1.trans e2).trans (Ex.new nT)) h2 upd_same)
    fun p H2 ys np e2 hp => q p H2 ys (fresh_back e1 np) (e1.trans e2) hp⟩
theorem u_lcR {lo hi : Int} (ha : EvA ta σ H [.int lo, .int hi]) (hb : -(2 ^ 62) ≤ lo ∧ lo < 2 ^ 62 ∧ -(2 ^ 62) ≤ hi ∧ hi < 2 ^ 62) (f : Nat → Bool) (hz : (hi - lo).toNat ≤ 40000)
    (hs : ∀ (i : Nat) H2, Ex H H2 → i < (hi - lo).toNat → ∃ σ2, (∀ k : L2.St → Hp → Prop, k σ2 H2 → g (.int (lo + i)) (wipe σ vs) H2 k) ∧ wipe σ2 vs = wipe σ vs ∧ EvT tt σ2 H2 (f i) ∧
      (f i = true → ∀ H3, Ex H2 H3 → ∀ Q3 : VK, (∀ c us H4, Ex H3 H4 → H4 c = some (.tup us) → R us → Q3 (.ref c) H4) → te σ2 H3 Q3))
    (q : ∀ p H2 ys, H p = none → Ex H H2 → H2 p = some (.lst ys) → ys.length = ((List.range (hi - lo).toNat).filter f).length → (∀ y ∈ ys, TupR R H2 y) → Q (.ref p) H2) : tLc (iRng2 ta) g tt te vs σ H Q :=
  ha H (Ex.refl H) _ fun H1 e1 => ⟨lo, hi, rfl, hb, lcU (walk_range (lo := lo) (n := (hi - lo).toNat)) f hz (fun _ _ => trivial) (fun i H1 x H2 y => by rw [y.1]; exact Ex.refl _)
    (fun i x H2 H3 hi e2 y => by
      obtain ⟨rfl, rfl⟩ := y
      exact hs i _ (e1.trans e2) hi)
    fun p H2 ys np e2 hp => q p H2 ys (fresh_back e1 np) (e1.trans e2) hp⟩
end
/-- over enumerate of a tuple made on the way -/
theorem el_lcEN {K : PySem.W.Frag} {σ : L2.St} {H : Hp} {te : TE} {g : TG} {tt : TT} {vs : List Nat} {xs : List V} {ta : TA} (hl : ∀ H1, Ex H H1 → ∀ Q : List V → Hp → Prop, (∀ a H2, Ex H1 H2 → H2 a = some (.tup xs) → Q [.ref a] H2) → ta σ H1 Q) (f : Nat → Bool) (v : Nat → V) (hz : xs.length ≤ 40000)
    (hs : ∀ (i : Nat) x T H2, Ex H H2 → xs[i]? = some x → H2 T = some (.tup [.int (i : Nat), x]) → ∃ σ2, (∀ k : L2.St → Hp → Prop, k σ2 H2 → g (.ref T) (wipe σ vs) H2 k) ∧ wipe σ2 vs = wipe σ vs ∧ EvT tt σ2 H2 (f i) ∧ (f i = true → Ev te σ2 H2 (v i))) :
    EvL (tLc (iEnumT K ta) g tt te vs) σ H (given xs.length f v) := fun H0 e Q q =>
  hl H0 e _ fun a H1 e1 ha => ⟨a, xs, rfl, SqT.of ha, lcW (walk_enumT (K := K) (a := a) (xs := xs)) f v hz (fun H2 e2 => SqT.of (e2 _ _ ha))
    (fun i H1 x H2 y => by
      obtain ⟨T, _, _, rfl, nT, rfl, _, _⟩ := y
      exact Ex.new nT)
    (fun i x H2 H3 hi e2 y => by
      obtain ⟨T, _, x2, rfl, nT, rfl, h1, h2⟩ := y
      cases h1
      exact hs i x2 T _ (((e.trans e1).trans e2).trans (Ex.new nT)) h2 upd_same)
    fun p H2 np e2 hp => q p H2 (fresh_back e1 np) (e1.trans e2) hp⟩
theorem q_bl {Q : VK} {H : Hp} {b c : Bool} (e : b = c) (h : Q (.bl c) H) : Q (.bl b) H := by
  rw [e]
  exact h
theorem q_int {Q : VK} {H : Hp} {b c : Int} (e : b = c) (h : Q (.int c) H) : Q (.int b) H := by
  rw [e]
  exact h
end Hr

/-! Data whose repr is short enough to be told. -/
namespace Hr
open PySem PySem.Spec PyProof.Rows L2 Evl
structure Fine (d : PyData) (n : Nat) : Prop where
  show1 : d.showable = true
  nod : d.hasDict = false
  leaf : d.leavesShort 1921 = true
  dep : d.depth ≤ 30
  bulk : d.bulk ≤ n
structure FineL (ds : List PyData) (n : Nat) : Prop where
  show1 : PyData.showableAll ds = true
  nod : PyData.hasDictAll ds = false
  leaf : PyData.leavesShortAll 1921 ds = true
  dep : PyData.depthAll ds ≤ 20
  bulk : PyData.bulkAll ds ≤ n
section
variable {d : PyData} {ds es : List PyData} {n m : Nat}
theorem FineL.nil : FineL [] 0 := ⟨rfl, rfl, rfl, Nat.zero_le _, Nat.le_refl 0⟩
theorem FineL.cons (h : Fine d n) (hd : d.depth ≤ 20) (t : FineL ds m) : FineL (d :: ds) (n + 1 + m) := by
  refine ⟨?_, ?_, ?_, ?_, ?_⟩
  · simp only [PyData.showableAll, h.show1, t.show1, Bool.and_self]
  · simp only [PyData.hasDictAll, h.nod, t.nod, Bool.or_self]
  · simp only [PyData.leavesShortAll, h.leaf, t.leaf, Bool.and_self]
  · simp only [PyData.depthAll]
    exact Nat.max_le.mpr ⟨hd, t.dep⟩
  · simp only [PyData.bulkAll]
    have := h.bulk
    have := t.bulk
    omega
theorem FineL.up (h : FineL ds n) (e : n ≤ m) : FineL ds m := ⟨h.show1, h.nod, h.leaf, h.dep, Nat.le_trans h.bulk e⟩
theorem Fine.up (h : Fine d n) (e : n ≤ m) : Fine d m := ⟨h.show1, h.nod, h.leaf, h.dep, Nat.le_trans h.bulk e⟩
theorem FineL.tup (h : FineL ds n) : Fine (.tuple ds) n := by
  refine ⟨?_, ?_, ?_, ?_, ?_⟩
  · simpa only [PyData.showable] using h.show1
  · simpa only [PyData.hasDict] using h.nod
  · simpa only [PyData.leavesShort] using h.leaf
  · have := h.dep
    simp only [PyData.depth]
    omega
  · simpa only [PyData.bulk] using h.bulk
theorem FineL.lst (h : FineL ds n) : Fine (.list ds) n := by
  refine ⟨?_, ?_, ?_, ?_, ?_⟩
  · simpa only [PyData.showable] using h.show1
  · simpa only [PyData.hasDict] using h.nod
  · simpa only [PyData.leavesShort] using h.leaf
  · have := h.dep
    simp only [PyData.depth]
    omega
  · simpa only [PyData.bulk] using h.bulk
theorem Fine.int {i : Int} (h : i.natAbs.log2 < 1920) : Fine (.int i) 0 := by
  refine ⟨decide_eq_true h, rfl, ?_, Nat.zero_le _, Nat.le_refl 0⟩
  simp only [PyData.leavesShort, decide_eq_true_eq]
  exact int_text_len_1921 h
theorem Fine.bool (b : Bool) : Fine (.bool b) 0 := ⟨rfl, rfl, rfl, Nat.zero_le _, Nat.le_refl 0⟩
theorem Fine.none : Fine .none 0 := ⟨rfl, rfl, rfl, Nat.zero_le _, Nat.le_refl 0⟩
theorem FineL.ints : ∀ xs : List Int, (∀ x ∈ xs, x.natAbs.log2 < 1920) → FineL (xs.map PyData.int) xs.length
  | [], _ => FineL.nil
  | x :: xs, h => by
    have ih := FineL.ints xs fun y hy => h y (List.mem_cons_of_mem _ hy)
    have z := FineL.cons (Fine.int (h x List.mem_cons_self)) (Nat.zero_le _) ih
    exact z.up (by rw [List.length_cons]; omega)
theorem Fine.len (h : Fine d n) (e : n ≤ 8000) : d.shown.length ≤ sizeLine := by
  have h1 := PyData.shown_le_bulk 1921 (by decide) d h.leaf
  have h2 := h.bulk
  have h3 : sizeLine = 16777216 := by decide
  have h4 : (1921 + 2) * d.bulk ≤ 1923 * 8000 := Nat.mul_le_mul (Nat.le_refl _) (by omega)
  omega
variable {K : PySem.W.Frag} {H : Hp} {a : Addr} {Q : VK}
/-- repr of such data -/
theorem r_repr (h : Dp K H (.ref a) d) (f : Fine d 8000) (q : Q (.str d.shown) H) : rRepr K [.ref a] H Q :=
  ⟨a, d, rfl, h, f.show1, f.nod, Nat.le_trans f.dep (by decide), f.len (Nat.le_refl _), q⟩
theorem ints_all : ∀ xs : List Int, DpAll K H (xs.map V.int) (xs.map PyData.int)
  | [] => .nil
  | x :: xs => .cons (.int x) (ints_all xs)
theorem tup_dp {xs : List Int} (h : SqT K H a (xs.map V.int)) : Dp K H (.ref a) (.tuple (xs.map PyData.int)) := .tup h (ints_all xs)
end
end Hr
namespace Hr
open PySem
theorem Fine.d40 {d : PyData} {n : Nat} (f : Fine d n) : d.depth ≤ 40 := Nat.le_trans f.dep (by decide)
end Hr

/-! Any value, dicts too, as data: what repr tells of it, and what it is equal to. -/
namespace Hr
open PySem PySem.Spec PyProof.Rows L2 Evl LamX
def kyD : Key → PyData
  | .inl i => .int i
  | .inr x => .str x
mutual
inductive Dx (H : Hp) : V → PyData → Prop
  | non : Dx H .non .none
  | bl (b : Bool) : Dx H (.bl b) (.bool b)
  | int (i : Int) : Dx H (.int i) (.int i)
  | str (x : Str) : Dx H (.str x) (.str x)
  | lst {a : Addr} {xs : List V} {ds : List PyData} : H a = some (.lst xs) → DxA H xs ds → Dx H (.ref a) (.list ds)
  | tup {a : Addr} {xs : List V} {ds : List PyData} : H a = some (.tup xs) → DxA H xs ds → Dx H (.ref a) (.tuple ds)
  | dct {a : Addr} {kvs : List (Key × V)} {es : List (PyData × PyData)} : H a = some (.dK kvs) → DxK H kvs es → Dx H (.ref a) (.dict es)
inductive DxA (H : Hp) : List V → List PyData → Prop
  | nil : DxA H [] []
  | cons {v : V} {vs : List V} {d : PyData} {ds : List PyData} : Dx H v d → DxA H vs ds → DxA H (v :: vs) (d :: ds)
inductive DxK (H : Hp) : List (Key × V) → List (PyData × PyData) → Prop
  | nil : DxK H [] []
  | cons {k : Key} {v : V} {kvs : List (Key × V)} {d : PyData} {es : List (PyData × PyData)} : Dx H v d → DxK H kvs es → DxK H ((k, v) :: kvs) ((kyD k, d) :: es)
end
section
variable {H H' : Hp}
mutual
theorem Dx.moreN (e : ExtN H H') : ∀ {v : V} {d : PyData}, Dx H v d → Dx H' v d
  | _, _, .non => .non
  | _, _, .bl b => .bl b
  | _, _, .int i => .int i
  | _, _, .str x => .str x
  | _, _, .lst h t => .lst (e _ _ h (fun _ z => by cases z)) (DxA.moreN e t)
  | _, _, .tup h t => .tup (e _ _ h (fun _ z => by cases z)) (DxA.moreN e t)
  | _, _, .dct h t => .dct (e _ _ h (fun _ z => by cases z)) (DxK.moreN e t)
theorem DxA.moreN (e : ExtN H H') : ∀ {v : List V} {d : List PyData}, DxA H v d → DxA H' v d
  | _, _, .nil => .nil
  | _, _, .cons h t => .cons (Dx.moreN e h) (DxA.moreN e t)
theorem DxK.moreN (e : ExtN H H') : ∀ {v : List (Key × V)} {d : List (PyData × PyData)}, DxK H v d → DxK H' v d
  | _, _, .nil => .nil
  | _, _, .cons h t => .cons (Dx.moreN e h) (DxK.moreN e t)
end
theorem Dx.more (e : Ex H H') {v : V} {d : PyData} (h : Dx H v d) : Dx H' v d := h.moreN (.of e)
theorem DxA.more (e : Ex H H') {v : List V} {d : List PyData} (h : DxA H v d) : DxA H' v d := h.moreN (.of e)
theorem DxA.ints : ∀ ns : List Int, DxA H (ns.map V.int) (ns.map PyData.int)
  | [] => .nil
  | n :: ns => .cons (.int n) (DxA.ints ns)
theorem DxA.len : ∀ {vs : List V} {ds : List PyData}, DxA H vs ds → vs.length = ds.length
  | _, _, .nil => rfl
  | _, _, .cons _ t => by rw [List.length_cons, List.length_cons, t.len]
theorem DxA.app : ∀ {vs ws : List V} {ds es : List PyData}, DxA H vs ds → DxA H ws es → DxA H (vs ++ ws) (ds ++ es)
  | _, _, _, _, .nil, g => g
  | _, _, _, _, .cons h t, g => .cons h (t.app g)
theorem DxA.take : ∀ {vs : List V} {ds : List PyData} (n : Nat), DxA H vs ds → DxA H (vs.take n) (ds.take n)
  | _, _, 0, _ => .nil
  | _, _, _ + 1, .nil => .nil
  | _, _, n + 1, .cons h t => .cons h (DxA.take n t)
theorem DxA.drop : ∀ {vs : List V} {ds : List PyData} (n : Nat), DxA H vs ds → DxA H (vs.drop n) (ds.drop n)
  | _, _, 0, h => h
  | _, _, _ + 1, .nil => .nil
  | _, _, n + 1, .cons _ t => DxA.drop n t
theorem DxA.at : ∀ {vs : List V} {ds : List PyData}, DxA H vs ds → ∀ {i : Nat} {v : V}, vs[i]? = some v → ∃ d, ds[i]? = some d ∧ Dx H v d
  | _, _, .nil, i, v, h => by simp at h
  | _, _, .cons (d := d) hd t, 0, v, h => by
    cases h
    exact ⟨d, rfl, hd⟩
  | _, _, .cons hd t, i + 1, v, h => DxA.at t (by simpa using h)
end
section
variable {X : Cx} {pins : List (Addr × Obj)} {σ : L2.St} {H : Hp} {s : Shared}
/-- a value at s: it is read so, and its text is told so -/
def Told (P : Program) (w : World) (h : Heap) (u : Value) (d : PyData) : Prop := ∃ as bs, Reads h u d as ∧ ReadAtMost h d.depth bs ∧ ReprK P w bs h d.depth u d.shown
def ToldA (P : Program) (w : World) (h : Heap) (us : List Value) (ds : List PyData) : Prop :=
  ∃ as bs, ReadsAll h us ds as ∧ ReadAtMost h (PyData.depthAll ds) bs ∧ ReprAllK P w bs h (PyData.depthAll ds) us (PyData.shownAll ds)
theorem told_flat {P : Program} {w : World} {h : Heap} {u : Value} {d : PyData} {as : List Addr} (r : Reads h u d as) (hs : d.showable = true) (hn : d.hasDict = false) (hz : d.shown.length ≤ sizeLine) : Told P w h u d := by
  obtain ⟨bs, h1, h2⟩ := ReprK.of_reads (prog := P) (w := w) r hs (fun z => by rw [hn] at z; cases z) hz
  exact ⟨_, bs, r, h1, h2⟩
theorem told_nil {P : Program} {w : World} {h : Heap} : ToldA P w h [] [] := ⟨[], [], .nil, (fun _ z => nomatch z), by simp only [PyData.shownAll]; exact .nil⟩
theorem told_cons {P : Program} {w : World} {h : Heap} {u : Value} {us : List Value} {d : PyData} {ds : List PyData} (a : Told P w h u d) (b : ToldA P w h us ds) : ToldA P w h (u :: us) (d :: ds) := by
  obtain ⟨as1, b1, r1, m1, k1⟩ := a
  obtain ⟨as2, b2, r2, m2, k2⟩ := b
  have e1 : d.depth ≤ PyData.depthAll (d :: ds) := by simp only [PyData.depthAll]; exact Nat.le_max_left _ _
  have e2 : PyData.depthAll ds ≤ PyData.depthAll (d :: ds) := by simp only [PyData.depthAll]; exact Nat.le_max_right _ _
  refine ⟨as1 ++ as2, b1 ++ b2, .cons r1 r2, fun b hm => ?_, ?_⟩
  · rcases List.mem_append.mp hm with z | z
    · obtain ⟨x, y, q, l⟩ := m1 b z
      exact ⟨x, y, q, Nat.le_trans l e1⟩
    · obtain ⟨x, y, q, l⟩ := m2 b z
      exact ⟨x, y, q, Nat.le_trans l e2⟩
  · have q1 : ReprK P w (b1 ++ b2) h (PyData.depthAll (d :: ds)) u d.shown := (k1.more fun b z => List.mem_append_left _ z).level_le e1
    have q2 : ReprAllK P w (b1 ++ b2) h (PyData.depthAll (d :: ds)) us (PyData.shownAll ds) := k2.more_le (fun b z => List.mem_append_right _ z) e2
    have q : PyData.shownAll (d :: ds) = d.shown :: PyData.shownAll ds := by simp only [PyData.shownAll]
    rw [q]
    exact .cons q1 q2
/-- the keys of a dict are read -/
theorem keys_read {P : Program} {w : World} {h : Heap} : ∀ {kvs : List (Key × V)} {vs : List (Key × Value)} {ents : List DictEntry} {es : List (PyData × PyData)}, DxK H kvs es → KV kvs vs → PySem.Pairs (mixKind P w) ents vs →
    ∃ as, ReadsAll h (ents.map (·.key)) (es.map (·.1)) as ∧ PyData.hasDictAll (es.map (·.1)) = false ∧ Vals (kvs.map (·.2)) (ents.map (·.val))
  | _, _, _, _, .nil, .nil, .nil => ⟨[], .nil, by simp [PyData.hasDictAll], .nil⟩
  | _, _, _, _, .cons (k := k) hd t, .cons r rs, .cons (e := ent) h1 h2 ps => by
    obtain ⟨as, q1, q2, q3⟩ := keys_read (h := h) t rs ps
    obtain ⟨e1, e2⟩ := r
    have h1' : keyIs k ent.key = true := by
      rw [show k = _ from e1]
      exact h1
    have rk : ∃ as1, Reads h ent.key (kyD k) as1 ∧ (kyD k).hasDict = false := by
      rcases keyIs_shape h1' with ⟨i, tk, e3, e4⟩ | ⟨x, tk, e3, e4⟩
      · rw [e3, e4]
        exact ⟨_, .int i tk, by simp [kyD, PyData.hasDict]⟩
      · rw [e3, e4]
        exact ⟨_, .str x tk, by simp [kyD, PyData.hasDict]⟩
    obtain ⟨as1, k1, k2⟩ := rk
    refine ⟨as1 ++ as, .cons k1 q1, ?_, .cons ?_ q3⟩
    · simp only [List.map_cons, PyData.hasDictAll, k2, q2, Bool.or_self]
    · show L2.RelV _ ent.val
      rw [h2]
      exact e2
mutual
theorem Dx.told (I : Inv X pins σ H s) : ∀ {v : V} {d : PyData} {u : Value}, Dx H v d → RelV v u → d.showable = true → d.shown.length ≤ sizeLine → Told X.prog X.w s.heap u d
  | _, _, _, .non, r, hs, hz => by
    cases r
    exact told_flat .none hs rfl hz
  | _, _, _, .bl b, r, hs, hz => by
    cases r
    exact told_flat (.bool b) hs rfl hz
  | _, _, _, .int i, r, hs, hz => by
    obtain ⟨t, rfl⟩ := r
    exact told_flat (.int i t) hs rfl hz
  | _, _, _, .str x, r, hs, hz => by
    obtain ⟨t, rfl⟩ := r
    exact told_flat (.str x t) hs rfl hz
  | _, _, _, .lst (ds := ds) h t, r, hs, hz => by
    cases r
    obtain ⟨its, rv, ⟨o, n, ho, hc, hx, hd⟩, _⟩ := I.list (SqL.of h)
    have hz' : (listText (PyData.shownAll ds)).length ≤ sizeLine := by simpa only [PyData.shown] using hz
    obtain ⟨as, bs, q1, q2, q3⟩ := DxA.told I t rv (by simpa [PyData.showable] using hs) fun x hx => Nat.le_trans (listText_mem_le hx) hz'
    have rd := Reads.list ho hc hd (by simpa using q1)
    have na := not_mem_of_deeper rd (show PyData.depthAll ds < (PyData.list ds).depth by simp only [PyData.depth]; omega) q2
    refine ⟨_, _ :: bs, rd, ReadAtMost.cons rd (Nat.le_refl _) (fun b hb => let ⟨x, y, z, l⟩ := q2 b hb; ⟨x, y, z, by simp only [PyData.depth]; omega⟩), ?_⟩
    simp only [PyData.shown]
    cases its with
    | nil =>
      have e' : ds = [] := by
        have e0 := q3.length_eq
        cases ds with
        | nil => rfl
        | cons d ds => simp [PyData.shownAll] at e0
      subst e'
      simp only [PyData.shownAll, listText_nil, PyData.depth]
      exact ReprK.listEmpty ho hc hd
    | cons x l =>
      simp only [PyData.depth]
      exact ReprK.list ho hc hd na (by simpa using q3.length_eq) fun i y e => q3.item i y (by simpa using e)
  | _, _, _, .tup (ds := ds) h t, r, hs, hz => by
    cases r
    obtain ⟨its, rv, ⟨o, ho, hc, n, hd⟩, _⟩ := I.tuple (SqT.of h)
    have hz' : (tupleText (PyData.shownAll ds)).length ≤ sizeLine := by simpa only [PyData.shown] using hz
    obtain ⟨as, bs, q1, q2, q3⟩ := DxA.told I t rv (by simpa [PyData.showable] using hs) fun x hx => Nat.le_trans (tupleText_mem_le hx) hz'
    have rd := Reads.tuple ho hc hd (by simpa using q1)
    have na := not_mem_of_deeper rd (show PyData.depthAll ds < (PyData.tuple ds).depth by simp only [PyData.depth]; omega) q2
    refine ⟨_, _ :: bs, rd, ReadAtMost.cons rd (Nat.le_refl _) (fun b hb => let ⟨x, y, z, l⟩ := q2 b hb; ⟨x, y, z, by simp only [PyData.depth]; omega⟩), ?_⟩
    simp only [PyData.shown, PyData.depth]
    exact ReprK.tuple ho hc hd na (by simpa using q3)
  | _, _, _, .dct (es := kds) h t, r, hs, hz => by
    cases r
    obtain ⟨_, sm, vs, kv, o, es, ep, ho, hx, hd, _, ps, _⟩ := dk_of I.hok h
    have hz' : (dictText (PyData.shownKv kds)).length ≤ sizeLine := by simpa only [PyData.shown] using hz
    obtain ⟨s1, s2⟩ := PyData.showableKv_split kds (by simpa [PyData.showable] using hs)
    obtain ⟨a1, k1, k2, k3⟩ := keys_read (h := s.heap) t kv ps
    obtain ⟨b1, m1, r1⟩ := ReprAllK.of_readsAll (prog := X.prog) (w := X.w) k1 s1 (fun z => by rw [k2] at z; cases z) fun x hx => by
      obtain ⟨p, hp, hl⟩ := PyData.shownKv_key_le kds x hx
      exact Nat.le_trans hl (Nat.le_trans (dictText_mem_le hp) hz')
    obtain ⟨a2, b2, q1, m2, r2⟩ := DxK.told I t k3 s2 fun x hx => by
      obtain ⟨p, hp, hl⟩ := PyData.shownKv_val_le kds x hx
      exact Nat.le_trans hl (Nat.le_trans (dictText_mem_le hp) hz')
    have rd := Reads.dict ho hx.1 hd k1 q1
    have mm : ReadAtMost s.heap (PyData.depthKv kds) (b1 ++ b2) := (m1.mono (PyData.depthAll_keys_le kds)).append (m2.mono (PyData.depthAll_vals_le kds))
    have na := not_mem_of_deeper rd (show PyData.depthKv kds < (PyData.dict kds).depth by simp only [PyData.depth]; omega) mm
    refine ⟨_, _ :: (b1 ++ b2), rd, ReadAtMost.cons rd (Nat.le_refl _) (fun b hb => let ⟨x, y, z, l⟩ := mm b hb; ⟨x, y, z, by simp only [PyData.depth]; omega⟩), ?_⟩
    simp only [PyData.shown, PyData.depth, PyData.shownKv_eq]
    refine ReprK.dict ho hx.1 hd sm na (ReprEntriesK.of_two es.toList _ _ (r1.more_le (fun b z => List.mem_append_left _ z) ?_) (r2.more_le (fun b z => List.mem_append_right _ z) ?_))
    · exact PyData.depthAll_keys_le kds
    · exact PyData.depthAll_vals_le kds
theorem DxA.told (I : Inv X pins σ H s) : ∀ {vs : List V} {ds : List PyData} {us : List Value}, DxA H vs ds → Vals vs us → PyData.showableAll ds = true → (∀ t ∈ PyData.shownAll ds, t.length ≤ sizeLine) → ToldA X.prog X.w s.heap us ds
  | _, _, _, .nil, r, _, _ => by
    cases r
    exact told_nil
  | _, _, _, .cons h t, r, hs, hz => by
    cases r with
    | cons r rs =>
      simp only [PyData.showableAll, Bool.and_eq_true] at hs
      simp only [PyData.shownAll] at hz
      exact told_cons (Dx.told I h r hs.1 (hz _ List.mem_cons_self)) (DxA.told I t rs hs.2 fun x hx => hz x (List.mem_cons_of_mem _ hx))
theorem DxK.told (I : Inv X pins σ H s) : ∀ {kvs : List (Key × V)} {es : List (PyData × PyData)} {us : List Value}, DxK H kvs es → Vals (kvs.map (·.2)) us → PyData.showableAll (es.map (·.2)) = true → (∀ t ∈ PyData.shownAll (es.map (·.2)), t.length ≤ sizeLine) →
    ToldA X.prog X.w s.heap us (es.map (·.2))
  | _, _, _, .nil, r, _, _ => by
    cases r
    exact told_nil
  | _, _, _, .cons h t, r, hs, hz => by
    cases r with
    | cons r rs =>
      simp only [List.map_cons, PyData.showableAll, Bool.and_eq_true] at hs
      simp only [List.map_cons, PyData.shownAll] at hz
      exact told_cons (Dx.told I h r hs.1 (hz _ List.mem_cons_self)) (DxK.told I t rs hs.2 fun x hx => hz x (List.mem_cons_of_mem _ hx))
end
/-- repr of a tuple of any values -/
def rReprX : List V → Hp → VK → Prop := fun vs H Q => ∃ (a : Addr) (xs : List V) (ds : List PyData), vs = [.ref a] ∧ H a = some (.tup xs) ∧ DxA H xs ds ∧ PyData.showableAll ds = true ∧ (PyData.tuple ds).depth ≤ 40 ∧ (PyData.tuple ds).shown.length ≤ sizeLine ∧ Q (.str (PyData.tuple ds).shown) H
theorem cr_reprX (gg : X.A.guards = some []) (hu : X.A.units + 64 < cLine) : CallR X (.builtin "repr") rReprX := by
  intro pins s σ H vs us Q I r h
  obtain ⟨a, xs, ds, rfl, ha, hd, hs, hdep, hz, q⟩ := h
  obtain ⟨u, rfl, r1⟩ := vals1 r
  cases r1
  obtain ⟨its, rv, ⟨o, ho, hc, n, hdt⟩, _⟩ := I.tuple (SqT.of ha)
  have hz' : (tupleText (PyData.shownAll ds)).length ≤ sizeLine := by simpa only [PyData.shown] using hz
  obtain ⟨as, bs, q1, q2, q3⟩ := DxA.told I hd rv hs fun x hx => Nat.le_trans (tupleText_mem_le hx) hz'
  have rd := Reads.tuple ho hc hdt (by simpa using q1)
  have na := not_mem_of_deeper rd (show PyData.depthAll ds < (PyData.tuple ds).depth by simp only [PyData.depth]; omega) q2
  have hdep' : PyData.depthAll ds + 1 ≤ 40 := by simpa only [PyData.depth] using hdep
  have e : (PyData.tuple ds).shown = tupleText (PyData.shownAll ds) := by simp only [PyData.shown]
  rw [e] at q
  refine call_repr_slot (T := "tuple") (by omega) ⟨o, ho, hc⟩ F.slot_tuple_repr ?_
  exact call_tuple_reprK (h₀ := s.heap) ho hc hdt na (by simpa using q3) (A := X.A.in1) gg (fun b _ => Clear.nil b) (by show X.A.units + 1 + (PyData.depthAll ds + 1) < cLine; omega) (fun _ _ z => z)
    (fun h' t tk hk => ⟨_, _, rfl, .str _, H, I.kept (t' := tk) hk, ⟨t, rfl⟩, q⟩) hz'
theorem listOf {h : Heap} {a : Addr} {its : Array Value} (p : PlainL h a its) : h.IsList a its := let ⟨o, n, h1, h2, _, h3⟩ := p; ⟨o, h1, h2, n, h3⟩
/-- a list is empty: xs == [] -/
def rEqE : R2 := fun x y H Q => ∃ (a b : Addr) (xs : List V), x = .ref a ∧ y = .ref b ∧ H a = some (.lst xs) ∧ H b = some (.lst []) ∧ Q (.bl xs.isEmpty) H
theorem op_eqE (hu : X.A.units + 64 < cLine) : OpR X (compareOp .Eq) rEqE := by
  intro pins s σ H x y v u Q I rx ry h
  obtain ⟨a, b, xs, rfl, rfl, ha, hb, q⟩ := h
  cases xs with
  | nil => exact op_eqD hu pins s σ H _ _ v u Q I rx ry ⟨.list [], .list [], .lst (SqL.of ha) .nil, .lst (SqL.of hb) .nil, by decide +kernel, by decide +kernel, by simpa [PyData.eqv, PyData.eqvAll] using q⟩
  | cons x xs =>
    cases rx
    cases ry
    obtain ⟨its, rv, hl, _⟩ := I.list (SqL.of ha)
    obtain ⟨its2, rv2, hl2, _⟩ := I.list (SqL.of hb)
    cases rv2
    have e := rv.length
    refine SeqAt.RcAt.lists_lengths (listOf hl) (listOf hl2) ?_ (by omega) _ _ _ _ ⟨.bl false, H, I, rfl, q⟩
    cases its with
    | nil => simp at e
    | cons i is => simp
theorem dct_declines (l : Addr) (es : Array DictEntry) (ep : Nat) (dd : Option Addr) (sl : Array (Option Value)) (b : Int) (u : Tok) :
    Meets (Builtin.«dict.__eq__» ⟨[.ref l, .int b u], []⟩) (fun _ R s => s.heap.get? l = some { cls := .type "dict", dict := dd, data := .dict es ep, slots := sl } ∧ R (.ok (.ret .notImplemented)) s) :=
  .of_wp fun prog w A R s h => by
    obtain ⟨hp, g, d, tk, os⟩ := s
    obtain ⟨hl, h⟩ := h
    have f1 := F.sub_int_dict
    wp_walk using wpAny_loadPart' hl
    exact ⟨_, rfl, h⟩
theorem int_declines (b : Int) (u : Tok) (l : Addr) (c : Value) (es : Array DictEntry) (ep : Nat) (dd : Option Addr) (sl : Array (Option Value)) :
    Meets (Builtin.«int.__eq__» ⟨[.int b u, .ref l], []⟩) (fun _ R s => s.heap.get? l = some { cls := c, dict := dd, data := .dict es ep, slots := sl } ∧ R (.ok (.ret .notImplemented)) s) :=
  .of_wp fun prog w A R s h => by
    obtain ⟨hp, g, d, tk, os⟩ := s
    obtain ⟨hl, h⟩ := h
    wp_walk using wpAny_loadPart' hl, wpAny_load hl
    exact ⟨_, rfl, h⟩
theorem dct_int {A : Around} {l : Addr} {o : Obj} {es : Array DictEntry} {ep : Nat} (b : Int) (u : Tok) (ho : s.heap.get? l = some o) (hc : o.cls = .type "dict") (hd : o.data = .dict es ep) (hu : A.units < cLine) : SeqAt.RcAt A s (.ref l) (.int b u) false := fun prog w E Q h => by
  obtain ⟨cls, dd, data, sl⟩ := o
  simp only at hc hd
  subst hc hd
  exact SeqAt.rc_eq_decline_or (k := false) ⟨_, ho, rfl⟩ (typeIs_int s b u) (by decide) F.sub_int_dict F.slot_dict_eq F.slot_int_eq_refl
    (fun _ hq => call_meets F.slot_dict_eq ⟨_, ho, rfl⟩ F.entry_dict_eq (F.args_dict_eq_2 _ _) (dct_declines l es ep dd sl b u) ⟨ho, hq⟩)
    (fun _ hq => call_meets F.slot_int_eq_refl (typeIs_int s b u) F.entry_int_eq (F.args_int_eq_2 _ _) (int_declines b u l (.type "dict") es ep dd sl) ⟨ho, hq⟩)
    (fun _ hq => wpAny_of_eq (rfl : isSame (.ref l) (.int b u) = pure false) hq) (.inr hu) h
/-- a value is a told int -/
def isI (i : Int) : PyData → Bool
  | .int j => j == i
  | _ => false
def nob : PyData → Bool
  | .bool _ => false
  | _ => true
def rEqI : R2 := fun x y H Q => ∃ d i, Dx H x d ∧ y = .int i ∧ nob d = true ∧ Q (.bl (isI i d)) H
theorem op_eqI (hu : X.A.units + 64 < cLine) : OpR X (compareOp .Eq) rEqI := by
  intro pins s σ H x y v u Q I rx ry h
  obtain ⟨d, i, hd, rfl, nb, q⟩ := h
  cases hd with
  | non => exact op_eq pins s σ H _ _ v u Q I rx ry ⟨rfl, q⟩
  | bl b => cases nb
  | int j =>
    refine op_eq pins s σ H _ _ v u Q I rx ry ⟨rfl, ?_⟩
    rw [dec_int]
    exact q
  | str x => exact op_eq pins s σ H _ _ v u Q I rx ry ⟨rfl, q⟩
  | lst ha t =>
    cases rx
    obtain ⟨tk, rfl⟩ := ry
    obtain ⟨its, rv, hl, _⟩ := I.list (SqL.of ha)
    exact SeqAt.RcAt.list_int i tk (listOf hl) (by omega) _ _ _ _ ⟨.bl false, H, I, rfl, q⟩
  | tup ha t =>
    cases rx
    obtain ⟨tk, rfl⟩ := ry
    obtain ⟨its, rv, hl, _⟩ := I.tuple (SqT.of ha)
    exact SeqAt.RcAt.tuple_int i tk hl (by omega) _ _ _ _ ⟨.bl false, H, I, rfl, q⟩
  | dct ha t =>
    cases rx
    obtain ⟨tk, rfl⟩ := ry
    obtain ⟨_, sm, vs, kv, o, es, ep, ho, hx, hd, _, ps, _⟩ := dk_of I.hok ha
    exact dct_int i tk ho hx.1 hd (by omega) _ _ _ _ ⟨.bl false, H, I, rfl, q⟩
end
end Hr
namespace Hr
open PySem PySem.Spec PyProof.Rows L2 Evl LamX
def intD : PyData → Bool
  | .int _ => true
  | _ => false
def blD : PyData → Bool
  | .bool _ => true
  | _ => false
def tupD : PyData → Bool
  | .tuple _ => true
  | _ => false
def fromD (l : Int) : PyData → Bool
  | .int n => decide (l ≤ n)
  | _ => false
def itemsD : PyData → List PyData
  | .tuple ds => ds
  | _ => []
def fromsD (l : Int) : PyData → Bool
  | .tuple ds => ds.all (fromD l)
  | _ => false
def intsD : PyData → Bool
  | .tuple ds => ds.all intD
  | _ => false
def valD : PyData → Int
  | .int n => n
  | _ => 0
def valsD (d : PyData) : List Int := (itemsD d).map valD
theorem Dx.kit {K : PySem.W.Frag} {H : Hp} {v : V} {d : PyData} (h : Dx H v d) : ∃ nm : String, TyX K H v (.type nm) ∧ kitB nm "int" = some (intD d || blD d) ∧ kitB nm "bool" = some (blD d) ∧ kitB nm "tuple" = some (tupD d) := by
  cases h with
  | non => exact ⟨"NoneType", .base .non, by decide +kernel, by decide +kernel, by decide +kernel⟩
  | bl b => exact ⟨"bool", .base (.bl b), by show kitB _ _ = some true; decide +kernel, by show kitB _ _ = some true; decide +kernel, by show kitB _ _ = some false; decide +kernel⟩
  | int i => exact ⟨"int", .base (.int i), by show kitB _ _ = some true; decide +kernel, by show kitB _ _ = some false; decide +kernel, by show kitB _ _ = some false; decide +kernel⟩
  | str x => exact ⟨"str", .base (.str x), by show kitB _ _ = some false; decide +kernel, by show kitB _ _ = some false; decide +kernel, by show kitB _ _ = some false; decide +kernel⟩
  | lst h t => exact ⟨"list", .base (.lst h), by show kitB _ _ = some false; decide +kernel, by show kitB _ _ = some false; decide +kernel, by show kitB _ _ = some false; decide +kernel⟩
  | tup h t => exact ⟨"tuple", .base (.tup h), by show kitB _ _ = some false; decide +kernel, by show kitB _ _ = some false; decide +kernel, by show kitB _ _ = some true; decide +kernel⟩
  | dct h t => exact ⟨"dict", .base (.dK h), by show kitB _ _ = some false; decide +kernel, by show kitB _ _ = some false; decide +kernel, by show kitB _ _ = some false; decide +kernel⟩
theorem intsD_vals {d : PyData} (h : intsD d = true) : d = .tuple ((valsD d).map .int) := by
  cases d with
  | tuple ds =>
    have key : ∀ ds : List PyData, ds.all intD = true → ds = (ds.map valD).map .int := by
      intro ds
      induction ds with
      | nil => exact fun _ => rfl
      | cons d ds ih =>
        intro h
        rw [List.all_cons, Bool.and_eq_true] at h
        cases d with
        | int n => exact congrArg (PyData.int n :: ·) (ih h.2)
        | _ => exact absurd h.1 Bool.false_ne_true
    exact congrArg PyData.tuple (key ds h)
  | _ => exact absurd h Bool.false_ne_true
theorem froms_ints {l : Int} {d : PyData} (h : fromsD l d = true) : intsD d = true := by
  cases d with
  | tuple ds =>
    refine List.all_eq_true.mpr fun x hx => ?_
    have := List.all_eq_true.mp h x hx
    cases x with
    | int n => rfl
    | _ => exact absurd this Bool.false_ne_true
  | _ => exact absurd h Bool.false_ne_true
theorem DxA.ofInts {H : Hp} : ∀ {ns : List Int} {xs : List V}, DxA H xs (ns.map PyData.int) → xs = ns.map V.int
  | [], _, .nil => rfl
  | n :: ns, _, .cons h t => by
    cases h
    rw [DxA.ofInts t]
    rfl
theorem given_empty (n : Nat) (f : Nat → Bool) (v : Nat → V) : (given n f v).isEmpty = (List.range n).all fun i => !f i := by
  rw [Bool.eq_iff_iff, List.isEmpty_iff, List.all_eq_true]
  unfold given
  constructor
  · intro h i hi
    cases hf : f i with
    | false => rfl
    | true =>
      have : v i ∈ ((List.range n).filter f).map v := List.mem_map.mpr ⟨i, List.mem_filter.mpr ⟨hi, hf⟩, rfl⟩
      rw [h] at this
      simp at this
  · intro h
    have : (List.range n).filter f = [] := List.filter_eq_nil_iff.mpr fun i hi => by simpa using h i hi
    rw [this]
    rfl
end Hr

/-! told: what a call without arguments hands out, or the caught error, its thing and what it is. -/
namespace Hr
open PySem PySem.Spec PyProof.Rows L2 LamX HrE_thing
/-- what is known of an own class that clauses and isinstance name -/
structure OwnC (K : PySem.W.Frag) (C : Addr) : Prop where
  cls : PySem.W.isClsIn K C = true
  ty : PySem.W.typeIn K (.ref C) = some (.type "type")
  ex : PySem.W.subIn K (.ref C) (.type "BaseException") = some true
  hd : PySem.W.hasDictIn K C = true
  me : PySem.W.subIn K (.ref C) (.ref C) = some true
/-- .. and of one whose instances are asked -/
structure OwnX (K : PySem.W.Frag) (C : Addr) : Prop extends OwnC K C where
  ga : PySem.W.findIn K (.ref C) "__getattribute__" = some (some (.builtin "BaseException.__getattribute__"))
  gg : PySem.W.findIn K (.ref C) "__getattr__" = some none
  kc : PySem.W.findIn K (.ref C) "__class__" = some (some (.builtin "object.__class__"))
  mo : PySem.W.mroIn K C (.type "object") = some true
  sg : PySem.W.specialIn K (.builtin "object.__class__") "__get__" = some (some (.builtin "getset_descriptor.__get__"))
  tk : PySem.W.takesIn K (.builtin "object.__class__") = some true
section
variable {K : PySem.W.Frag} {C D : Addr} {b : Bool}
theorem OwnC.kit (o : OwnC K C) (e : PySem.W.subIn K (.ref D) (.ref C) = some b) : PySem.W.kitOne K (.ref D) (.ref C) = some b := by
  unfold PySem.W.kitOne
  by_cases z : D = C
  · subst z
    rw [o.me] at e
    cases e
    rw [if_pos (by simp)]
  · rw [if_neg (by simpa using z)]
    have c1 : (PySem.W.clsIn K C).isSome = true := o.cls
    unfold PySem.W.kitCls
    dsimp only
    rw [c1, o.ty, if_pos (by rfl), e]
theorem OwnC.exm (o : OwnC K C) (e : PySem.W.subIn K (.ref D) (.ref C) = some b) : PySem.W.exmOne K (.ref D) (.ref C) = some b := PySem.W.exm_ref o.ex o.hd o.ty e
end
/-- an exception that a body hands out finds as many slots as the def has names -/
theorem takes_len {X : Cx} {W : WX} (tk : Takes X W) : Takes X fun cls d σ H => σ.length = X.N.length → W cls d σ H := fun u s ⟨a, B, s0, pins, σ, H, cls, d, e, J, nb, up, sky, na, os, ag, w⟩ =>
  tk u s ⟨a, B, s0, pins, σ, H, cls, d, e, J, nb, up, sky, na, os, ag, w J.len⟩
/-- isinstance(e, c), e the caught error at a, its fields told -/
def rIsX (K : PySem.W.Frag) (D a : Addr) (cls : Value) (d : Option Addr) : List V → Hp → VK → Prop := fun xs H Q =>
  ∃ (c : V) (cv : Value) (b : Bool) (dd : Addr) (fs : List (Str × V)), cls = .ref D ∧ xs = [.ref a, c] ∧ (∀ u, RelV c u → u = cv) ∧ PySem.W.kitOne K (.ref D) cv = some b ∧ d = some dd ∧ H dd = some (.xd fs) ∧ Q (.bl b) H
theorem call_isX {X : Cx} {a D : Addr} {ob : Obj} {cls : Value} {d : Option Addr} {pn : List (Addr × Obj)} (o : OwnX X.K D) (hz : Zc cls d ob) (hf : ∃ fv, ob.data = .fields fv) : CallR (X.suite a ((a, ob) :: pn)) (.builtin "isinstance") (rIsX X.K D a cls d) := by
  intro pins s σ H xs us Q I r h
  obtain ⟨c, cv, b, dd, fs, rfl, rfl, hcv, e, rfl, hx, q⟩ := h
  cases r with
  | cons rx rr =>
    cases rr with
    | cons rt rr =>
      cases rr
      cases rx
      have ec := hcv _ rt
      subst ec
      obtain ⟨at_, _⟩ := I.pin (a, ob) (List.mem_append.mpr (.inl List.mem_cons_self))
      obtain ⟨fv, hv⟩ := hf
      obtain ⟨mA, hns, _⟩ := (show ObjOk X.prog X.w H s.heap dd (.xd fs) from I.hok dd _ hx)
      obtain ⟨od, ho, _⟩ := lookIn_ns hns
      have J : PySem.W.InstAt s.heap a ob D (some od) := ⟨at_, hz.1, by unfold PySem.W.notCls; rw [hv] <;> rfl, by rw [hz.2]; exact ho⟩
      exact PySem.W.kia_one (PySem.W.kitx_exc o.cls o.ga o.gg o.ex o.kc o.sg o.tk o.mo) I.kIn J e nofun fun tk => ⟨.bl b, H, I.kept (t' := tk) fun _ _ z => z, rfl, q⟩
end Hr

/-! The deck of drawn numbers: a dict with a list, and what else is known of the heap. -/
namespace Hr
open PySem PySem.Spec PyProof.Rows L2 Evl
def kC : Key := .inr "left"
def kM : Key := .inr "mixed"
def kD : Key := .inr "draws"
def deckD (c : Addr) (m n : Int) : List (Key × V) := [(kC, .ref c), (kM, .int m), (kD, .int n)]
theorem kCM : ¬ kC = kM := by decide +kernel
theorem kCD : ¬ kC = kD := by decide +kernel
theorem kMD : ¬ kM = kD := by decide +kernel
section
variable {c : Addr} {m n n' : Int}
theorem deck_cells : valV (deckD c m n) kC = some (.ref c) := valV_pos rfl
theorem deck_mixed : valV (deckD c m n) kM = some (.int m) := (valV_neg kCM).trans (valV_pos rfl)
theorem deck_draws : valV (deckD c m n) kD = some (.int n) := (valV_neg kCD).trans ((valV_neg kMD).trans (valV_pos rfl))
theorem deck_put : putK (deckD c m n) kD (.int n') = deckD c m n' := by
  unfold putK deckD
  rw [if_pos (by simp)]
  simp [kCD, kMD]
theorem deck_made : mergeK [] [(kC, .ref c), (kM, .int m), (kD, .int n)] = deckD c m n := by
  have h1 : ¬ kM = kC := fun e => kCM e.symm
  have h2 : ¬ kD = kC := fun e => kCD e.symm
  have h3 : ¬ kD = kM := fun e => kMD e.symm
  unfold mergeK
  simp [putK, deckD, kCM, kCD, kMD, h1, h2, h3]
end
structure DkC (G : Hp) (d c : Addr) (cells : List Int) (m n : Int) (H : Hp) : Prop where
  ex : Ex G H
  gd : G d = none
  gc : G c = none
  hd : H d = some (.dK (deckD c m n))
  hc : H c = some (.lst (cells.map V.int))
  len : cells.length ≤ 63
  m0 : 0 ≤ m
  m1 : m < 2147483648
/-- a deck at d; beside it all of G stands -/
def Dk (G : Hp) (d : Addr) (H : Hp) : Prop := ∃ c cells m n, DkC G d c cells m n H
section
variable {G G' H H' : Hp} {d c p : Addr} {cells : List Int} {m n n' : Int} {o : HO}
theorem DkC.ne (k : DkC G d c cells m n H) : d ≠ c := ne_of k.hd k.hc (by intro z; cases z)
theorem DkC.more (k : DkC G d c cells m n H) (e : Ex H H') : DkC G d c cells m n H' := ⟨k.ex.trans e, k.gd, k.gc, e _ _ k.hd, e _ _ k.hc, k.len, k.m0, k.m1⟩
theorem DkC.new (k : DkC G d c cells m n H) (h : H p = none) : DkC G d c cells m n (upd H p o) := k.more (Ex.new h)
theorem DkC.draw (k : DkC G d c cells m n H) : DkC G d c cells m n' (upd H d (.dK (deckD c m n'))) :=
  ⟨Ex.mut k.ex k.gd, k.gd, k.gc, upd_same, by rw [upd_ne k.ne.symm]; exact k.hc, k.len, k.m0, k.m1⟩
theorem DkC.cell {xs : List Int} (k : DkC G d c cells m n H) (h : xs.length ≤ 63) : DkC G d c xs m n (upd H c (.lst (xs.map V.int))) :=
  ⟨Ex.mut k.ex k.gc, k.gd, k.gc, by rw [upd_ne k.ne]; exact k.hd, upd_same, h, k.m0, k.m1⟩
theorem DkC.grow (k : DkC G d c cells m n H) (h : H p = none) (e : Ex H H') (hp : H' p = some o) : DkC (upd G p o) d c cells m n H' := by
  have hd : d ≠ p := ne_of_none k.hd h
  have hc : c ≠ p := ne_of_none k.hc h
  refine ⟨fun b u z => ?_, by rw [upd_ne hd]; exact k.gd, by rw [upd_ne hc]; exact k.gc, e _ _ k.hd, e _ _ k.hc, k.len, k.m0, k.m1⟩
  by_cases hb : b = p
  · subst hb
    rw [upd_same] at z
    cases z
    exact hp
  · rw [upd_ne hb] at z
    exact e _ _ (k.ex _ _ z)
theorem Dk.ex (k : Dk G d H) : Ex G H := k.elim fun _ ⟨_, _, _, z⟩ => z.ex
theorem Dk.more (k : Dk G d H) (e : Ex H H') : Dk G d H' := let ⟨c, x, m, n, z⟩ := k; ⟨c, x, m, n, z.more e⟩
theorem Dk.new (k : Dk G d H) (h : H p = none) : Dk G d (upd H p o) := k.more (Ex.new h)
theorem Dk.grow (k : Dk G d H) (h : H p = none) (e : Ex H H') (hp : H' p = some o) : Dk (upd G p o) d H' := let ⟨c, x, m, n, z⟩ := k; ⟨c, x, m, n, z.grow h e hp⟩
theorem Dk.free (k : Dk G d H) (h : H p = none) : G p = none := fresh_back k.ex h
theorem Dk.gex (k : Dk G d H) (h : H p = none) : Ex G (upd G p o) := Ex.new (k.free h)
theorem Dk.get (k : Dk G d H) {b : Addr} {u : HO} (h : G b = some u) : H b = some u := k.ex _ _ h
theorem DkC.gcells (k : DkC G d c cells m n H) : DGet H d (.str "left") (some (.ref c)) := by
  have z := DGet.k (k := kC) k.hd
  rw [deck_cells] at z
  exact z
theorem DkC.gmixed (k : DkC G d c cells m n H) : DGet H d (.str "mixed") (some (.int m)) := by
  have z := DGet.k (k := kM) k.hd
  rw [deck_mixed] at z
  exact z
theorem DkC.gdraws (k : DkC G d c cells m n H) : DGet H d (.str "draws") (some (.int n)) := by
  have z := DGet.k (k := kD) k.hd
  rw [deck_draws] at z
  exact z
theorem DkC.pdraws (k : DkC G d c cells m n H) : DPut H d (.str "draws") (.int n') (upd H d (.dK (deckD c m n'))) := by
  have z := DPut.k (k := kD) (v := .int n') k.hd (by show 3 < sizeLine; decide)
  rw [deck_put] at z
  exact z
end
/-! a list of ints as data -/
def izD (xs : List Int) : PyData := .list (xs.map PyData.int)
section
variable {K : PySem.W.Frag} {H : Hp} {a : Addr}
theorem ints_dp : ∀ xs : List Int, DpAll K H (xs.map V.int) (xs.map PyData.int)
  | [] => .nil
  | x :: xs => .cons (.int x) (ints_dp xs)
theorem izD_dp {xs : List Int} (h : SqL K H a (xs.map V.int)) : Dp K H (.ref a) (izD xs) := .lst h (ints_dp xs)
theorem ints_lay : ∀ xs : List Int, PyData.canLayAll0 (xs.map PyData.int) = true
  | [] => by simp [PyData.canLayAll0]
  | x :: xs => by
    have ih := ints_lay xs
    simp only [List.map_cons, PyData.canLayAll0, PyData.canLay0, Bool.true_and]
    exact ih
theorem ints_depth : ∀ xs : List Int, PyData.depthAll (xs.map PyData.int) ≤ 1
  | [] => by simp [PyData.depthAll]
  | x :: xs => by
    have ih := ints_depth xs
    simp only [List.map_cons, PyData.depthAll, PyData.depth]
    exact Nat.max_le.mpr ⟨by decide, ih⟩
theorem izD_shaped (xs : List Int) : SeqAt.shaped (izD xs) = true := by
  unfold SeqAt.shaped izD
  have h1 := ints_lay xs
  have h2 := ints_depth xs
  simp only [PyData.canLay0, PyData.depth, Bool.and_eq_true, decide_eq_true_eq]
  exact ⟨h1, decide_eq_true (by omega)⟩
theorem izD_eqv_nil (xs : List Int) : PyData.eqv (izD xs) (izD []) = xs.isEmpty := by
  cases xs with
  | nil => simp [izD, PyData.eqv, PyData.eqvAll]
  | cons x xs => simp [izD, PyData.eqv, PyData.eqvAll]
end
end Hr
namespace Hr
open PySem PySem.Spec PyProof.Rows L2 Evl
section
variable {G G' H H' : Hp} {d c f : Addr} {cells : List Int} {m n : Int} {o o' : HO}
/-- a known object of one's own is changed -/
theorem Dk.set (k : Dk G d H) (h : G f = some o) : Dk (upd G f o') d (upd H f o') := by
  obtain ⟨c, x, m, n, z⟩ := k
  have fd : d ≠ f := fun e => by subst e; rw [z.gd] at h; cases h
  have fc : c ≠ f := fun e => by subst e; rw [z.gc] at h; cases h
  refine ⟨c, x, m, n, ?_, by rw [upd_ne fd]; exact z.gd, by rw [upd_ne fc]; exact z.gc, by rw [upd_ne fd]; exact z.hd, by rw [upd_ne fc]; exact z.hc, z.len, z.m0, z.m1⟩
  intro b u e
  by_cases hb : b = f
  · subst hb
    rw [upd_same] at e ⊢
    exact e
  · rw [upd_ne hb] at e ⊢
    exact z.ex _ _ e
theorem Dk.made (k : Dk G d H) (h : H f = none) : Dk (upd G f o) d (upd H f o) := k.grow h (Ex.new h) upd_same
end
end Hr

/-! Tables of code objects beside a deck. -/
namespace Hr
open PySem PySem.Spec PyProof.Rows L2 Evl LamX
/-! ### a deck beside tables -/
/-- no table is told -/
def NT (G : Hp) : Prop := ∀ b o, G b = some o → ∀ ps, o ≠ .tbl ps
def nt (G : Hp) : Hp := fun b => match G b with
  | some (.tbl _) => none
  | o => o
theorem nt_NT (G : Hp) : NT (nt G) := fun b o h ps z => by
  subst z
  unfold nt at h
  split at h
  · cases h
  · rename_i k
    exact k ps h
theorem nt_ex (G : Hp) : Ex (nt G) G := fun b o h => by
  unfold nt at h
  split at h
  · cases h
  · exact h
theorem nt_at {G : Hp} {b : Addr} {o : HO} (h : G b = some o) (n : ∀ ps, o ≠ .tbl ps) : nt G b = some o := by
  unfold nt
  rw [h]
  cases o with
  | tbl ps => exact absurd rfl (n ps)
  | _ => rfl
theorem nt_none {G : Hp} {b : Addr} (h : G b = none) : nt G b = none := by
  unfold nt
  rw [h]
section
variable {G Gj H H' : Hp} {d : Addr} {T : List (Addr × Str)}
theorem Dk.moreN (k : Dk G d H) (n : NT G) (e : ExtN H H') : Dk G d H' := by
  obtain ⟨c, x, m, i, z⟩ := k
  exact ⟨c, x, m, i, fun b o h => e _ _ (z.ex _ _ h) (n b o h), z.gd, z.gc, e _ _ z.hd (fun _ y => by cases y), e _ _ z.hc (fun _ y => by cases y), z.len, z.m0, z.m1⟩
theorem Dk.nt (k : Dk G d H) : Dk (nt G) d H := by
  obtain ⟨c, x, m, i, z⟩ := k
  exact ⟨c, x, m, i, (nt_ex G).trans z.ex, nt_none z.gd, nt_none z.gc, z.hd, z.hc, z.len, z.m0, z.m1⟩
theorem Dk.full (k : Dk G d H) (hT : Tabs T H) : ∃ Gf, Ex G Gf ∧ Dk Gf d H ∧ Tabs T Gf := by
  obtain ⟨c, x, m, i, z⟩ := k
  have other : ∀ b o, H b = some o → o ≠ .dK (deckD c m i) → o ≠ .lst (x.map V.int) → (fun b => if b = d ∨ b = c then none else H b : Hp) b = some o := fun b o h n1 n2 => by
    refine (if_neg ?_).trans h
    rintro (rfl | rfl)
    · rw [z.hd] at h
      exact n1 (Option.some.inj h).symm
    · rw [z.hc] at h
      exact n2 (Option.some.inj h).symm
  refine ⟨fun b => if b = d ∨ b = c then none else H b, fun b o h => ?_, ⟨c, x, m, i, fun b o h => ?_, if_pos (.inl rfl), if_pos (.inr rfl), z.hd, z.hc, z.len, z.m0, z.m1⟩, fun p hp => ?_⟩
  · refine (if_neg ?_).trans (z.ex _ _ h)
    rintro (rfl | rfl)
    · rw [z.gd] at h
      cases h
    · rw [z.gc] at h
      cases h
  · by_cases hb : b = d ∨ b = c
    · exact absurd ((if_pos hb).symm.trans h) (by simp)
    · exact (if_neg hb).symm.trans h
  · obtain ⟨ps, h1, h2, h3⟩ := hT p hp
    refine ⟨ps, other _ _ h1 (fun y => by cases y) (fun y => by cases y), h2, fun pos cv hc => ?_⟩
    obtain ⟨c', e1, e2⟩ := h3 pos cv hc
    exact ⟨c', e1, other _ _ e2 (fun y => by unfold CodeO at y; cases y) (fun y => by unfold CodeO at y; cases y)⟩
theorem Tabs.nil (h : ∀ p ∈ T, H p.1 = some (.tbl #[])) : Tabs T H := fun p hp => TabS.nil (h p hp)
end
end Hr

/-! A lambda of one parameter, handed to a def as its third argument and called there by that name. -/
namespace Hr
open PySem PySem.Spec PyProof.Rows L2 LamX
section
variable {P : Program} {w : World} {K : PySem.W.Frag} {mg : Str → Option Value} {base : Heap} {k : Nat} {f : Addr} {fd : FuncData} {ps : List Str} {sp : Sp}
/-- a def by its body, its code object told -/
theorem okC {x qual : Str} {st : Stmt} {N : List Str} (F : Fun K x qual st f fd) (S : FnScope N ps (defScope st)) (len : ∀ vs H Q E, sp vs H Q E → vs.length = ps.length)
    (hb : ∀ (cdv : Value) (A : Around) (outer : List Env) (s : Shared) (H : Hp) (vs : List V) (Q : VK) (E : XK), fd.code = cdv → Room k (A.deeper (envOfC qual (defScope st) s.heap.objs.size f cdv)) → sp vs H Q E →
      ∃ t, PSs (cxOf CX0 P w K mg base N qual (defScope st) f cdv A outer s H E).nox (defBody st) t ∧ t { nx := fun _ H' => Q .non H', rt := Q } (start N vs) H) :
    FnOk P w K mg base CX0 (k + 1) f fd ps sp := by
  obtain ⟨oc, od, kV, doc, pm, an, cdv, ct, osl, rfl, lk, hcd⟩ := F.ex
  refine fn_of lk hcd S len fun A outer s H vs Q E hr hsp => ?_
  obtain ⟨t, h, q⟩ := hb cdv A outer s H vs Q E rfl hr hsp
  exact ⟨t, h.nox, q⟩
end
/-- the names of a lambda with the parameter b -/
structure LamS1 (sc scope : Scope) (b : Str) : Prop where
  kind : scope.kind = .function
  co : scope.isCoroutine = false
  gen : scope.isGenerator = false
  nocell : ∀ y ∈ scope.names, y.2 ≠ .cell
  own : ∀ y ∈ scope.names, y.2 = .local → y.1 = b
  par : scope.names.lookup b = some .local
  free : ∀ y ∈ scope.names, y.2 = .free → sc.names.lookup y.1 = some .cell ∨ sc.names.lookup y.1 = some .free
def lam1B (sc scope : Scope) (b : Str) : Bool :=
  decide (scope.kind = .function) && (!scope.isCoroutine && (!scope.isGenerator && (decide (scope.names.lookup b = some .local) &&
    scope.names.all fun y => !decide (y.2 = .cell) && ((!decide (y.2 = .local) || decide (y.1 = b)) && (!decide (y.2 = .free) || (decide (sc.names.lookup y.1 = some .cell) || decide (sc.names.lookup y.1 = some .free)))))))
theorem lam1_by {sc scope : Scope} {b : Str} (h : lam1B sc scope b = true) : LamS1 sc scope b := by
  unfold lam1B at h
  simp only [Bool.and_eq_true, Bool.or_eq_true, Bool.not_eq_true', decide_eq_true_eq, decide_eq_false_iff_not, List.all_eq_true] at h
  obtain ⟨h1, h2, h3, h4, h5⟩ := h
  refine ⟨h1, h2, h3, fun y hy => (h5 y hy).1, fun y hy e => ?_, h4, fun y hy e => ?_⟩
  · rcases (h5 y hy).2.1 with z | z
    · exact absurd e z
    · exact z
  · rcases (h5 y hy).2.2 with z | z | z
    · exact absurd e z
    · exact .inl z
    · exact .inr z
theorem LamS1.has {X : Cx} {scope : Scope} {b : Str} (L : LamS1 X.env.scope scope b) (ok : X.Ok) : ∀ y ∈ scope.names, y.2 = .free → ∃ c, X.env.cells.lookup y.1 = some c :=
  fun y hy e => (L.free y hy e).elim (fun k => ok.has _ (.inl k)) fun k => ok.has _ (.inr k)
/-- where its body runs: the parameter ahead of the maker's names -/
def lamCx1 (X : Cx) (A : Around) (outer : List Env) (s : Shared) (H : Hp) (E : XK) (scope : Scope) (f c' : Addr) (b : Str) : Cx := { lamCx X A outer s H E scope f c' with N := b :: X.N }
section
variable {X : Cx} {pins : List (Addr × Obj)} {σ : L2.St} {H HZ : Hp} {s s1 : Shared}
theorem lam1_start {A : Around} {outer : List Env} {E : XK} {scope : Scope} {f c' : Addr} {h₁ : Heap} {tk : Nat} {b : Str} {v : V} {u : Value} (I : Inv X pins σ H s) (L : LamS1 X.env.scope scope b) (hb : b ∉ X.N) (e0 : Env0 X.prog X.w X.K X.mg X.base A outer s1 HZ) (hd : A.handled = none)
    (un : Un (frs X.stack) [] H HZ s.heap s1.heap) (rv : L2.RelV v u) (hns : h₁.Ns s1.heap.objs.size fun y => ([(b, u)] : List (Str × Value)).reverse.lookup y) (kp : ∀ b o, s1.heap.get? b = some o → h₁.get? b = some o) :
    Inv (lamCx1 X A outer s1 HZ E scope f c' b) [] (some v :: σ) HZ { s1 with heap := h₁, toks := tk } := by
  have hfree := L.has I.ok
  have hcl : ∀ {y c}, (cloFrom X.env.cells scope.names []).lookup y = some c → X.env.cells.lookup y = some c := fun {y c} e => by
    rcases cloFrom_mem (PySem.mem_of_lookup e) with z | ⟨z1, z2⟩
    · cases z
    · obtain ⟨c1, hc1⟩ := hfree _ z1 rfl
      have hc2 : X.env.cells.lookup y = some c1 := hc1
      have hc3 : c = c1 := by
        rw [z2, hc2] <;> rfl
      rw [hc3]
      exact hc2
  have hlk : ∀ {y}, scope.names.lookup y = some .free → ∃ c, (cloFrom X.env.cells scope.names []).lookup y = some c := fun {y} hl =>
    mem_lookup (cloFrom_has (cells := X.env.cells) (acc := []) (PySem.mem_of_lookup hl))
  have hcell : ∀ {c : Addr} {z : Option Value}, H c = none → s.heap.IsCell c z → h₁.IsCell c z := fun {c z} n ⟨o, ho, hz⟩ => by
    obtain ⟨sl, q⟩ := un.any ho n (by simp)
    exact ⟨_, kp _ _ q, hz⟩
  have hno : ∀ d : Addr, d ∉ (lamCx1 X A outer s1 HZ E scope f c' b).ex := fun d z => absurd (show d ∈ ([] : List Addr) from z) (by simp)
  refine ⟨⟨e0.mod, L.kind, rfl, rfl, Nat.le_refl _, fun y z c e1 e2 => I.ok.inj y z c (hcl e1) (hcl e2), fun y hy => ?_, fun y c z _ => ?_, fun _ => hd, Around.frames_deeper e0.frames, .inr ⟨rfl, rfl⟩, fun d z => absurd z (hno d), e0.bs, e0.bsz, fun d _ _ => hno d,
      fun d z => absurd z (hno d), e0.funs, e0.frf⟩,
    rfl, e0.bare, Un.kept kp, ⟨_, hns, fun i y z e1 e2 e3 => ?_⟩, fun y c e => ?_, e0.hok.fresh (Nat.le_refl _), fun y c e => ?_, fun q hq => absurd (show q ∈ ([] : List (Addr × Obj)) ++ [] from hq) (by simp), e0.hok.kept kp, congrArg (· + 1) I.len⟩
  · have hy : scope.names.lookup y = some .cell ∨ scope.names.lookup y = some .free := hy
    rcases hy with hy | hy
    · exact absurd rfl (L.nocell _ (PySem.mem_of_lookup hy))
    · exact hlk hy
  · have z : false = true := z
    cases z
  · have e1 : (b :: X.N)[i]? = some y := e1
    have e2 : (some v :: σ)[i]? = some (some z) := e2
    have e3 : Vis scope y := e3
    cases i with
    | zero =>
      have hy : b = y := Option.some.inj e1
      have hz : v = z := Option.some.inj (Option.some.inj e2)
      subst hy
      subst hz
      refine ⟨u, rv, .inl ⟨L.par, ?_⟩⟩
      show (List.lookup b [(b, u)]) = some u
      simp [List.lookup]
    | succ i =>
      have e1 : X.N[i]? = some y := by simpa using e1
      have e2 : σ[i]? = some (some z) := by simpa using e2
      have hne : y ≠ b := fun q => hb (by rw [← q]; exact List.mem_of_getElem? e1)
      rcases e3 with k | k | k
      · exact absurd (L.own _ (PySem.mem_of_lookup k) rfl) hne
      · exact absurd rfl (L.nocell _ (PySem.mem_of_lookup k))
      · obtain ⟨m, hn, hl⟩ := I.loc
        obtain ⟨w', r, q⟩ := hl i y z e1 e2 ((L.free _ (PySem.mem_of_lookup k) rfl).elim (fun k => .inr (.inl k)) fun k => .inr (.inr k))
        obtain ⟨c2, h2⟩ := hlk k
        refine ⟨w', r, .inr ⟨.inr k, c2, h2, ?_⟩⟩
        have c1 := hcl h2
        rcases q with ⟨k', _⟩ | ⟨_, c3, e', hz⟩
        · have k' : X.env.scope.names.lookup y = some .local := k'
          rcases L.free _ (PySem.mem_of_lookup k) rfl with k2 | k2 <;> rw [show X.env.scope.names.lookup y = _ from k2] at k' <;> cases k'
        · rw [c1] at e'
          cases e'
          exact hcell (I.freeC y _ c1) hz
  · obtain ⟨w', z⟩ := I.cell y c (hcl e)
    exact ⟨w', hcell (I.freeC y c (hcl e)) z⟩
  · obtain ⟨z, o, ho, _⟩ := I.cell y c (hcl e)
    exact un.free c o ho (I.freeC y c (hcl e)) (by simp)
/-- count(e), in the def that got the lambda -/
theorem pe_act1 {CXg : CXT} {Eg : XK} {Ng : List Str} {qg : Str} {sg : Scope} {g f c' : Addr} {cdg pm ctv : Value} {params : Arguments} {body : Expr} {scope : Scope} {k i : Nat} {a b : Str} {ta : TA} {tb : TE} {p1 p2 : Pos} {e : Expr}
    (I : Inv X pins σ H s) (L : LamS1 X.env.scope scope b) (hb : b ∉ X.N) (hf : s.heap.get? f = some (PySem.W.kla_obj "<lambda>" (X.env.qual ++ "<lambda>") params body scope (cloFrom X.env.cells scope.names []) pm c' ctv)) (hfn : H f = none) (hfr : f ∉ frs X.stack)
    (hbind : ∀ u : Value, bindArgs (PySem.W.kla_fn "<lambda>" (X.env.qual ++ "<lambda>") params body scope (cloFrom X.env.cells scope.names []) pm (.ref c') ctv) ⟨[u], []⟩ = pure [(b, u)])
    (hr : Room (k + 1) (X.A.deeper (envOfC qg sg s.heap.objs.size g cdg)))
    (hbody : ∀ (A : Around) (outer : List Env) (s : Shared) (H : Hp) (E : XK), Room k (A.deeper (lamEnv X scope s.heap.objs.size f c')) → PE (lamCx1 X A outer s H E scope f c' b) body tb)
    (hN : Ng[i]? = some a) (hv : Vis sg a) (ha : PA (cxOf CXg X.prog X.w X.K X.mg X.base Ng qg sg g cdg X.A X.stack s H Eg).nox [e] ta) (hd : (a == ("__debug__" : Str)) = false := by decide) (hcd : (a == ("__classdict__" : Str)) = false := by decide)
    (he : ∀ env, starEach [e] env = (false, eval e env) :: starEach [] env := by intro _; rfl) :
    PE (cxOf CXg X.prog X.w X.K X.mg X.base Ng qg sg g cdg X.A X.stack s H Eg).nox (.Call (.Name a p1) [e] [] p2)
      (fun σZ HZ Q => σZ[i]? = some (some (.ref f)) ∧ ta σZ HZ fun vs H1 => ∃ v, vs = [v] ∧ H1 c' = some (CodeO c' (X.env.qual ++ "<lambda>")) ∧ tb (some v :: σ) H1 Q) := by
  refine ⟨fun pinsZ sZ σZ HZ Q IZ h => ?_⟩
  obtain ⟨hs, ht⟩ := h
  refine wpAny_Call_Name_kw (thn ((pe_var (pos := p1) (i := i) hN hv hd hcd).run pinsZ sZ σZ HZ (fun v H1 => v = .ref f ∧ H1 = HZ) IZ ⟨.ref f, hs, rfl, rfl⟩) fun u s1 ⟨v, H1, I1, r1, q1⟩ => ?_)
  obtain ⟨ev, eH⟩ := q1
  subst ev
  rw [eH] at I1
  obtain rfl : u = Value.ref f := r1
  have at_ : ∀ {sY : Shared} {σY : L2.St} {HY : Hp}, Inv (cxOf CXg X.prog X.w X.K X.mg X.base Ng qg sg g cdg X.A X.stack s H Eg).nox pinsZ σY HY sY → sY.heap.get? f = some (PySem.W.kla_obj "<lambda>" (X.env.qual ++ "<lambda>") params body scope (cloFrom X.env.cells scope.names []) pm c' ctv) :=
    fun J => J.base.keep f _ hf hfn hfr (fun z => nomatch (show f ∈ ([] : List Addr) from z))
  refine PySem.W.callWith_F (first := []) ⟨_, _, _, _, at_ I1⟩ (thn (ha.run p2 pinsZ s1 σZ HZ _ I1 ht) fun us s2 ⟨vs, H2, I2, r, v, hvs, hc, q⟩ => ⟨⟨_, _, _, _, at_ I2⟩, ?_⟩) (he _) rfl
  subst hvs
  obtain ⟨u, rfl, rv⟩ := vals1 r
  have un : Un (frs X.stack) [] H H2 s.heap s2.heap := I2.base
  obtain ⟨⟨oc, ws, t, hoc, hdc, hvc⟩, _, _⟩ := I2.hok c' _ hc
  have rc : codeAny (model X.prog X.w) (X.A.deeper (envOfC qg sg s.heap.objs.size g cdg)) (.call (.ref f) ⟨[u], []⟩) (CR (L2.CX X.prog X.w) (envOfC qg sg s.heap.objs.size g cdg :: X.stack) X.prog X.w H2 s2 Q (fun _ _ _ => False)) s2 := by
    refine PySem.W.kla_callFunE hr.depth (at_ I2) rfl L.co L.gen rfl ⟨c', oc, ws, t, rfl, hoc, hdc, hvc⟩ ?_
    rw [hbind u]
    refine wpAny_pure (wpAny_newFunctionEnv L.nocell (fun y hy => ?_) (fun h₁ hns hsb => ⟨I2.nolimit.fresh _ hsb, ?_⟩) L.kind)
    · rw [List.mem_singleton.mp hy]
      exact L.par
    show codeAny _ _ (.expr body (lamEnv X scope s2.heap.objs.size f c')) _ _
    have kp : ∀ b o, s2.heap.get? b = some o → h₁.get? b = some o := fun b o e => hsb.extBut b o (Nat.ne_of_lt (Heap.lt_size e)) (Heap.get?_push_of_some _ e)
    have J : Inv (lamCx1 X (X.A.deeper (envOfC qg sg s.heap.objs.size g cdg)) (envOfC qg sg s.heap.objs.size g cdg :: X.stack) s2 H2 (fun _ _ _ => False) scope f c' b) [] (some v :: σ) H2 { s2 with heap := h₁, toks := s2.toks + ([(b, u)] : List (Str × Value)).length } :=
      lam1_start I L hb I2.env0 hr.hd un rv hns kp
    refine PySem.W.kla_codeExpr (wpAny_mono ((hbody _ _ s2 H2 _ (hr.deeper _)).run [] _ _ H2 Q J q) (fun v s' hq => ?_) fun e s' hq => hq)
    obtain ⟨w', H', J', rv, q⟩ := hq
    exact ⟨w', H', J'.os, J'.bare, J'.base, J'.hok, rv, q⟩
  have hx : Passes (L2.CX X.prog X.w) (cxOf CXg X.prog X.w X.K X.mg X.base Ng qg sg g cdg X.A X.stack s H Eg).nox (fun _ _ _ => False) := passes_call LamX.takes0 (fun _ _ _ _ z => z)
  show wpAny _ _ (call (.ref f) [u]) _ _ _
  refine wpAny_call (codeAny_mono rc fun r s' hq => ?_)
  cases r with
  | error e => exact hx pinsZ σZ H2 s2 e s' I2 hq
  | ok fl =>
    cases fl with
    | ret u => exact I2.after hq
    | next => exact False.elim hq
    | brk => exact False.elim hq
    | cont => exact False.elim hq
end
/-- the def that calls what it got third: a calls it; TT: what it makes of the lambda's reading -/
def Gives1 (X : Cx) (Ng : List Str) (x : Str) (sg : Scope) (g : Addr) (cdg : Value) (bg : List Stmt) (a : Str) (q : Str) (TT : V → V → (V → Hp → VK → Prop) → Hp → VK → Prop) : Prop :=
  ∀ (f c' : Addr) (s : Shared) (H : Hp) (Q : VK) (v1 v2 : V) (tl : V → Hp → VK → Prop),
    (∀ (e : Expr) (ta : TA) (p1 p2 : Pos), PA (cxOf C8.CX0 X.prog X.w X.K X.mg X.base Ng x sg g cdg X.A X.stack s H C8.E0).nox [e] ta → (∀ env, starEach [e] env = (false, eval e env) :: starEach [] env) →
      PE (cxOf C8.CX0 X.prog X.w X.K X.mg X.base Ng x sg g cdg X.A X.stack s H C8.E0).nox (.Call (.Name a p1) [e] [] p2) (fun σZ HZ Q => σZ[2]? = some (some (.ref f)) ∧ ta σZ HZ fun vs H1 => ∃ v, vs = [v] ∧ H1 c' = some (CodeO c' q) ∧ tl v H1 Q)) →
    Room 1 (X.A.deeper (envOfC x sg s.heap.objs.size g cdg)) → H c' = some (CodeO c' q) → TT v1 v2 tl H Q →
    ∃ t, PSs (cxOf C8.CX0 X.prog X.w X.K X.mg X.base Ng x sg g cdg X.A X.stack s H C8.E0).nox bg t ∧ t { nx := fun _ H' => Q .non H', rt := Q } (L2.start Ng [v1, v2, .ref f]) H
def tLam1 (T : List (Addr × Str)) (TT : V → V → (V → Hp → VK → Prop) → Hp → VK → Prop) (t1 t2 tb : TE) : TE := fun σ H Q => t1 σ H fun v1 H1 => t2 σ H1 fun v2 H2 => Tabs T H2 ∧ ∀ H3, ExtN H2 H3 → Tabs T H3 → TT v1 v2 (fun v H' Q' => tb (some v :: σ) H' Q') H3 Q
section
variable {X : Cx}
/-- x(e1, e2, lambda b: body) -/
theorem pe_lamcall1 {T : List (Addr × Str)} {TT : V → V → (V → Hp → VK → Prop) → Hp → VK → Prop} {x a b n1 n2 : Str} {g c P : Addr} {k : Nat} {pg : Arguments} {bg : List Stmt} {sg : Scope} {dV kV doc pm cdv ct oc : Value} {an od : Option Addr} {osl : Array (Option Value)} {Ng : List Str}
    {params : Arguments} {body e1 e2 : Expr} {scope : Scope} {t1 t2 tb : TE} {p lpos pos : Pos} (hg : Gl X x) (hm : X.mg x = some (.ref g)) (hk : PySem.W.keepIn X.K (.ref g) = true)
    (lk : X.K.lookup g = some ⟨oc, od, .func (PySem.W.fnOf x x pg bg sg dV kV doc pm an cdv ct), osl⟩) (hcg : PySem.W.codeIn X.K cdv x = true) (hbg : L2.Binds X.K (PySem.W.fnOf x x pg bg sg dV kV doc pm an cdv ct) [n1, n2, a] []) (Sg : FnScope Ng [n1, n2, a] sg) (hNg : Ng[2]? = some a) (hva : Vis sg a)
    (hG : Gives1 X Ng x sg g cdv bg a (X.env.qual ++ "<lambda>") TT) (h1 : PE X e1 t1) (h2 : PE X e2 t2) (TB : TabB X.base X.mg c P) (hcode : X.env.code = .ref c) (hmT : (P, X.env.qual ++ "<lambda>") ∈ T) (hu : ∀ p ∈ T, p.1 = P → p.2 = X.env.qual ++ "<lambda>") (hr : Room (k + 2) X.A)
    (L : LamS1 X.env.scope scope b) (hb : b ∉ X.N) (hdef : defaultsOf params X.env = ([], []))
    (hbind : ∀ (q : Str) (cl : List (Str × Addr)) (pm cv ctv u : Value), bindArgs (PySem.W.kla_fn "<lambda>" q params body scope cl pm cv ctv) ⟨[u], []⟩ = pure [(b, u)])
    (hbody : ∀ (A : Around) (outer : List Env) (s : Shared) (H : Hp) (E : XK) (f c' : Addr), Room k (A.deeper (lamEnv X scope s.heap.objs.size f c')) → PE (lamCx1 X A outer s H E scope f c' b) body tb)
    (he : starEach [e1, e2, .Lambda params body scope lpos] X.env = (false, eval e1 X.env) :: starEach [e2, .Lambda params body scope lpos] X.env := by rfl)
    (he2 : starEach [e2, .Lambda params body scope lpos] X.env = (false, eval e2 X.env) :: starEach [.Lambda params body scope lpos] X.env := by rfl)
    (hpl : (backTo pos (starEach [e2, .Lambda params body scope lpos] X.env)).any (·.1) = false := by rfl)
    (hdb : (x == ("__debug__" : Str)) = false := by decide) (hd : (a == ("__debug__" : Str)) = false := by decide) (hcd : (a == ("__classdict__" : Str)) = false := by decide) :
    PE X (.Call (.Name x p) [e1, e2, .Lambda params body scope lpos] [] pos) (tLam1 T TT t1 t2 tb) := by
  refine ⟨fun pins s σ H Q I h => ?_⟩
  refine wpAny_Call_Name_kw (ld_glob I hg hm ?_ hdb)
  refine PySem.W.callWith_K (h₀ := X.base) I.ok.mod.kin hk ?_ he hpl
  rw [he]
  show wpAny _ _ (spliced ((false, eval e1 X.env) :: backTo pos (starEach [e2, .Lambda params body scope lpos] X.env))) _ _ s
  refine Calls.spliced_cons (thn (h1.run pins s σ H _ I h) fun u1 s1 ⟨v1, H1, I1, r1, q1⟩ => ?_)
  rw [he2]
  show wpAny _ _ (spliced ((false, eval e2 X.env) :: backTo pos (starEach [.Lambda params body scope lpos] X.env))) _ _ s1
  refine Calls.spliced_cons (thn (h2.run pins s1 σ H1 _ I1 q1) fun u2 s2 ⟨v2, H2, I2, r2, q2⟩ => ?_)
  obtain ⟨hT, q2⟩ := q2
  show wpAny _ _ (spliced ((false, eval (.Lambda params body scope lpos) X.env) :: backTo pos (starEach [] X.env))) _ _ s2
  refine Calls.spliced_cons (lam_make2 I2 TB hcode hmT hu hT hdef (L.has I2.ok) fun f c' pm' ctv H3 s' I3 eN T3 hf hfn hfr hco => ?_)
  refine Calls.spliced_nil ⟨I3.kIn, ?_⟩
  have rc : codeAny (model X.prog X.w) X.A (.call (.ref g) ⟨[u1, u2, .ref f], []⟩) (CR C8.CX0 X.stack X.prog X.w H3 s' Q C8.E0) s' := by
    refine run_ofS (N := Ng) (ps := [n1, n2, a]) (us := [u1, u2, .ref f]) (vs := [v1, v2, .ref f]) lk hcg Sg hr I3.env0 (hbg s' [u1, u2, .ref f] I3.kIn rfl) (.cons r1 (.cons r2 (.cons rfl .nil))) rfl fun hr' => ?_
    obtain ⟨t', ht', hq'⟩ := hG f c' s' H3 Q v1 v2 (fun v H' Q' => tb (some v :: σ) H' Q') (fun e ta p1 p2 ha hes => pe_act1 (i := 2) I3 L hb hf hfn hfr (hbind _ _ _ _ _) hr' (fun A outer s H E hr2 => hbody A outer s H E f c' hr2) hNg hva ha hd hcd hes) (hr'.mono (by omega)) hco (q2 H3 eN T3)
    exact ⟨t', ht'.nox, hq'⟩
  refine wpAny_call (codeAny_mono rc fun r s2 hq => ?_)
  cases r with
  | error e => exact (show False from hq).elim
  | ok fl =>
    cases fl with
    | ret u => exact I3.after hq
    | next => exact False.elim hq
    | brk => exact False.elim hq
    | cont => exact False.elim hq
end
end Hr

/-! What calls keep that may add to tables of code objects; decks beside such tables. -/
namespace Hr
open PySem PySem.Spec PyProof.Rows L2 Evl LamX
/-- all but the tables stays, and what is told of the tables T -/
structure Ek (T : List (Addr × Str)) (H H' : Hp) : Prop where
  x : ExtN H H'
  t : Tabs T H → Tabs T H'
section
variable {T : List (Addr × Str)} {G G' H H' H1 H2 : Hp} {d p o : Addr} {u : HO}
theorem Ek.get (e : Ek T H H') {b : Addr} {o : HO} (h : H b = some o) (n : ∀ ps, o ≠ .tbl ps := by intro _ z; cases z) : H' b = some o := e.x b o h n
theorem Ek.of (e : Ex H H') : Ek T H H' := ⟨ExtN.of e, fun t => t.ext e⟩
instance : Coe (Ex H H') (Ek T H H') := ⟨Ek.of⟩
theorem Ek.refl (H : Hp) : Ek T H H := .of (Ex.refl H)
theorem Ek.trans (a : Ek T H H1) (b : Ek T H1 H2) : Ek T H H2 := ⟨a.x.trans b.x, fun t => b.t (a.t t)⟩
theorem Ek.ex (a : Ek T H H1) (b : Ex H1 H2) : Ek T H H2 := a.trans (.of b)
theorem Ek.new {o : HO} (h : H p = none) : Ek T H (upd H p o) := .of (Ex.new h)
/-- a thing of ours is written -/
theorem Ek.mut (e : Ek T H H') (no : H o = none) (ho : H' o = some v) (nt : ∀ ps, v ≠ .tbl ps) (nc : ∀ q, v ≠ CodeO o q) : Ek T H (upd H' o u) := by
  refine ⟨fun b w h n => ?_, fun t => ?_⟩
  · rw [upd_ne (ne_of_none h no)]
    exact e.x b w h n
  · intro q hq
    obtain ⟨ps, h1, h2, h3⟩ := e.t t q hq
    refine ⟨ps, ?_, h2, fun pos cv hc => ?_⟩
    · rw [upd_ne (fun z => nt ps (Option.some.inj (ho.symm.trans (by rw [← z]; exact h1))))]
      exact h1
    · obtain ⟨c, e1, e2⟩ := h3 pos cv hc
      refine ⟨c, e1, ?_⟩
      by_cases z : c = o
      · rw [z] at e2
        exact absurd (Option.some.inj (ho.symm.trans e2)) (nc _)
      · rw [upd_ne z]
        exact e2
theorem Ek.mutL {xs : List V} (e : Ek T H H') (no : H o = none) (ho : H' o = some (.lst xs)) : Ek T H (upd H' o u) := e.mut no ho (fun _ z => by cases z) (fun _ z => by unfold CodeO at z; cases z)
/-- a def that hands back v -/
def RetVk (T : List (Addr × Str)) (v : V) (H : Hp) (Q : VK) : Prop := ∀ H2, Ek T H H2 → Q v H2
/-- .. a tuple -/
def RetTk (T : List (Addr × Str)) (xs : List V) (H : Hp) (Q : VK) : Prop := ∀ p H2, Ek T H H2 → H2 p = some (.tup xs) → Q (.ref p) H2
/-- a deck, what is known beside it, the tables -/
structure DkT (T : List (Addr × Str)) (G : Hp) (d : Addr) (H : Hp) : Prop where
  k : Dk G d H
  n : NT G
  t : Tabs T H
theorem DkT.moreK (k : DkT T G d H) (e : Ek T H H') : DkT T G d H' := ⟨k.k.moreN k.n e.x, k.n, e.t k.t⟩
theorem DkT.more (k : DkT T G d H) (e : Ex H H') : DkT T G d H' := k.moreK (.of e)
theorem DkT.new {o : HO} (k : DkT T G d H) (h : H p = none) : DkT T G d (upd H p o) := k.moreK (.new h)
theorem DkT.get (k : DkT T G d H) {b : Addr} {u : HO} (h : G b = some u) : H b = some u := k.k.get h
theorem DkT.free (k : DkT T G d H) (h : H p = none) : G p = none := k.k.free h
theorem DkT.gex {o : HO} (k : DkT T G d H) (h : H p = none) : Ex G (upd G p o) := k.k.gex h
theorem NT.upd (n : NT G) (nt : ∀ ps, u ≠ .tbl ps) : NT (upd G p u) := fun b o h => by
  by_cases z : b = p
  · rw [z, upd_same] at h
    cases h
    exact nt
  · rw [upd_ne z] at h
    exact n b o h
theorem DkT.made {o : HO} (k : DkT T G d H) (h : H p = none) (nt : ∀ ps, o ≠ .tbl ps := by intro _ z; cases z) : DkT T (upd G p o) d (upd H p o) := ⟨k.k.made h, k.n.upd nt, k.t.ext (Ex.new h)⟩
theorem DkT.growK (k : DkT T G d H) (h : H p = none) (e : Ek T H H') (hp : H' p = some u) (nt : ∀ ps, u ≠ .tbl ps := by intro _ z; cases z) : DkT T (upd G p u) d H' := by
  obtain ⟨c, x, m, i, z⟩ := (k.k.moreN k.n e.x)
  obtain ⟨c0, x0, m0, i0, z0⟩ := k.k
  have hd0 : H d ≠ none := fun y => by rw [z0.hd] at y; cases y
  have hpd : p ≠ d := fun y => hd0 (by rw [← y]; exact h)
  refine ⟨⟨c0, x0, m0, i0, fun b o hb => ?_, ?_, ?_, e.x _ _ z0.hd (fun _ y => by cases y), e.x _ _ z0.hc (fun _ y => by cases y), z0.len, z0.m0, z0.m1⟩, k.n.upd nt, e.t k.t⟩
  · by_cases y : b = p
    · rw [y, upd_same] at hb
      cases hb
      rw [y]
      exact hp
    · rw [upd_ne y] at hb
      exact e.x _ _ (z0.ex _ _ hb) (k.n b o hb)
  · rw [upd_ne (Ne.symm hpd)]
    exact z0.gd
  · have hpc : p ≠ c0 := fun y => by
      have := z0.hc
      rw [← y, h] at this
      cases this
    rw [upd_ne (Ne.symm hpc)]
    exact z0.gc
theorem DkT.grow (k : DkT T G d H) (h : H p = none) (e : Ex H H') (hp : H' p = some u) (nt : ∀ ps, u ≠ .tbl ps := by intro _ z; cases z) : DkT T (upd G p u) d H' := k.growK h (.of e) hp nt
/-- what a promise about decks needs, and what it gives back -/
theorem DkT.full (k : DkT T G d H) : ∃ Gf, Dk Gf d H ∧ (∀ {G' H'}, Ex Gf G' → Dk G' d H' → DkT T (nt G') d H' ∧ Ex G (nt G')) ∧ (∀ {H'}, Dk Gf d H' → DkT T G d H') ∧ ∀ b o, G b = some o → Gf b = some o := by
  obtain ⟨Gf, e, kf, tf⟩ := k.k.full k.t
  have tabs : ∀ {G' H'}, Ex Gf G' → Dk G' d H' → Tabs T H' := fun a b => (tf.ext a).ext b.ex
  refine ⟨Gf, kf, fun a b => ⟨⟨b.nt, nt_NT _, tabs a b⟩, fun x o h => nt_at (a _ _ (e _ _ h)) (k.n x o h)⟩, fun b => ⟨?_, k.n, tabs (Ex.refl _) b⟩, e⟩
  obtain ⟨c, x, m, i, z⟩ := b
  obtain ⟨c0, x0, m0, i0, z0⟩ := k.k
  refine ⟨c, x, m, i, e.trans z.ex, z0.gd, ?_, z.hd, z.hc, z.len, z.m0, z.m1⟩
  cases h : G c with
  | none => rfl
  | some o =>
    have := z.gc
    rw [e _ _ h] at this
    cases this
theorem DkT.start (k : Dk H d H1) (t : Tabs T H) : DkT T (nt H) d H1 := ⟨k.nt, nt_NT H, t.ext k.ex⟩
end
end Hr

/-! Defs that make lambdas, where no repr is under way: their code object is told; the law's end with tables of code objects. -/
namespace Hr
open PySem PySem.Spec PyProof.Rows L2 LamX
section
variable {P : Program} {w : World} {K : PySem.W.Frag} {mg : Str → Option Value} {base : Heap} {CX : CXT} {k : Nat} {f : Addr} {fd : FuncData} {ps : List Str} {sp : Sp}
theorem bodyGc {x qual : Str} {st : Stmt} {N : List Str} (F : Fun K x qual st f fd) (S : FnScope N ps (defScope st)) (len : ∀ vs H Q E, sp vs H Q E → vs.length = ps.length)
    (hb : ∀ (cdv : Value) (A : Around) (around : List Env) (s : Shared) (H : Hp) (vs : List V) (Q : VK) (E : XK), fd.code = cdv → Room k (A.deeper (envOfC qual (defScope st) s.heap.objs.size f cdv)) → A.guards = some [] → sp vs H Q E →
      ∃ t, PSs (cxOf CX P w K mg base N qual (defScope st) f cdv A around s H E) (defBody st) t ∧ t { nx := fun _ H' => Q .non H', rt := Q } (start N vs) H) :
    FnG P w K mg base CX (k + 1) f fd ps sp := by
  obtain ⟨oc, od, kV, doc, pm, an, cdv, ct, osl, rfl, lk, hcd⟩ := F.ex
  refine ⟨len, ?_⟩
  intro A around s H as us vs Q E r g e0 bind rv hq
  have KX : K.In s.heap := e0.mod.kin.keeps fun b o e => (e0.bs b o e).1
  have kinds : ∀ y ∈ ps.zip us, (defScope st).names.lookup y.1 = some .local ∨ ((defScope st).names.lookup y.1 = some .cell ∧ ((cellsFrom (s.heap.objs.size + 1) (defScope st).names []).lookup y.1).isSome = true) := by
    rintro ⟨n, v⟩ hy
    rcases S.par n (List.of_mem_zip hy).1 with q | q
    · exact .inl q
    · exact .inr ⟨q, PySem.W.cellsFrom_some _ _ _ (.inl q)⟩
  refine codeAny_call_function r.depth (KX _ _ lk) rfl S.co S.gen rfl (PySem.W.codeRec_of KX hcd) (bind _ _ _ _ ?_)
  refine wpAny_newFunctionEnv_cells S.kind kinds ?_
  intro env he s1 x
  subst he
  refine ⟨Heap.NoLimit.keeps (e0.mod.nolimit.keeps fun b o e => (e0.bs b o e).1) x.toInCall.keep, codeAny_func ?_⟩
  obtain ⟨t, ht, hrun⟩ := hb cdv A around s H vs Q E rfl (r.deeper _) g hq
  have I := inv_start (CX := CX) (E := E) S r.hd e0 (len _ _ _ _ hq) rv x
  refine wpAny_mono (ht.run [] s1 (start N vs) H _ I hrun) ?_ (fun e s' hs => hs)
  intro fl s' hs
  cases fl with
  | ret u =>
    obtain ⟨v, σ', H', J, rv', q⟩ := hs
    exact ⟨v, H', J.os, J.bare, J.base, J.hok, rv', q⟩
  | next =>
    obtain ⟨σ', H', J, q⟩ := hs
    exact ⟨V.non, H', J.os, J.bare, J.base, J.hok, rfl, q⟩
  | brk => exact hs.elim fun _ ⟨_, _, q⟩ => q.elim
  | cont => exact hs.elim fun _ ⟨_, _, q⟩ => q.elim
theorem okGc {x qual : Str} {st : Stmt} {N : List Str} (F : Fun K x qual st f fd) (S : FnScope N ps (defScope st)) (len : ∀ vs H Q E, sp vs H Q E → vs.length = ps.length)
    (hb : ∀ (cdv : Value) (A : Around) (around : List Env) (s : Shared) (H : Hp) (vs : List V) (Q : VK) (E : XK), fd.code = cdv → Room k (A.deeper (envOfC qual (defScope st) s.heap.objs.size f cdv)) → A.guards = some [] → sp vs H Q E →
      ∃ t, PSs (cxOf CX0 P w K mg base N qual (defScope st) f cdv A around s H E).nox (defBody st) t ∧ t { nx := fun _ H' => Q .non H', rt := Q } (start N vs) H) :
    FnG P w K mg base CX0 (k + 1) f fd ps sp :=
  bodyGc F S len fun cdv A around s H vs Q E c r g h => by
    obtain ⟨t, ht, q⟩ := hb cdv A around s H vs Q E c r g h
    exact ⟨t, ht.nox, q⟩
end
/-- the heap at the start: the script, if it is no part of the text, and the empty tables -/
def OnlyT (cs : List (Addr × Addr)) (a : Addr) (K : PySem.W.Frag) (H : Hp) : Prop :=
  ∀ b, H b = none ∨ (b ∈ cs.map (·.2) ∧ H b = some (.tbl #[])) ∨ (b = a ∧ K.lookup a = none ∧ ∃ o xs, H b = some (.frz o (.lst xs)))
section
variable {P : Program} {w : World} {K : PySem.W.Frag} {mg mb : Str → Option Value} {k : Nat} {fa a : Addr} {fd : FuncData} {x : Str} {sp : Sp} {s₁ : Shared} {vs : List Value} {ns : List Int} {cs : List (Addr × Addr)}
theorem lawT0 {H : Hp} (KX : K.In s₁.heap) (hns : s₁.heap.Ns mainGlobals mg) (hb : s₁.heap.Ns builtinsNs mb) (hbb : ∀ x : Str, x ≠ "__name__" → mb x = bootBuiltins x) (hlim : s₁.heap.NoLimit) (hg : s₁.gens = #[])
    (hT : ∀ p ∈ cs, s₁.heap.get? p.2 = some { cls := .none, data := .fields #[] }) (nT : ∀ p ∈ cs, K.lookup p.2 = none) (C : ∀ p ∈ cs, PySem.W.CodeHd s₁.heap p.1 p.2)
    (hbm : ∃ (bm : Addr) (ob : Obj), mg "__builtins__" = some (.ref bm) ∧ bm ≠ builtinsNs ∧ s₁.heap.get? bm = some ob ∧ ob.cls = .type "module" ∧ ob.dict = some builtinsNs ∧ ob.data = .plain)
    (ha : s₁.heap.get? a = some { cls := .type "list", data := .seq vs.toArray }) (hr : Room k callerA)
    (F : ∀ base : Heap, K.In base → base.Ns mainGlobals mg → (∀ p ∈ cs, TabB base mg p.1 p.2) → FnG P w K mg base CX0 k fa fd [x] sp) (hbind : ∀ (s : Shared) (u : Value), BindsTo s fd ⟨[u], []⟩ [(x, u)])
    (hO : OnlyT cs a K H) (hP : ∀ p ∈ cs, H p.2 = some (.tbl #[])) (hok : HOk P w H s₁.heap) (hsp : sp [.ref a] H (fun v _ => v = .bl true) fun _ _ _ => False) :
    codeAny (model P w) callerA (.call (.ref fa) ⟨[.ref a], []⟩) (fun r s' => r = .ok (.ret (.bool true)) ∧ OldK s₁.heap s'.heap ∧ s'.os = s₁.os ∧ AllBare s'.gens) s₁ := by
  have tabAt : ∀ b ∈ cs.map (·.2), s₁.heap.get? b = some { cls := .none, data := .fields #[] } := by
    intro b hb
    obtain ⟨p, hp, rfl⟩ := List.mem_map.mp hb
    exact hT p hp
  have untold : ∀ {b : Addr} {o : Obj}, s₁.heap.get? b = some o → ((∀ xs n, o.data ≠ .seq xs n) ∧ o.data ≠ .fields #[]) ∨ K.lookup b ≠ none → H b = none := by
    intro b o e z
    rcases hO b with q | ⟨q, _⟩ | ⟨rfl, q, _⟩
    · exact q
    · rcases z with z | z
      · have t := tabAt b q
        rw [e] at t
        cases t
        exact absurd rfl z.2
      · obtain ⟨p, hp, rfl⟩ := List.mem_map.mp q
        exact absurd (nT p hp) z
    · rcases z with z | z
      · rw [ha] at e
        cases e
        exact absurd rfl (z.1 _ _)
      · exact absurd q z
  have dictU : ∀ {b : Addr} {o : Obj} {es : Array DictEntry} {ep : Nat}, s₁.heap.get? b = some o → o.data = .dict es ep → H b = none := fun e d => untold e (.inl ⟨(fun xs n z => by rw [d] at z; cases z), (fun z => by rw [d] at z; cases z)⟩)
  have nsB : ∀ {b : Addr} {m : Str → Option Value}, s₁.heap.Ns b m → (hidT s₁.heap H).Ns b m := by
    rintro b m ⟨o, es, ep, e, d, r⟩
    exact ⟨o, es, ep, hidT_get e (dictU e d), d, r⟩
  have hKb : K.In (hidT s₁.heap H) := fun b o e => hidT_get (KX b o e) (untold (KX b o e) (.inr (by rw [e]; exact Option.some_ne_none o)))
  have hM : Mod K mg (hidT s₁.heap H) := ⟨hKb, nsB hns, ⟨mb, nsB hb, hbb⟩, hlim.elim fun mc z => ⟨mc, nsB z.1, z.2⟩⟩
  have TB : ∀ p ∈ cs, TabB (hidT s₁.heap H) mg p.1 p.2 := by
    intro p hp
    have tp := hT p hp
    refine ⟨?_, ?_, fun z => ?_⟩
    · obtain ⟨o, us, file, tf, flags, tg, inF, text, tt, g1, g0, g2, g3, rest⟩ := C p hp
      refine ⟨o, us, file, tf, flags, tg, inF, text, tt, hidT_get g1 (untold g1 (.inl ⟨fun xs n z => ?_, fun z => ?_⟩)), g0, g2, g3, rest⟩
      · rw [g2] at z
        cases z
      · rw [g2] at z
        cases z
        simp at g3
    · obtain ⟨bm, ob, b1, b2, b3, b4, b5, b6⟩ := hbm
      refine ⟨bm, ob, b1, b2, fun q => ?_, fun q => ?_, hidT_get b3 (untold b3 (.inl ⟨fun xs n z => ?_, fun z => ?_⟩)), b4, b5, b6⟩
      · obtain ⟨o, es, ep, e, hd, _⟩ := hns
        rw [q, e] at b3
        cases b3
        rw [hd] at b6
        cases b6
      · rw [q, tp] at b3
        cases b3
        cases b6
      · rw [b6] at z
        cases z
      · rw [b6] at z
        cases z
    · obtain ⟨o, es, ep, e, hd, _⟩ := hns
      rw [z, tp] at e
      cases e
      cases hd
  have e0 : Env0 P w K mg (hidT s₁.heap H) callerA [] s₁ H :=
    ⟨rfl, hM, fun b o e => of_hidT e, Nat.le_of_eq (hidT_size _ _), trivial, fun b hb => absurd hb List.not_mem_nil, hok, .of_eq hg⟩
  refine codeAny_mono ((F _ hKb (nsB hns) TB).go callerA [] s₁ H ⟨[.ref a], []⟩ [.ref a] [.ref a] _ _ hr rfl e0 (hbind s₁ (.ref a)) (.cons rfl .nil) hsp) ?_
  intro r s' h
  cases r with
  | error e => exact False.elim h
  | ok fl => cases fl with
    | next => exact False.elim h
    | brk => exact False.elim h
    | cont => exact False.elim h
    | ret u =>
      obtain ⟨v, H', os, bare, un, hok', r', q⟩ := h
      have q' : v = .bl true := q
      subst q'
      have r2 : u = Value.bool true := r'
      subst r2
      have same : ∀ b o, b ∉ cs.map (·.2) → s₁.heap.get? b = some o → s'.heap.get? b = some o := by
        intro b o nb e
        rcases hO b with z | ⟨z, _⟩ | ⟨rfl, _, ob, xs, z⟩
        · exact un.keep b o e z List.not_mem_nil List.not_mem_nil
        · exact absurd z nb
        · obtain ⟨e1, _⟩ := hok _ _ z
          obtain ⟨e2, _⟩ := hok' _ _ (un.frzs _ ob _ z)
          rw [e] at e1
          cases e1
          exact e2
      have grown : ∀ b ∈ cs.map (·.2), ∃ more : Array Value, s'.heap.get? b = some { cls := .none, data := .fields more } := by
        intro b hb
        obtain ⟨p, hp, rfl⟩ := List.mem_map.mp hb
        obtain ⟨more, z⟩ := un.tbls p.2 #[] (hP p hp)
        exact ⟨_, hok' p.2 _ z⟩
      refine ⟨rfl, ⟨fun b o e => ?_, fun b o e => ?_⟩, os, bare⟩
      · by_cases hb : b ∈ cs.map (·.2)
        · obtain ⟨more, hm⟩ := grown b hb
          obtain ⟨p, hp, rfl⟩ := List.mem_map.mp hb
          rw [hT p hp] at e
          cases e
          exact .inr (.inl ⟨((C p hp).tab (hT p hp)).isCodeTable, rfl, #[], more, rfl, by rw [Array.empty_append]; exact hm⟩)
        · exact .inl (same b o hb e)
      · by_cases hb : b ∈ cs.map (·.2)
        · obtain ⟨more, hm⟩ := grown b hb
          exact ⟨_, hm⟩
        · exact ⟨o, same b o hb e⟩
theorem lawT (KX : K.In s₁.heap) (hns : s₁.heap.Ns mainGlobals mg) (hb : s₁.heap.Ns builtinsNs mb) (hbb : ∀ x : Str, x ≠ "__name__" → mb x = bootBuiltins x) (hlim : s₁.heap.NoLimit) (hg : s₁.gens = #[])
    (hT : ∀ p ∈ cs, s₁.heap.get? p.2 = some { cls := .none, data := .fields #[] }) (nT : ∀ p ∈ cs, K.lookup p.2 = none) (C : ∀ p ∈ cs, PySem.W.CodeHd s₁.heap p.1 p.2)
    (hbm : ∃ (bm : Addr) (ob : Obj), mg "__builtins__" = some (.ref bm) ∧ bm ≠ builtinsNs ∧ s₁.heap.get? bm = some ob ∧ ob.cls = .type "module" ∧ ob.dict = some builtinsNs ∧ ob.data = .plain)
    (ha : s₁.heap.get? a = some { cls := .type "list", data := .seq vs.toArray }) (hi : IntsAre vs ns) (hl : ns.length ≤ sizeLine) (hr : Room k callerA)
    (F : ∀ base : Heap, K.In base → base.Ns mainGlobals mg → (∀ p ∈ cs, TabB base mg p.1 p.2) → FnG P w K mg base CX0 k fa fd [x] sp) (hbind : ∀ (s : Shared) (u : Value), BindsTo s fd ⟨[u], []⟩ [(x, u)])
    (hsp : ∀ H : Hp, (∀ p ∈ cs, H p.2 = some (.tbl #[])) → SqL K H a (ns.map V.int) → sp [.ref a] H (fun v _ => v = .bl true) fun _ _ _ => False) :
    codeAny (model P w) callerA (.call (.ref fa) ⟨[.ref a], []⟩) (fun r s' => r = .ok (.ret (.bool true)) ∧ OldK s₁.heap s'.heap ∧ s'.os = s₁.os ∧ AllBare s'.gens) s₁ := by
  have rv := vals_ints hi
  have tabAt : ∀ b ∈ cs.map (·.2), s₁.heap.get? b = some { cls := .none, data := .fields #[] } := by
    intro b hb
    obtain ⟨p, hp, rfl⟩ := List.mem_map.mp hb
    exact hT p hp
  have na : a ∉ cs.map (·.2) := fun z => by
    have q := tabAt a z
    rw [ha] at q
    have q' : Data.seq vs.toArray _ = Data.fields #[] := congrArg Obj.data (Option.some.inj q)
    cases q'
  cases hk : K.lookup a with
  | some o =>
    have e := KX a o hk
    rw [ha] at e
    cases e
    have hP : ∀ p ∈ cs, (fun b => if b ∈ cs.map (·.2) then some (HO.tbl #[]) else none : Hp) p.2 = some (.tbl #[]) := fun p hp => if_pos (List.mem_map.mpr ⟨p, hp, rfl⟩)
    refine lawT0 (H := fun b => if b ∈ cs.map (·.2) then some (.tbl #[]) else none) KX hns hb hbb hlim hg hT nT C hbm ha hr F hbind (fun b => ?_) hP (fun b u z => ?_) (hsp _ hP (.inr ⟨_, vs.toArray, _, hk, rfl, rfl, rfl, ?_, ?_⟩))
    · by_cases h : b ∈ cs.map (·.2)
      · exact .inr (.inl ⟨h, if_pos h⟩)
      · exact .inl (if_neg h)
    · by_cases h : b ∈ cs.map (·.2)
      · cases (if_pos h).symm.trans z
        exact tabAt b h
      · cases (if_neg h).symm.trans z
    · rw [List.size_toArray, hi.length]
      exact hl
    · rw [List.toList_toArray]
      exact rv
  | none =>
    have hP : ∀ p ∈ cs, (upd (fun b => if b ∈ cs.map (·.2) then some (HO.tbl #[]) else none) a (.frz { cls := .type "list", data := .seq vs.toArray } (.lst (ns.map V.int))) : Hp) p.2 = some (.tbl #[]) := fun p hp => by
      have m : p.2 ∈ cs.map (·.2) := List.mem_map.mpr ⟨p, hp, rfl⟩
      rw [upd_ne (show p.2 ≠ a from fun z => na (by rw [← z]; exact m))]
      exact if_pos m
    refine lawT0 (H := upd (fun b => if b ∈ cs.map (·.2) then some (.tbl #[]) else none) a (.frz { cls := .type "list", data := .seq vs.toArray } (.lst (ns.map V.int)))) KX hns hb hbb hlim hg hT nT C hbm ha hr F hbind (fun b => ?_) hP (fun b u z => ?_) (hsp _ hP (.inl (.inr ⟨_, upd_same⟩)))
    · by_cases h : b = a
      · subst h
        exact .inr (.inr ⟨rfl, hk, _, _, upd_same⟩)
      · rw [upd_ne h]
        by_cases h2 : b ∈ cs.map (·.2)
        · exact .inr (.inl ⟨h2, if_pos h2⟩)
        · exact .inl (if_neg h2)
    · by_cases h : b = a
      · subst h
        rw [upd_same] at z
        cases z
        exact ⟨ha, by rw [List.length_map]; exact hl, vs, _, rv, ha⟩
      · rw [upd_ne h] at z
        by_cases h2 : b ∈ cs.map (·.2)
        · cases (if_pos h2).symm.trans z
          exact tabAt b h2
        · cases (if_neg h2).symm.trans z
end
/-- what is to be shown of a law whose defs make lambdas -/
def LawT (l : PySem.W.OpenLaw) (w : World) (K : PySem.W.Frag) (k n : Nat) (x : Str) (mg : Str → Option Value) (fa : Addr) (h : Heap) : Prop :=
  ∃ (fd : FuncData) (cs : List (Addr × Addr)) (sp : Sp), (∀ p ∈ cs, h.get? p.2 = some { cls := .none, data := .fields #[] }) ∧ (∀ p ∈ cs, K.lookup p.2 = none) ∧ (∀ p ∈ cs, PySem.W.CodeHd h p.1 p.2) ∧ (∀ (s : Shared) (u : Value), BindsTo s fd ⟨[u], []⟩ [(x, u)]) ∧
    (∀ (H : Hp) (a : Addr) (ns : List Int), ns.length ≤ n → (∀ p ∈ cs, H p.2 = some (.tbl #[])) → SqL K H a (ns.map V.int) → sp [.ref a] H (fun v _ => v = .bl true) fun _ _ _ => False) ∧
    ∀ base : Heap, K.In base → base.Ns mainGlobals mg → (∀ p ∈ cs, TabB base mg p.1 p.2) → FnG l.prog w K mg base CX0 k fa fd [x] sp
theorem walkT {l : PySem.W.OpenLaw} {n k : Nat} {q : Program} {loose : List Str} {XP : (Str → Option Value) → Heap → Prop} {YP : World → Heap → Prop} {d : DefRec} {K : Params → PySem.W.Frag} {x : Str}
    (hn : l.most = some n) (hn2 : n ≤ sizeLine) (hdf : d.params.defaults = []) (hr : Room k callerA) (hY : ∀ (w : World) (h : Heap), YP w h → (K w.params).In h)
    (F : ∀ (w : World) (mg mb : Str → Option Value) (fa : Addr) (h : Heap) (lo : List Str) (me : ExcName → Option Value), YP w h → (K w.params).In h → Top q lo me mg mb h → mg d.name = some (.ref fa) → LawT l w (K w.params) k n x mg fa h) :
    PySem.W.WalkO q loose XP YP l.row.toRowW d [] (fun f vs => PySem.call f vs) := by
  refine Att.attach_callB hn hdf fun w s₀ s₁ mg mb fa o pm cd doc a vs ns G Y ho hd hcd hmg hobj hints hlen hbits hg => ?_
  have KX := hY w _ Y
  obtain ⟨fd, cs, sp, hT, nT, C, hb, hsp, hF⟩ := F w mg mb fa _ _ _ Y KX G.T hmg
  exact lawT KX G.T.g G.T.b G.T.builtins G.T.nolimit hg hT nT C G.T.bmain hobj hints (Nat.le_trans hlen hn2) hr hF hb fun H hH hS => hsp H a ns hlen hH hS
theorem tabIn_of {K : PySem.W.Frag} {x : Str} {f c P : Addr} {oc : Value} {od : Option Addr} {fd : FuncData} {sl : Array (Option Value)} {ob : Value} {oe : Option Addr} {vs : Array Value} {of : Array (Option Value)} (a : PySem.W.nsIn K mainGlobals x = some (some (.ref f))) (l : K.lookup f = some ⟨oc, od, .func fd, sl⟩) (hc : fd.code = .ref c)
    (lc : K.lookup c = some ⟨ob, oe, .fields vs, of⟩) (hv : vs[11]? = some (.ref P)) : PySem.W.tabIn K x = some (c, P) := by
  unfold PySem.W.tabIn
  rw [a]
  simp only [l, hc, lc, hv]
end Hr

namespace K81
open PySem PySem.Spec PyProof.Rows L2 Hr HrM Evl HrE_thing LamX
def topS (i : Nat) : Stmt := PySem.Challenge.pw_holerows_k81_least_and_most_counts_of_sp.main.body.getD i (.Pass ⟨0, 0, 0, 0⟩)
abbrev s_is_integer : Stmt := topS 8
theorem sc_is_integer : FnScope ["thing"] ["thing"] (defScope s_is_integer) := ⟨rfl, rfl, rfl, by decide +kernel, rfl, by decide +kernel, by decide +kernel⟩
abbrev s_is_integer_from : Stmt := topS 9
theorem sc_is_integer_from : FnScope ["thing", "least"] ["thing", "least"] (defScope s_is_integer_from) := ⟨rfl, rfl, rfl, by decide +kernel, rfl, by decide +kernel, by decide +kernel⟩
abbrev s_are_integers_from : Stmt := topS 10
theorem sc_are_integers_from : FnScope ["thing", "least", "part"] ["thing", "least"] (defScope s_are_integers_from) := ⟨rfl, rfl, rfl, by decide +kernel, rfl, by decide +kernel, by decide +kernel⟩
abbrev s_is_one_of : Stmt := topS 11
theorem sc_is_one_of : FnScope ["thing", "rights", "right"] ["thing", "rights"] (defScope s_is_one_of) := ⟨rfl, rfl, rfl, by decide +kernel, rfl, by decide +kernel, by decide +kernel⟩
abbrev s_is_just : Stmt := topS 12
theorem sc_is_just : FnScope ["thing", "right", "part", "other"] ["thing", "right"] (defScope s_is_just) := ⟨rfl, rfl, rfl, by decide +kernel, rfl, by decide +kernel, by decide +kernel⟩
abbrev s_cascade_of : Stmt := topS 14
theorem sc_cascade_of : FnScope ["number", "size", "tops", "rest", "place", "top"] ["number", "size"] (defScope s_cascade_of) := ⟨rfl, rfl, rfl, by decide +kernel, rfl, by decide +kernel, by decide +kernel⟩
abbrev s_upper_products : Stmt := topS 15
theorem sc_upper_products : FnScope ["number", "size"] ["number", "size"] (defScope s_upper_products) := ⟨rfl, rfl, rfl, by decide +kernel, rfl, by decide +kernel, by decide +kernel⟩
abbrev s_check_number : Stmt := topS 16
theorem sc_check_number : FnScope ["number"] ["number"] (defScope s_check_number) := ⟨rfl, rfl, rfl, by decide +kernel, rfl, by decide +kernel, by decide +kernel⟩
abbrev s_check_size : Stmt := topS 17
theorem sc_check_size : FnScope ["size"] ["size"] (defScope s_check_size) := ⟨rfl, rfl, rfl, by decide +kernel, rfl, by decide +kernel, by decide +kernel⟩
abbrev s_greatest_top : Stmt := topS 18
theorem sc_greatest_top : FnScope ["number", "size"] ["number", "size"] (defScope s_greatest_top) := ⟨rfl, rfl, rfl, by decide +kernel, rfl, by decide +kernel, by decide +kernel⟩
abbrev s_greatest_within : Stmt := topS 19
theorem sc_greatest_within : FnScope ["number", "least", "count_at", "low", "high", "middle"] ["number", "least", "count_at"] (defScope s_greatest_within) := ⟨rfl, rfl, rfl, by decide +kernel, rfl, by decide +kernel, by decide +kernel⟩
abbrev s_moved_sum : Stmt := topS 20
theorem sc_moved_sum : FnScope ["size", "cascade", "more_things", "more_size", "k", "top"] ["size", "cascade", "more_things", "more_size"] (defScope s_moved_sum) := ⟨rfl, rfl, rfl, by decide +kernel, rfl, by decide +kernel, by decide +kernel⟩
abbrev s_is_counts : Stmt := topS 23
theorem sc_is_counts : FnScope ["thing"] ["thing"] (defScope s_is_counts) := ⟨rfl, rfl, rfl, by decide +kernel, rfl, by decide +kernel, by decide +kernel⟩
abbrev s_check_counts : Stmt := topS 24
theorem sc_check_counts : FnScope ["counts"] ["counts"] (defScope s_check_counts) := ⟨rfl, rfl, rfl, by decide +kernel, rfl, by decide +kernel, by decide +kernel⟩
abbrev s_check_some_counts : Stmt := topS 25
theorem sc_check_some_counts : FnScope ["counts"] ["counts"] (defScope s_check_some_counts) := ⟨rfl, rfl, rfl, by decide +kernel, rfl, by decide +kernel, by decide +kernel⟩
abbrev s_h_row : Stmt := topS 27
theorem sc_h_row : FnScope ["counts"] ["counts"] (defScope s_h_row) := ⟨rfl, rfl, rfl, by decide +kernel, rfl, by decide +kernel, by decide +kernel⟩
abbrev s_counts_of_h : Stmt := topS 28
theorem sc_counts_of_h : FnScope ["numbers", "counts", "number"] ["numbers"] (defScope s_counts_of_h) := ⟨rfl, rfl, rfl, by decide +kernel, rfl, by decide +kernel, by decide +kernel⟩
abbrev s_begins_with_1 : Stmt := topS 29
theorem sc_begins_with_1 : FnScope ["thing"] ["thing"] (defScope s_begins_with_1) := ⟨rfl, rfl, rfl, by decide +kernel, rfl, by decide +kernel, by decide +kernel⟩
abbrev s_row_certificates : Stmt := topS 30
theorem sc_row_certificates : FnScope ["row", "degrees", "uppers", "faults", "k"] ["row"] (defScope s_row_certificates) := ⟨rfl, rfl, rfl, by decide +kernel, rfl, by decide +kernel, by decide +kernel⟩
abbrev s_moved_row : Stmt := topS 31
theorem sc_moved_row : FnScope ["row", "sign", "last", "signs", "j", "i"] ["row", "sign"] (defScope s_moved_row) := ⟨rfl, rfl, rfl, by decide +kernel, rfl, by decide +kernel, by decide +kernel⟩
abbrev s_judge_sphere : Stmt := topS 33
theorem sc_judge_sphere : FnScope ["counts"] ["counts"] (defScope s_judge_sphere) := ⟨rfl, rfl, rfl, by decide +kernel, rfl, by decide +kernel, by decide +kernel⟩
abbrev s_sphere_holds : Stmt := topS 34
theorem sc_sphere_holds : FnScope ["counts", "thing"] ["counts", "thing"] (defScope s_sphere_holds) := ⟨rfl, rfl, rfl, by decide +kernel, rfl, by decide +kernel, by decide +kernel⟩
abbrev s_least_sphere : Stmt := topS 35
theorem sc_least_sphere : FnScope ["n", "d"] ["n", "d"] (defScope s_least_sphere) := ⟨rfl, rfl, rfl, by decide +kernel, rfl, by decide +kernel, by decide +kernel⟩
abbrev s_most_sphere : Stmt := topS 36
theorem sc_most_sphere : FnScope ["n", "d", "k"] ["n", "d"] (defScope s_most_sphere) := ⟨rfl, rfl, rfl, by decide +kernel, rfl, by decide +kernel, by decide +kernel⟩
abbrev s_check_ends : Stmt := topS 37
theorem sc_check_ends : FnScope ["n", "d"] ["n", "d"] (defScope s_check_ends) := ⟨rfl, rfl, rfl, by decide +kernel, rfl, by decide +kernel, by decide +kernel⟩
abbrev s_sphere_certificates : Stmt := topS 38
theorem sc_sphere_certificates : FnScope ["counts", "row", "last", "unequal", "steps", "below", "certificates", "i", "step"] ["counts"] (defScope s_sphere_certificates) := ⟨rfl, rfl, rfl, by decide +kernel, rfl, by decide +kernel, by decide +kernel⟩
abbrev s_counts_with : Stmt := topS 39
theorem sc_counts_with : FnScope ["d", "steps", "row", "back", "k"] ["d", "steps"] (defScope s_counts_with) := ⟨rfl, rfl, rfl, by decide +kernel, rfl, by decide +kernel, by decide +kernel⟩
abbrev s_l_deck : Stmt := topS 41
theorem sc_l_deck : FnScope ["script", "mixed", "cell"] ["script"] (defScope s_l_deck) := ⟨rfl, rfl, rfl, by decide +kernel, rfl, by decide +kernel, by decide +kernel⟩
abbrev s_l_draw : Stmt := topS 42
theorem sc_l_draw : FnScope ["deck", "many", "figure", "cell"] ["deck", "many"] (defScope s_l_draw) := ⟨rfl, rfl, rfl, by decide +kernel, rfl, by decide +kernel, by decide +kernel⟩
abbrev s_l_pick : Stmt := topS 43
theorem sc_l_pick : FnScope ["deck", "some"] ["deck", "some"] (defScope s_l_pick) := ⟨rfl, rfl, rfl, by decide +kernel, rfl, by decide +kernel, by decide +kernel⟩
abbrev s_l_choose : Stmt := topS 44
theorem sc_l_choose : FnScope ["a", "b", "found", "k"] ["a", "b"] (defScope s_l_choose) := ⟨rfl, rfl, rfl, by decide +kernel, rfl, by decide +kernel, by decide +kernel⟩
abbrev s_l_symmetric : Stmt := topS 45
theorem sc_l_symmetric : FnScope ["g", "d", "h", "total", "number"] ["g", "d"] (defScope s_l_symmetric) := ⟨rfl, rfl, rfl, by decide +kernel, rfl, by decide +kernel, by decide +kernel⟩
abbrev s_l_counts : Stmt := topS 46
theorem sc_l_counts : FnScope ["h", "d", "j", "i"] ["h"] (defScope s_l_counts) := ⟨rfl, rfl, rfl, by decide +kernel, rfl, by decide +kernel, by decide +kernel⟩
abbrev s_l_g_rows : Stmt := topS 47
theorem sc_l_g_rows : FnScope ["n", "d", "m", "low", "k"] ["n", "d"] (defScope s_l_g_rows) := ⟨rfl, rfl, rfl, by decide +kernel, rfl, by decide +kernel, by decide +kernel⟩
abbrev s_l_told : Stmt := topS 48
theorem sc_l_told : FnScope ["call", "e"] ["call"] (defScope s_l_told) := ⟨rfl, rfl, rfl, by decide +kernel, rfl, by decide +kernel, by decide +kernel⟩
abbrev s_l_whole : Stmt := topS 49
theorem sc_l_whole : FnScope ["thing", "low"] ["thing", "low"] (defScope s_l_whole) := ⟨rfl, rfl, rfl, by decide +kernel, rfl, by decide +kernel, by decide +kernel⟩
abbrev s_l_is_right : Stmt := topS 50
theorem sc_l_is_right : FnScope ["n", "d", "near", "far", "due", "g"] ["n", "d"] (defScope s_l_is_right) := ⟨rfl, rfl, rfl, by decide +kernel, rfl, by decide +kernel, by decide +kernel⟩
abbrev s_l_is_row_right : Stmt := topS 51
theorem sc_l_is_row_right : FnScope ["counts", "g", "h"] ["counts", "g"] (defScope s_l_is_row_right) := ⟨rfl, rfl, rfl, by decide +kernel, rfl, by decide +kernel, by decide +kernel⟩
abbrev s_l_are_ends_right : Stmt := topS 52
theorem sc_l_are_ends_right : FnScope ["n", "d", "low", "high", "more", "rows", "counts", "g", "steps", "k", "x", "y"] ["n", "d"] (defScope s_l_are_ends_right) := ⟨rfl, rfl, rfl, by decide +kernel, rfl, by decide +kernel, by decide +kernel⟩
abbrev s_law : Stmt := topS 53
theorem sc_law : FnScope ["script", "deck", "turn", "d", "n", "some", "odd", "one", "other"] ["script"] (defScope s_law) := ⟨rfl, rfl, rfl, by decide +kernel, rfl, by decide +kernel, by decide +kernel⟩
structure Txt (K : PySem.W.Frag) (mg : Str → Option Value) where
  f_is_integer : Addr
  d_is_integer : FuncData
  U_is_integer : Fun K "is_integer" "is_integer" s_is_integer f_is_integer d_is_integer
  g_is_integer : mg "is_integer" = some (.ref f_is_integer)
  b_is_integer : Binds K d_is_integer ["thing"] []
  f_is_integer_from : Addr
  d_is_integer_from : FuncData
  U_is_integer_from : Fun K "is_integer_from" "is_integer_from" s_is_integer_from f_is_integer_from d_is_integer_from
  g_is_integer_from : mg "is_integer_from" = some (.ref f_is_integer_from)
  b_is_integer_from : Binds K d_is_integer_from ["thing", "least"] []
  f_are_integers_from : Addr
  d_are_integers_from : FuncData
  U_are_integers_from : Fun K "are_integers_from" "are_integers_from" s_are_integers_from f_are_integers_from d_are_integers_from
  g_are_integers_from : mg "are_integers_from" = some (.ref f_are_integers_from)
  b_are_integers_from : Binds K d_are_integers_from ["thing", "least"] []
  f_is_one_of : Addr
  d_is_one_of : FuncData
  U_is_one_of : Fun K "is_one_of" "is_one_of" s_is_one_of f_is_one_of d_is_one_of
  g_is_one_of : mg "is_one_of" = some (.ref f_is_one_of)
  b_is_one_of : Binds K d_is_one_of ["thing", "rights"] []
  f_is_just : Addr
  d_is_just : FuncData
  U_is_just : Fun K "is_just" "is_just" s_is_just f_is_just d_is_just
  g_is_just : mg "is_just" = some (.ref f_is_just)
  b_is_just : Binds K d_is_just ["thing", "right"] []
  f_cascade_of : Addr
  d_cascade_of : FuncData
  U_cascade_of : Fun K "cascade_of" "cascade_of" s_cascade_of f_cascade_of d_cascade_of
  g_cascade_of : mg "cascade_of" = some (.ref f_cascade_of)
  b_cascade_of : Binds K d_cascade_of ["number", "size"] []
  f_upper_products : Addr
  d_upper_products : FuncData
  U_upper_products : Fun K "upper_products" "upper_products" s_upper_products f_upper_products d_upper_products
  g_upper_products : mg "upper_products" = some (.ref f_upper_products)
  b_upper_products : Binds K d_upper_products ["number", "size"] []
  f_check_number : Addr
  d_check_number : FuncData
  U_check_number : Fun K "check_number" "check_number" s_check_number f_check_number d_check_number
  g_check_number : mg "check_number" = some (.ref f_check_number)
  b_check_number : Binds K d_check_number ["number"] []
  f_check_size : Addr
  d_check_size : FuncData
  U_check_size : Fun K "check_size" "check_size" s_check_size f_check_size d_check_size
  g_check_size : mg "check_size" = some (.ref f_check_size)
  b_check_size : Binds K d_check_size ["size"] []
  f_greatest_top : Addr
  d_greatest_top : FuncData
  U_greatest_top : Fun K "greatest_top" "greatest_top" s_greatest_top f_greatest_top d_greatest_top
  g_greatest_top : mg "greatest_top" = some (.ref f_greatest_top)
  b_greatest_top : Binds K d_greatest_top ["number", "size"] []
  f_greatest_within : Addr
  d_greatest_within : FuncData
  U_greatest_within : Fun K "greatest_within" "greatest_within" s_greatest_within f_greatest_within d_greatest_within
  g_greatest_within : mg "greatest_within" = some (.ref f_greatest_within)
  b_greatest_within : Binds K d_greatest_within ["number", "least", "count_at"] []
  f_moved_sum : Addr
  d_moved_sum : FuncData
  U_moved_sum : Fun K "moved_sum" "moved_sum" s_moved_sum f_moved_sum d_moved_sum
  g_moved_sum : mg "moved_sum" = some (.ref f_moved_sum)
  b_moved_sum : Binds K d_moved_sum ["size", "cascade", "more_things", "more_size"] []
  f_is_counts : Addr
  d_is_counts : FuncData
  U_is_counts : Fun K "is_counts" "is_counts" s_is_counts f_is_counts d_is_counts
  g_is_counts : mg "is_counts" = some (.ref f_is_counts)
  b_is_counts : Binds K d_is_counts ["thing"] []
  f_check_counts : Addr
  d_check_counts : FuncData
  U_check_counts : Fun K "check_counts" "check_counts" s_check_counts f_check_counts d_check_counts
  g_check_counts : mg "check_counts" = some (.ref f_check_counts)
  b_check_counts : Binds K d_check_counts ["counts"] []
  f_check_some_counts : Addr
  d_check_some_counts : FuncData
  U_check_some_counts : Fun K "check_some_counts" "check_some_counts" s_check_some_counts f_check_some_counts d_check_some_counts
  g_check_some_counts : mg "check_some_counts" = some (.ref f_check_some_counts)
  b_check_some_counts : Binds K d_check_some_counts ["counts"] []
  f_h_row : Addr
  d_h_row : FuncData
  U_h_row : Fun K "h_row" "h_row" s_h_row f_h_row d_h_row
  g_h_row : mg "h_row" = some (.ref f_h_row)
  b_h_row : Binds K d_h_row ["counts"] []
  f_counts_of_h : Addr
  d_counts_of_h : FuncData
  U_counts_of_h : Fun K "counts_of_h" "counts_of_h" s_counts_of_h f_counts_of_h d_counts_of_h
  g_counts_of_h : mg "counts_of_h" = some (.ref f_counts_of_h)
  b_counts_of_h : Binds K d_counts_of_h ["numbers"] []
  f_begins_with_1 : Addr
  d_begins_with_1 : FuncData
  U_begins_with_1 : Fun K "begins_with_1" "begins_with_1" s_begins_with_1 f_begins_with_1 d_begins_with_1
  g_begins_with_1 : mg "begins_with_1" = some (.ref f_begins_with_1)
  b_begins_with_1 : Binds K d_begins_with_1 ["thing"] []
  f_row_certificates : Addr
  d_row_certificates : FuncData
  U_row_certificates : Fun K "row_certificates" "row_certificates" s_row_certificates f_row_certificates d_row_certificates
  g_row_certificates : mg "row_certificates" = some (.ref f_row_certificates)
  b_row_certificates : Binds K d_row_certificates ["row"] []
  f_moved_row : Addr
  d_moved_row : FuncData
  U_moved_row : Fun K "moved_row" "moved_row" s_moved_row f_moved_row d_moved_row
  g_moved_row : mg "moved_row" = some (.ref f_moved_row)
  b_moved_row : Binds K d_moved_row ["row", "sign"] []
  f_judge_sphere : Addr
  d_judge_sphere : FuncData
  U_judge_sphere : Fun K "judge_sphere" "judge_sphere" s_judge_sphere f_judge_sphere d_judge_sphere
  g_judge_sphere : mg "judge_sphere" = some (.ref f_judge_sphere)
  b_judge_sphere : Binds K d_judge_sphere ["counts"] []
  f_sphere_holds : Addr
  d_sphere_holds : FuncData
  U_sphere_holds : Fun K "sphere_holds" "sphere_holds" s_sphere_holds f_sphere_holds d_sphere_holds
  g_sphere_holds : mg "sphere_holds" = some (.ref f_sphere_holds)
  b_sphere_holds : Binds K d_sphere_holds ["counts", "thing"] []
  f_least_sphere : Addr
  d_least_sphere : FuncData
  U_least_sphere : Fun K "least_sphere" "least_sphere" s_least_sphere f_least_sphere d_least_sphere
  g_least_sphere : mg "least_sphere" = some (.ref f_least_sphere)
  b_least_sphere : Binds K d_least_sphere ["n", "d"] []
  f_most_sphere : Addr
  d_most_sphere : FuncData
  U_most_sphere : Fun K "most_sphere" "most_sphere" s_most_sphere f_most_sphere d_most_sphere
  g_most_sphere : mg "most_sphere" = some (.ref f_most_sphere)
  b_most_sphere : Binds K d_most_sphere ["n", "d"] []
  f_check_ends : Addr
  d_check_ends : FuncData
  U_check_ends : Fun K "check_ends" "check_ends" s_check_ends f_check_ends d_check_ends
  g_check_ends : mg "check_ends" = some (.ref f_check_ends)
  b_check_ends : Binds K d_check_ends ["n", "d"] []
  f_sphere_certificates : Addr
  d_sphere_certificates : FuncData
  U_sphere_certificates : Fun K "sphere_certificates" "sphere_certificates" s_sphere_certificates f_sphere_certificates d_sphere_certificates
  g_sphere_certificates : mg "sphere_certificates" = some (.ref f_sphere_certificates)
  b_sphere_certificates : Binds K d_sphere_certificates ["counts"] []
  f_counts_with : Addr
  d_counts_with : FuncData
  U_counts_with : Fun K "counts_with" "counts_with" s_counts_with f_counts_with d_counts_with
  g_counts_with : mg "counts_with" = some (.ref f_counts_with)
  b_counts_with : Binds K d_counts_with ["d", "steps"] []
  f_l_deck : Addr
  d_l_deck : FuncData
  U_l_deck : Fun K "_law_deck" "_law_deck" s_l_deck f_l_deck d_l_deck
  g_l_deck : mg "_law_deck" = some (.ref f_l_deck)
  b_l_deck : Binds K d_l_deck ["script"] []
  f_l_draw : Addr
  d_l_draw : FuncData
  U_l_draw : Fun K "_law_draw" "_law_draw" s_l_draw f_l_draw d_l_draw
  g_l_draw : mg "_law_draw" = some (.ref f_l_draw)
  b_l_draw : Binds K d_l_draw ["deck", "many"] []
  f_l_pick : Addr
  d_l_pick : FuncData
  U_l_pick : Fun K "_law_pick" "_law_pick" s_l_pick f_l_pick d_l_pick
  g_l_pick : mg "_law_pick" = some (.ref f_l_pick)
  b_l_pick : Binds K d_l_pick ["deck", "some"] []
  f_l_choose : Addr
  d_l_choose : FuncData
  U_l_choose : Fun K "_law_choose" "_law_choose" s_l_choose f_l_choose d_l_choose
  g_l_choose : mg "_law_choose" = some (.ref f_l_choose)
  b_l_choose : Binds K d_l_choose ["a", "b"] []
  f_l_symmetric : Addr
  d_l_symmetric : FuncData
  U_l_symmetric : Fun K "_law_symmetric" "_law_symmetric" s_l_symmetric f_l_symmetric d_l_symmetric
  g_l_symmetric : mg "_law_symmetric" = some (.ref f_l_symmetric)
  b_l_symmetric : Binds K d_l_symmetric ["g", "d"] []
  f_l_counts : Addr
  d_l_counts : FuncData
  U_l_counts : Fun K "_law_counts" "_law_counts" s_l_counts f_l_counts d_l_counts
  g_l_counts : mg "_law_counts" = some (.ref f_l_counts)
  b_l_counts : Binds K d_l_counts ["h"] []
  f_l_g_rows : Addr
  d_l_g_rows : FuncData
  U_l_g_rows : Fun K "_law_g_rows" "_law_g_rows" s_l_g_rows f_l_g_rows d_l_g_rows
  g_l_g_rows : mg "_law_g_rows" = some (.ref f_l_g_rows)
  b_l_g_rows : Binds K d_l_g_rows ["n", "d"] []
  f_l_told : Addr
  d_l_told : FuncData
  U_l_told : Fun K "_law_told" "_law_told" s_l_told f_l_told d_l_told
  g_l_told : mg "_law_told" = some (.ref f_l_told)
  b_l_told : Binds K d_l_told ["call"] []
  f_l_whole : Addr
  d_l_whole : FuncData
  U_l_whole : Fun K "_law_whole" "_law_whole" s_l_whole f_l_whole d_l_whole
  g_l_whole : mg "_law_whole" = some (.ref f_l_whole)
  b_l_whole : Binds K d_l_whole ["thing", "low"] []
  f_l_is_right : Addr
  d_l_is_right : FuncData
  U_l_is_right : Fun K "_law_is_right" "_law_is_right" s_l_is_right f_l_is_right d_l_is_right
  g_l_is_right : mg "_law_is_right" = some (.ref f_l_is_right)
  b_l_is_right : Binds K d_l_is_right ["n", "d"] []
  f_l_is_row_right : Addr
  d_l_is_row_right : FuncData
  U_l_is_row_right : Fun K "_law_is_row_right" "_law_is_row_right" s_l_is_row_right f_l_is_row_right d_l_is_row_right
  g_l_is_row_right : mg "_law_is_row_right" = some (.ref f_l_is_row_right)
  b_l_is_row_right : Binds K d_l_is_row_right ["counts", "g"] []
  f_l_are_ends_right : Addr
  d_l_are_ends_right : FuncData
  U_l_are_ends_right : Fun K "_law_are_ends_right" "_law_are_ends_right" s_l_are_ends_right f_l_are_ends_right d_l_are_ends_right
  g_l_are_ends_right : mg "_law_are_ends_right" = some (.ref f_l_are_ends_right)
  b_l_are_ends_right : Binds K d_l_are_ends_right ["n", "d"] []
  f_law : Addr
  d_law : FuncData
  U_law : Fun K "law" "law" s_law f_law d_law
  g_law : mg "law" = some (.ref f_law)
  b_law : Binds K d_law ["script"] []
  t_MOST_COUNTS : Tok
  c_MOST_COUNTS : mg "MOST_COUNTS" = some (.int 16 t_MOST_COUNTS)
  n_all : mg "all" = none
  n_any : mg "any" = none
  n_bool : mg "bool" = none
  n_enumerate : mg "enumerate" = none
  n_int : mg "int" = none
  n_isinstance : mg "isinstance" = none
  n_len : mg "len" = none
  n_list : mg "list" = none
  n_max : mg "max" = none
  n_min : mg "min" = none
  n_range : mg "range" = none
  n_repr : mg "repr" = none
  n_sum : mg "sum" = none
  n_tuple : mg "tuple" = none
  n_zip : mg "zip" = none
  comb : mg "comb" = some (.builtin "math.comb")
  C_BadNumber : Addr
  I_BadNumber : Addr
  x_BadNumber : ExTxt K mg "BadNumber" C_BadNumber I_BadNumber
  o_BadNumber : OwnX K C_BadNumber
  C_BadSize : Addr
  I_BadSize : Addr
  x_BadSize : ExTxt K mg "BadSize" C_BadSize I_BadSize
  o_BadSize : OwnX K C_BadSize
  C_BadCounts : Addr
  I_BadCounts : Addr
  x_BadCounts : ExTxt K mg "BadCounts" C_BadCounts I_BadCounts
  o_BadCounts : OwnX K C_BadCounts
  C_BadRow : Addr
  I_BadRow : Addr
  x_BadRow : ExTxt K mg "BadRow" C_BadRow I_BadRow
  o_BadRow : OwnX K C_BadRow
  C_CountError : Addr
  g_CountError : mg "CountError" = some (.ref C_CountError)
  o_CountError : OwnC K C_CountError
  u_BadNumber_CountError : PySem.W.subIn K (.ref C_BadNumber) (.ref C_CountError) = some true
  u_BadNumber_BadSize : PySem.W.subIn K (.ref C_BadNumber) (.ref C_BadSize) = some false
  u_BadNumber_BadCounts : PySem.W.subIn K (.ref C_BadNumber) (.ref C_BadCounts) = some false
  u_BadNumber_BadRow : PySem.W.subIn K (.ref C_BadNumber) (.ref C_BadRow) = some false
  u_BadSize_CountError : PySem.W.subIn K (.ref C_BadSize) (.ref C_CountError) = some true
  u_BadSize_BadNumber : PySem.W.subIn K (.ref C_BadSize) (.ref C_BadNumber) = some false
  u_BadSize_BadCounts : PySem.W.subIn K (.ref C_BadSize) (.ref C_BadCounts) = some false
  u_BadSize_BadRow : PySem.W.subIn K (.ref C_BadSize) (.ref C_BadRow) = some false
  u_BadCounts_CountError : PySem.W.subIn K (.ref C_BadCounts) (.ref C_CountError) = some true
  u_BadCounts_BadNumber : PySem.W.subIn K (.ref C_BadCounts) (.ref C_BadNumber) = some false
  u_BadCounts_BadSize : PySem.W.subIn K (.ref C_BadCounts) (.ref C_BadSize) = some false
  u_BadCounts_BadRow : PySem.W.subIn K (.ref C_BadCounts) (.ref C_BadRow) = some false
  u_BadRow_CountError : PySem.W.subIn K (.ref C_BadRow) (.ref C_CountError) = some true
  u_BadRow_BadNumber : PySem.W.subIn K (.ref C_BadRow) (.ref C_BadNumber) = some false
  u_BadRow_BadSize : PySem.W.subIn K (.ref C_BadRow) (.ref C_BadSize) = some false
  u_BadRow_BadCounts : PySem.W.subIn K (.ref C_BadRow) (.ref C_BadCounts) = some false
  c_greatest_top : Addr
  P_greatest_top : Addr
  cd_greatest_top : d_greatest_top.code = .ref c_greatest_top
  c_l_is_right : Addr
  P_l_is_right : Addr
  cd_l_is_right : d_l_is_right.code = .ref c_l_is_right
  np_greatest_top_l_is_right : P_greatest_top ≠ P_l_is_right
theorem Txt.k_is_integer {K : PySem.W.Frag} {mg : Str → Option Value} (T : Txt K mg) : PySem.W.keepIn K (.ref T.f_is_integer) = true := T.U_is_integer.kp
theorem Txt.k_is_integer_from {K : PySem.W.Frag} {mg : Str → Option Value} (T : Txt K mg) : PySem.W.keepIn K (.ref T.f_is_integer_from) = true := T.U_is_integer_from.kp
theorem Txt.k_are_integers_from {K : PySem.W.Frag} {mg : Str → Option Value} (T : Txt K mg) : PySem.W.keepIn K (.ref T.f_are_integers_from) = true := T.U_are_integers_from.kp
theorem Txt.k_is_one_of {K : PySem.W.Frag} {mg : Str → Option Value} (T : Txt K mg) : PySem.W.keepIn K (.ref T.f_is_one_of) = true := T.U_is_one_of.kp
theorem Txt.k_is_just {K : PySem.W.Frag} {mg : Str → Option Value} (T : Txt K mg) : PySem.W.keepIn K (.ref T.f_is_just) = true := T.U_is_just.kp
theorem Txt.k_cascade_of {K : PySem.W.Frag} {mg : Str → Option Value} (T : Txt K mg) : PySem.W.keepIn K (.ref T.f_cascade_of) = true := T.U_cascade_of.kp
theorem Txt.k_upper_products {K : PySem.W.Frag} {mg : Str → Option Value} (T : Txt K mg) : PySem.W.keepIn K (.ref T.f_upper_products) = true := T.U_upper_products.kp
theorem Txt.k_check_number {K : PySem.W.Frag} {mg : Str → Option Value} (T : Txt K mg) : PySem.W.keepIn K (.ref T.f_check_number) = true := T.U_check_number.kp
theorem Txt.k_check_size {K : PySem.W.Frag} {mg : Str → Option Value} (T : Txt K mg) : PySem.W.keepIn K (.ref T.f_check_size) = true := T.U_check_size.kp
theorem Txt.k_greatest_top {K : PySem.W.Frag} {mg : Str → Option Value} (T : Txt K mg) : PySem.W.keepIn K (.ref T.f_greatest_top) = true := T.U_greatest_top.kp
theorem Txt.k_greatest_within {K : PySem.W.Frag} {mg : Str → Option Value} (T : Txt K mg) : PySem.W.keepIn K (.ref T.f_greatest_within) = true := T.U_greatest_within.kp
theorem Txt.k_moved_sum {K : PySem.W.Frag} {mg : Str → Option Value} (T : Txt K mg) : PySem.W.keepIn K (.ref T.f_moved_sum) = true := T.U_moved_sum.kp
theorem Txt.k_is_counts {K : PySem.W.Frag} {mg : Str → Option Value} (T : Txt K mg) : PySem.W.keepIn K (.ref T.f_is_counts) = true := T.U_is_counts.kp
theorem Txt.k_check_counts {K : PySem.W.Frag} {mg : Str → Option Value} (T : Txt K mg) : PySem.W.keepIn K (.ref T.f_check_counts) = true := T.U_check_counts.kp
theorem Txt.k_check_some_counts {K : PySem.W.Frag} {mg : Str → Option Value} (T : Txt K mg) : PySem.W.keepIn K (.ref T.f_check_some_counts) = true := T.U_check_some_counts.kp
theorem Txt.k_h_row {K : PySem.W.Frag} {mg : Str → Option Value} (T : Txt K mg) : PySem.W.keepIn K (.ref T.f_h_row) = true := T.U_h_row.kp
theorem Txt.k_counts_of_h {K : PySem.W.Frag} {mg : Str → Option Value} (T : Txt K mg) : PySem.W.keepIn K (.ref T.f_counts_of_h) = true := T.U_counts_of_h.kp
theorem Txt.k_begins_with_1 {K : PySem.W.Frag} {mg : Str → Option Value} (T : Txt K mg) : PySem.W.keepIn K (.ref T.f_begins_with_1) = true := T.U_begins_with_1.kp
theorem Txt.k_row_certificates {K : PySem.W.Frag} {mg : Str → Option Value} (T : Txt K mg) : PySem.W.keepIn K (.ref T.f_row_certificates) = true := T.U_row_certificates.kp
theorem Txt.k_moved_row {K : PySem.W.Frag} {mg : Str → Option Value} (T : Txt K mg) : PySem.W.keepIn K (.ref T.f_moved_row) = true := T.U_moved_row.kp
theorem Txt.k_judge_sphere {K : PySem.W.Frag} {mg : Str → Option Value} (T : Txt K mg) : PySem.W.keepIn K (.ref T.f_judge_sphere) = true := T.U_judge_sphere.kp
theorem Txt.k_sphere_holds {K : PySem.W.Frag} {mg : Str → Option Value} (T : Txt K mg) : PySem.W.keepIn K (.ref T.f_sphere_holds) = true := T.U_sphere_holds.kp
theorem Txt.k_least_sphere {K : PySem.W.Frag} {mg : Str → Option Value} (T : Txt K mg) : PySem.W.keepIn K (.ref T.f_least_sphere) = true := T.U_least_sphere.kp
theorem Txt.k_most_sphere {K : PySem.W.Frag} {mg : Str → Option Value} (T : Txt K mg) : PySem.W.keepIn K (.ref T.f_most_sphere) = true := T.U_most_sphere.kp
theorem Txt.k_check_ends {K : PySem.W.Frag} {mg : Str → Option Value} (T : Txt K mg) : PySem.W.keepIn K (.ref T.f_check_ends) = true := T.U_check_ends.kp
theorem Txt.k_sphere_certificates {K : PySem.W.Frag} {mg : Str → Option Value} (T : Txt K mg) : PySem.W.keepIn K (.ref T.f_sphere_certificates) = true := T.U_sphere_certificates.kp
theorem Txt.k_counts_with {K : PySem.W.Frag} {mg : Str → Option Value} (T : Txt K mg) : PySem.W.keepIn K (.ref T.f_counts_with) = true := T.U_counts_with.kp
theorem Txt.k_l_deck {K : PySem.W.Frag} {mg : Str → Option Value} (T : Txt K mg) : PySem.W.keepIn K (.ref T.f_l_deck) = true := T.U_l_deck.kp
theorem Txt.k_l_draw {K : PySem.W.Frag} {mg : Str → Option Value} (T : Txt K mg) : PySem.W.keepIn K (.ref T.f_l_draw) = true := T.U_l_draw.kp
theorem Txt.k_l_pick {K : PySem.W.Frag} {mg : Str → Option Value} (T : Txt K mg) : PySem.W.keepIn K (.ref T.f_l_pick) = true := T.U_l_pick.kp
theorem Txt.k_l_choose {K : PySem.W.Frag} {mg : Str → Option Value} (T : Txt K mg) : PySem.W.keepIn K (.ref T.f_l_choose) = true := T.U_l_choose.kp
theorem Txt.k_l_symmetric {K : PySem.W.Frag} {mg : Str → Option Value} (T : Txt K mg) : PySem.W.keepIn K (.ref T.f_l_symmetric) = true := T.U_l_symmetric.kp
theorem Txt.k_l_counts {K : PySem.W.Frag} {mg : Str → Option Value} (T : Txt K mg) : PySem.W.keepIn K (.ref T.f_l_counts) = true := T.U_l_counts.kp
theorem Txt.k_l_g_rows {K : PySem.W.Frag} {mg : Str → Option Value} (T : Txt K mg) : PySem.W.keepIn K (.ref T.f_l_g_rows) = true := T.U_l_g_rows.kp
theorem Txt.k_l_told {K : PySem.W.Frag} {mg : Str → Option Value} (T : Txt K mg) : PySem.W.keepIn K (.ref T.f_l_told) = true := T.U_l_told.kp
theorem Txt.k_l_whole {K : PySem.W.Frag} {mg : Str → Option Value} (T : Txt K mg) : PySem.W.keepIn K (.ref T.f_l_whole) = true := T.U_l_whole.kp
theorem Txt.k_l_is_right {K : PySem.W.Frag} {mg : Str → Option Value} (T : Txt K mg) : PySem.W.keepIn K (.ref T.f_l_is_right) = true := T.U_l_is_right.kp
theorem Txt.k_l_is_row_right {K : PySem.W.Frag} {mg : Str → Option Value} (T : Txt K mg) : PySem.W.keepIn K (.ref T.f_l_is_row_right) = true := T.U_l_is_row_right.kp
theorem Txt.k_l_are_ends_right {K : PySem.W.Frag} {mg : Str → Option Value} (T : Txt K mg) : PySem.W.keepIn K (.ref T.f_l_are_ends_right) = true := T.U_l_are_ends_right.kp
theorem Txt.k_law {K : PySem.W.Frag} {mg : Str → Option Value} (T : Txt K mg) : PySem.W.keepIn K (.ref T.f_law) = true := T.U_law.kp
end K81

namespace K81
open PySem PySem.Spec PyProof.Rows L2 Hr HrM Evl HrE_thing LamX
theorem small2 {a b : V} : ([a, b] : List V).length ≤ sizeLine := by show 2 ≤ sizeLine; decide
theorem small3 {a b c : V} : ([a, b, c] : List V).length ≤ sizeLine := by show 3 ≤ sizeLine; decide
/-- what told makes of a call without arguments -/
def TTold (CA CB : Addr) (w1 w2 : Str) : (XK → Hp → VK → Prop) → Hp → VK → Prop := fun tl H Q =>
  tl (fun cls d H' => ∃ (dd : Addr) (v : V), d = some dd ∧ H' dd = some (.xd [("thing", v)]) ∧
      ((cls = .ref CA ∧ ∀ l, H' l = none → Q (.ref l) (upd H' l (.tup [.str w1, v, .bl true]))) ∨ (cls = .ref CB ∧ ∀ l, H' l = none → Q (.ref l) (upd H' l (.tup [.str w2, v, .bl true])))))
    H (fun v H' => ([V.str "told", v] : List V).length ≤ sizeLine ∧ ∀ l, H' l = none → Q (.ref l) (upd H' l (.tup [.str "told", v])))
theorem told_to {X : Cx} (T : Txt X.K X.mg) (g : Addr) (cdg : Value) (q : Str) : GivesTo X ["call", "e"] "_law_told" (defScope s_l_told) g cdg (defBody s_l_told) "call" q (TTold T.C_BadNumber T.C_BadSize "BadNumber" "BadSize") := by
  intro f c' s H Q tl act hc h
  refine ⟨_, pss_one (ps_try_named (i := 1) (n := "e") (W0 := fun _ _ _ _ => False)
      (tb := fun W D σ H => ∃ Ech : XK, (∀ cls d σ' H', Ech cls d H' → σ'.length = 2 → W cls d σ' H') ∧ σ[0]? = some (some (.ref f)) ∧ H c' = some (CodeO c' q) ∧ tl Ech H fun v H1 => ([V.str "told", v] : List V).length ≤ sizeLine ∧ ∀ l, H1 l = none → D.rt (.ref l) (upd H1 l (.tup [.str "told", v])))
      rfl rfl sc_l_told.nd rfl rfl LamX.takes0 (fun W pn xe tk _ => ?_)
      (.cons ⟨rfl, by decide, .inl T.x_BadNumber.gC⟩ (fun a ob cls d pn hz hf => pss_one (ps_ret (pe_tup (pa_cons pe_str (pa_cons (pe_getEx T.x_BadNumber hz hf (pv 1)) (pa_cons (pe_callB (call_isX T.o_BadNumber hz hf) (by rfl) T.n_isinstance (by decide +kernel) (pa_cons (pv 1) (pa_cons (pe_glob (v := .ref T.C_CountError) (by rfl) T.g_CountError rfl) pa_nil))) pa_nil)))))) (.cons ⟨rfl, by decide, .inl T.x_BadSize.gC⟩ (fun a ob cls d pn hz hf => pss_one (ps_ret (pe_tup (pa_cons pe_str (pa_cons (pe_getEx T.x_BadSize hz hf (pv 1)) (pa_cons (pe_callB (call_isX T.o_BadSize hz hf) (by rfl) T.n_isinstance (by decide +kernel) (pa_cons (pv 1) (pa_cons (pe_glob (v := .ref T.C_CountError) (by rfl) T.g_CountError rfl) pa_nil))) pa_nil)))))) .nil))), ?_⟩
  · refine ⟨fun pins s' σ H' D I h' => ?_⟩
    obtain ⟨Ech, hW, h1, h2, h3⟩ := h'
    exact PSs.run (pss_one (ps_ret (pe_tup (pa_cons pe_str (pa_cons (act (fun cls d σ' H' => σ'.length = 2 → W cls d σ' H') pn xe Ech _ _ (takes_len tk) hW) pa_nil))))) pins s' σ H' D I ⟨h1, h2, h3⟩
  · refine ⟨_, ?_, rfl, hc, h⟩
    rintro cls d σ' H' ⟨dd, v, rfl, hx, ⟨rfl, z⟩ | ⟨rfl, z⟩⟩ h2
    · refine ⟨true, T.o_BadNumber.toOwnC.exm T.o_BadNumber.me, fun _ a na => ?_, fun e => (nomatch e)⟩
      have e1 : (σ'.set 1 (some (V.ref a)))[1]? = some (some (V.ref a)) := List.getElem?_set_self (by omega)
      refine ⟨_, e1, rfl, rfl, dd, v, rfl, hx, _, e1, T.C_CountError |> V.ref, .ref T.C_CountError, true, dd, _, rfl, rfl, fun u r => r, T.o_CountError.kit T.u_BadNumber_CountError, rfl, hx, small3, z⟩
    · refine ⟨false, T.o_BadNumber.toOwnC.exm T.u_BadSize_BadNumber, fun e => (nomatch e), fun _ => ⟨true, T.o_BadSize.toOwnC.exm T.o_BadSize.me, fun _ a na => ?_, fun e => (nomatch e)⟩⟩
      have e1 : (σ'.set 1 (some (V.ref a)))[1]? = some (some (V.ref a)) := List.getElem?_set_self (by omega)
      refine ⟨_, e1, rfl, rfl, dd, v, rfl, hx, _, e1, T.C_CountError |> V.ref, .ref T.C_CountError, true, dd, _, rfl, rfl, fun u r => r, T.o_CountError.kit T.u_BadSize_CountError, rfl, hx, small3, z⟩
theorem pe_told {X : Cx} (T : Txt X.K X.mg) {TL : List (Addr × Str)} {c P : Addr} {params : Arguments} {body : Expr} {scope : Scope} {t : XK → TE} {p lpos pos : Pos} (hm : (P, X.env.qual ++ "<lambda>") ∈ TL) (hu : ∀ p ∈ TL, p.1 = P → p.2 = X.env.qual ++ "<lambda>") (TB : TabB X.base X.mg c P) (hcode : X.env.code = .ref c) (hr : Room 8 X.A) (hg : Gl X "_law_told") (L : LamS X.env.scope scope) (hdef : defaultsOf params X.env = ([], []))
    (hbind : ∀ (q : Str) (cl : List (Str × Addr)) (pm cv ctv : Value), bindArgs (PySem.W.kla_fn "<lambda>" q params body scope cl pm cv ctv) ⟨[], []⟩ = pure [])
    (hbody : ∀ (A : Around) (outer : List Env) (s : Shared) (H : Hp) (E : XK) (f c' : Addr), Room 6 (A.deeper (lamEnv X scope s.heap.objs.size f c')) → PE (lamCx X A outer s H E scope f c') body (t E)) :
    PE X (.Call (.Name "_law_told" p) [.Lambda params body scope lpos] [] pos) (tLam TL (TTold T.C_BadNumber T.C_BadSize "BadNumber" "BadSize") t) := by
  obtain ⟨oc, od, kV, doc, pm, an, cdv, ct, osl, efd, lk, hcd⟩ := T.U_l_told.ex
  have hb := T.b_l_told
  rw [efd] at hb lk
  exact pe_lamcall (k := 6) hg T.g_l_told T.k_l_told lk hcd hb sc_l_told rfl (.inl rfl) (told_to T _ _ _) TB hcode hm hu hr L hdef hbind hbody
/-- the tables of code objects of this law -/
def lamT (P1 P2 : Addr) : List (Addr × Str) := [(P1, (("greatest_top" : Str) ++ ".<locals>.") ++ "<lambda>"), (P2, (("_law_is_right" : Str) ++ ".<locals>.") ++ "<lambda>")]
abbrev tabs {K : PySem.W.Frag} {mg : Str → Option Value} (T : Txt K mg) : List (Addr × Str) := lamT T.P_greatest_top T.P_l_is_right
section
variable {K : PySem.W.Frag} {mg : Str → Option Value} (T : Txt K mg)
theorem hm_top : (T.P_greatest_top, (("greatest_top" : Str) ++ ".<locals>.") ++ "<lambda>") ∈ tabs T := .head _
theorem hm_right : (T.P_l_is_right, (("_law_is_right" : Str) ++ ".<locals>.") ++ "<lambda>") ∈ tabs T := .tail _ (.head _)
theorem hu_top : ∀ p ∈ tabs T, p.1 = T.P_greatest_top → p.2 = (("greatest_top" : Str) ++ ".<locals>.") ++ "<lambda>"
  | _, .head _, _ => rfl
  | _, .tail _ (.head _), e => absurd e.symm T.np_greatest_top_l_is_right
theorem hu_right : ∀ p ∈ tabs T, p.1 = T.P_l_is_right → p.2 = (("_law_is_right" : Str) ++ ".<locals>.") ++ "<lambda>"
  | _, .head _, e => absurd e T.np_greatest_top_l_is_right
  | _, .tail _ (.head _), _ => rfl
end
end K81

namespace K81
open PySem PySem.Spec PyProof.Rows L2 Hr HrM Evl HrE_thing LamX
theorem ite_no {b : Bool} {A B : Prop} (h : b = false) (k : B) : (if b = true then A else B) := by
  rw [h]
  exact iteF k
theorem ite_yes {b : Bool} {A B : Prop} (h : b = true) (k : A) : (if b = true then A else B) := by
  rw [h]
  exact iteT k
def iV (is : List Int) : List V := is.map V.int
theorem iV_len (is : List Int) : (iV is).length = is.length := List.length_map _
theorem iV_get (is : List Int) (i : Nat) : (iV is)[i]? = (is[i]?).map V.int := List.getElem?_map
theorem iV_at {is : List Int} {i : Nat} {x : V} (h : (iV is)[i]? = some x) : x = .int (is.getD i 0) ∧ i < is.length := by
  rw [iV_get] at h
  cases e : is[i]? with
  | none => rw [e] at h; cases h
  | some a =>
    rw [e] at h
    cases h
    rw [List.getD_eq_getElem?_getD, e]
    exact ⟨rfl, (List.getElem?_eq_some_iff.mp e).1⟩
theorem iV_ix {is : List Int} {i : Nat} (h : i < is.length) : (iV is)[i]? = some (.int (is.getD i 0)) := by
  rw [iV_get, List.getElem?_eq_getElem h, List.getD_eq_getElem?_getD, List.getElem?_eq_getElem h]
  rfl
def rw' (n : Nat) (f : Nat → Int) : List Int := (List.range n).map f
theorem rw_len (n : Nat) (f : Nat → Int) : (rw' n f).length = n := by unfold rw'; rw [List.length_map, List.length_range]
theorem rw_get {n : Nat} {f : Nat → Int} {k : Nat} (h : k < n) : (rw' n f)[k]? = some (f k) := by
  unfold rw'
  rw [List.getElem?_map, List.getElem?_range h]
  rfl
theorem rw_at {n : Nat} {f : Nat → Int} {k : Nat} (h : k < n) : (rw' n f).getD k 0 = f k := by
  rw [List.getD_eq_getElem?_getD, rw_get h]
  rfl
theorem given_rw (n : Nat) (f : Nat → Int) : given n (fun _ => true) (fun i => .int (f i)) = iV (rw' n f) := by
  rw [given_all]
  unfold iV rw'
  rw [List.map_map]
  rfl
theorem rw_sum (n : Nat) (f : Nat → Int) : (rw' n f).sum = sumN n f := sumN_range n f
theorem ccomb' {a b : Nat} (ha : a ≤ 16) (hb : b ≤ 16) : CComb (a : Int) (b : Int) :=
  ⟨by omega, by omega, by omega, by
    rw [comb_nat]
    exact ch_bits (m := 10) (by omega) (by omega) (by decide) (by decide)⟩
/-- the moved row -/
def mvL (s : Int) (xs : List Int) : List Int := rw' xs.length (mvA s (xs.length - 1) fun i => xs.getD i 0)
theorem sg_ix {s : Int} (n : Nat) : atI [V.int 1, V.int s] ((n : Int) % 2 ^ 1) = some (.int (sg s n)) := by
  have e : ((n : Int) % 2 ^ 1) = ((n % 2 : Nat) : Int) := by
    show (n : Int) % 2 = _
    omega
  rw [e]
  unfold sg
  by_cases h : n % 2 = 0
  · rw [if_pos h, h]
    exact atI_nat rfl
  · rw [if_neg h, show n % 2 = 1 by omega]
    exact atI_nat rfl
section
variable {P : Program} {w : World} {K : PySem.W.Frag} {mg : Str → Option Value} {base : Heap}
theorem pow_lt {a b n : Nat} (h : n < 2 ^ a) (hab : a ≤ b) : n < 2 ^ b := Nat.lt_of_lt_of_le h (Nat.pow_le_pow_right (by decide) hab)
def sp_moved : Sp := fun vs H Q _ => ∃ (a : Addr) (xs : List Int) (s : Int), vs = [.ref a, .int s] ∧ H a = some (.tup (iV xs)) ∧ 1 ≤ xs.length ∧ xs.length ≤ 17 ∧ (s = 1 ∨ s = -1) ∧ (∀ i, (xs.getD i 0).natAbs < 2 ^ 900) ∧
  ∀ l H', H l = none → Ex H H' → H' l = some (.tup (iV (mvL s xs))) → Q (.ref l) H'
theorem ok_moved_row (T : Txt K mg) : FnOk P w K mg base CX0 2 T.f_moved_row T.d_moved_row ["row", "sign"] sp_moved := by
  refine T.U_moved_row.ok sc_moved_row (fun vs H Q E h => ?_) (fun cdv A outer s H vs Q E hr h => ?_)
  · obtain ⟨_, _, _, rfl, _⟩ := h
    rfl
  · obtain ⟨a, xs, s, rfl, ha, h1, h17, hs, hx, q⟩ := h
    refine ⟨_, (pss_cons (ps_set (i := 2) sc_moved_row.nd rfl (.inr rfl) (pe_op op_sub (pe_callB call_len_seq (by rfl) T.n_len PySem.boot_len (pa_cons (pv 0) pa_nil)) pe_int))
  (pss_cons (ps_set (i := 3) sc_moved_row.nd rfl (.inr rfl) (pe_tup (pa_cons pe_int (pa_cons (pv 1) pa_nil))))
  (pss_one (ps_ret (pe_callTy call_tuple_of (by rfl) T.n_tuple (by decide +kernel) (pa_cons (pe_lc (own := [("j", 4)]) (g := gName 4) (tt := tYes) rfl sc_moved_row.nd (pi_range1 rfl T.n_range (pa_cons (pe_callB call_len_seq (by rfl) T.n_len PySem.boot_len (pa_cons (pv 0) pa_nil)) pa_nil)) (blkOk_by (own := [("j", 4)]) (N := ["row", "sign", "last", "signs", "j", "i"]) (sc := defScope s_moved_row) (by decide +kernel)) (fun _ _ _ _ _ => pg_name (i := 4) sc_moved_row.nd rfl (Or.inr rfl)) (fun _ _ _ _ _ => pts_nil) (fun _ _ _ _ _ => (pe_callB (r := rSum K) (cr_sum rfl) (by rfl) T.n_sum (by decide +kernel) (pa_cons (pe_lc (own := [("i", 5)]) (g := gName 5) (tt := tYes) rfl sc_moved_row.nd (pi_range1 rfl T.n_range (pa_cons (pe_op op_add (pv 4) pe_int) pa_nil)) (blkOk_nest (own := [("i", 5)]) (by kernel_rfl)) (fun _ _ _ _ _ => pg_name (i := 5) sc_moved_row.nd rfl (Or.inl rfl)) (fun _ _ _ _ _ => pts_nil) (fun _ _ _ _ _ => (pe_op op_mulW (pe_op op_mulW (pe_ix (r := rIxT K) ix_tup (pv 3) (pe_op op_andM (pe_op op_sub (pv 4) (pv 5)) pe_int) (fun _ _ => rfl)) (pe_callBfun cr_comb (by rfl) T.comb (pa_cons (pe_op op_sub (pv 2) (pv 5)) (pa_cons (pe_op op_sub (pv 4) (pv 5)) pa_nil)))) (pe_ix (r := rIxT K) ix_tup (pv 0) (pv 5) (fun _ _ => rfl))))) pa_nil)))) pa_nil)))))), ?_⟩
    have elast : (((iV xs).length : Nat) : Int) - 1 = ((xs.length - 1 : Nat) : Int) := by rw [iV_len]; omega
    refine ⟨_, rfl, a, _, rfl, .inr (SqT.of ha), _, _, rfl, rfl, ?_⟩
    dsimp only
    rw [elast]
    generalize hd : xs.length - 1 = d
    refine ⟨_, rfl, by show 2 ≤ sizeLine; decide, fun g ng => ?_⟩
    have e1 : Ex H (upd H g (.tup [.int 1, .int s])) := Ex.new ng
    dsimp only [gName]
    refine r_ret (r_cb (r_arg ?_))
    refine el_lcR1 (n := (xs.length : Int)) (σ := [some (.ref a), some (.int s), some (.int (d : Nat)), some (.ref g), none, none]) ?_ (by omega) (fun _ => true) (fun j => .int (mvA s d (fun i => xs.getD i 0) j)) (by omega) ?_ _ (Ex.refl _) _ ?_
    · intro H1 e Q1 q1
      refine ⟨_, rfl, a, _, rfl, .inr (SqT.of (e _ _ (e1 _ _ ha))), ?_⟩
      have z := q1 H1 (Ex.refl H1)
      rw [iV_len]
      exact z
    · intro j H2 e hj
      have hj' : j < xs.length := by omega
      refine ⟨[some (.ref a), some (.int s), some (.int (d : Nat)), some (.ref g), some (.int (0 + (j : Int))), none], fun k hk => hk, rfl, et_yes, fun _ => ?_⟩
      have e0 : (0 : Int) + (j : Int) = (j : Int) := Int.zero_add _
      rw [e0]
      intro H3 e3 Q3 q3
      refine r_cb (r_arg ?_)
      refine el_lcR1 (n := ((j + 1 : Nat) : Int)) (σ := [some (.ref a), some (.int s), some (.int (d : Nat)), some (.ref g), some (.int (j : Int)), none]) ?_ (by omega) (fun _ => true) (fun i => .int (tmv s d (fun i => xs.getD i 0) j i)) (by omega) ?_ _ (Ex.refl _) _ ?_
      · intro H4 e4 Q4 q4
        exact ⟨_, rfl, _, _, rfl, rfl, q4 H4 (Ex.refl H4)⟩
      · intro i H4 e4 hi
        have hi' : i ≤ j := by omega
        refine ⟨[some (.ref a), some (.int s), some (.int (d : Nat)), some (.ref g), some (.int (j : Int)), some (.int (0 + (i : Int)))], fun k hk => hk, rfl, et_yes, fun _ => ?_⟩
        have e0 : (0 : Int) + (i : Int) = (i : Int) := Int.zero_add _
        rw [e0]
        intro H5 e5 Q5 q5
        have E5 := e.trans (e3.trans (e4.trans e5))
        have h1' : (j : Int) - (i : Int) = ((j - i : Nat) : Int) := by omega
        have h2' : (d : Int) - (i : Int) = ((d - i : Nat) : Int) := by omega
        refine ⟨_, rfl, _, rfl, _, rfl, _, _, rfl, rfl, _, 1, rfl, rfl, g, _, _, .int (sg s (j - i)), rfl, rfl, SqT.of (E5 _ _ upd_same), ?_, _, rfl, _, rfl, _, _, rfl, rfl, _, rfl, _, rfl, _, _, rfl, rfl, _, _, rfl, ?_, ?_⟩
        · rw [h1']
          exact sg_ix (j - i)
        · rw [h1', h2']
          exact ccomb' (by omega) (by omega)
        · rw [h1', h2', comb_nat]
          have b1 : (sg s (j - i)).natAbs < 2 ^ 1 := by rw [sg_abs hs]; decide
          have b2 : (((ch (d - i) (j - i) : Nat) : Int)).natAbs < 2 ^ 17 := by
            rw [Int.natAbs_natCast]
            exact Nat.lt_of_le_of_lt (ch_two _ _) (Nat.pow_lt_pow_right (by decide) (by omega))
          refine ⟨_, _, rfl, rfl, wide_mul b1 b2 (by decide) (by decide) (by decide), _, rfl, _, rfl, a, _, _, _, rfl, rfl, SqT.of (E5 _ _ (e1 _ _ ha)), atI_nat (iV_ix (by omega)), _, _, rfl, rfl, wide_mul (a := 18) (b := 900) ?_ (hx i) (by decide) (by decide) (by decide), ?_⟩
          · rw [Int.natAbs_mul, sg_abs hs, Nat.one_mul]
            exact pow_lt b2 (by decide)
          · exact q5 H5 (Ex.refl H5)
      · intro p H4 np e4 hp
        rw [given_rw] at hp
        refine ⟨p, _, rfl, SqL.of hp, ?_⟩
        rw [rw_sum]
        exact q3 H4 e4
    · intro p H2 np e hp
      rw [given_rw] at hp
      refine ⟨p, _, rfl, .inl ⟨SqL.of hp, fun l hl => ?_⟩⟩
      have e2 := e1.trans e
      refine q l _ (fresh_back e2 hl) (e2.trans (Ex.new hl)) ?_
      rw [upd_same]
      unfold mvL
      rw [hd]
      rfl
end
end K81

namespace K81
open PySem PySem.Spec PyProof.Rows L2 Hr HrM Evl HrE_thing LamX
section
variable {P : Program} {w : World} {K : PySem.W.Frag} {mg : Str → Option Value} {base : Heap}
theorem FnOk.never {CX : CXT} {k : Nat} {f : Addr} {fd : FuncData} {ps : List Str} : FnOk P w K mg base CX k f fd ps fun _ _ _ _ => False :=
  ⟨fun _ _ _ _ h => h.elim, fun _ _ _ _ _ _ _ _ _ _ _ _ _ h => h.elim⟩
def sp_isint : Sp := fun vs H Q _ => ∃ (v : V) (d : PyData), vs = [v] ∧ Dx H v d ∧ Q (.bl (intD d)) H
theorem ok_is_integer (T : Txt K mg) : FnOk P w K mg base CX0 1 T.f_is_integer T.d_is_integer ["thing"] sp_isint := by
  refine T.U_is_integer.ok sc_is_integer (fun vs H Q E h => ?_) (fun cdv A outer s H vs Q E hr h => ?_)
  · obtain ⟨_, _, rfl, _⟩ := h
    rfl
  · obtain ⟨v, d, rfl, hd, q⟩ := h
    refine ⟨_, (pss_one (ps_ret (pe_and (pe_callB call_isi (by rfl) T.n_isinstance (by decide +kernel) (pa_cons (pv 0) (pa_cons (pe_bltn (v := .ty "int") (u := .type "int") (by rfl) T.n_int (by decide +kernel) rfl) pa_nil))) (pe_one (pe_not (pe_callB call_isi (by rfl) T.n_isinstance (by decide +kernel) (pa_cons (pv 0) (pa_cons (pe_bltn (v := .ty "bool") (u := .type "bool") (by rfl) T.n_bool (by decide +kernel) rfl) pa_nil)))))))), ?_⟩
    obtain ⟨nm, ty, k1, k2, k3⟩ := hd.kit (K := K)
    refine ⟨_, rfl, _, _, _, _, intD d || blD d, rfl, .ty "int", ty, kit_ty k1, _, rfl, ?_⟩
    cases d with
    | int n => exact iteT ⟨_, rfl, _, _, _, _, false, rfl, .ty "bool", ty, kit_ty k2, _, rfl, q⟩
    | bool b => exact iteT ⟨_, rfl, _, _, _, _, true, rfl, .ty "bool", ty, kit_ty k2, _, rfl, q⟩
    | none => exact iteF q
    | str x => exact iteF q
    | list ds => exact iteF q
    | tuple ds => exact iteF q
    | dict es => exact iteF q
def sp_is_integer_from : Sp := fun vs H Q _ => ∃ (v : V) (d : PyData) (l : Int), vs = [v, .int l] ∧ Dx H v d ∧ Q (.bl (fromD l d)) H
theorem ok_is_integer_from (T : Txt K mg) : FnOk P w K mg base CX0 2 T.f_is_integer_from T.d_is_integer_from ["thing", "least"] sp_is_integer_from := by
  have F_is_integer := ok_is_integer (P := P) (w := w) (base := base) T
  refine T.U_is_integer_from.ok sc_is_integer_from (fun vs H Q E h => ?_) (fun cdv A outer s H vs Q E hr h => ?_)
  · obtain ⟨_, _, _, rfl, _⟩ := h
    rfl
  · obtain ⟨v, d, l, rfl, hd, q⟩ := h
    refine ⟨_, (pss_one (ps_ret (pe_and (pe_call F_is_integer (hr.mono (by decide)) (by rfl) T.g_is_integer T.k_is_integer T.b_is_integer .nil pass0 (pa_cons (pv 0) pa_nil)) (pe_one (pe_cmpR op_ge (pv 0) (pv 1) (nomark _)))))), ?_⟩
    refine ⟨_, rfl, v, d, rfl, hd, intD d, rfl, ?_⟩
    cases hd with
    | int n => exact iteT ⟨_, rfl, _, rfl, _, _, rfl, rfl, q⟩
    | bl b => exact iteF q
    | non => exact iteF q
    | str x => exact iteF q
    | lst _ _ => exact iteF q
    | tup _ _ => exact iteF q
    | dct _ _ => exact iteF q
def sp_are_integers_from : Sp := fun vs H Q _ => ∃ (v : V) (d : PyData) (l : Int), vs = [v, .int l] ∧ Dx H v d ∧ (itemsD d).length ≤ 1000 ∧ RetV (.bl (fromsD l d)) H Q
theorem ok_are_integers_from (T : Txt K mg) : FnOk P w K mg base CX0 3 T.f_are_integers_from T.d_are_integers_from ["thing", "least"] sp_are_integers_from := by
  have F_is_integer_from := ok_is_integer_from (P := P) (w := w) (base := base) T
  refine T.U_are_integers_from.ok sc_are_integers_from (fun vs H Q E h => ?_) (fun cdv A outer s H vs Q E hr h => ?_)
  · obtain ⟨_, _, _, rfl, _⟩ := h
    rfl
  · obtain ⟨v, d, l, rfl, hd, hl, q⟩ := h
    refine ⟨_, (pss_one (ps_ret (pe_and (pe_callB call_isi (by rfl) T.n_isinstance (by decide +kernel) (pa_cons (pv 0) (pa_cons (pe_bltn (v := .ty "tuple") (u := .type "tuple") (by rfl) T.n_tuple (by decide +kernel) rfl) pa_nil))) (pe_one (pe_callB (cr_all rfl) (by rfl) T.n_all (by decide +kernel) (pa_cons (pe_lc (own := [("part", 2)]) (g := gName 2) (tt := tYes) rfl sc_are_integers_from.nd (pi_tup (pv 0)) (blkOk_by (own := [("part", 2)]) (N := ["thing", "least", "part"]) (sc := defScope s_are_integers_from) (by decide +kernel)) (fun _ _ _ _ _ => pg_name (i := 2) sc_are_integers_from.nd rfl (Or.inl rfl)) (fun _ _ _ _ _ => pts_nil) (fun _ _ _ _ _ => (pe_call F_is_integer_from (hr.mono (by decide)) (by rfl) T.g_is_integer_from T.k_is_integer_from T.b_is_integer_from .nil pass0 (pa_cons (pv 2) (pa_cons (pv 1) pa_nil))))) pa_nil)))))), ?_⟩
    obtain ⟨nm, ty, k1, k2, k3⟩ := hd.kit (K := K)
    refine ⟨_, rfl, _, _, _, _, tupD d, rfl, .ty "tuple", ty, kit_ty k3, _, rfl, ?_⟩
    cases hd with
    | int n => exact iteF (q H (Ex.refl H))
    | bl b => exact iteF (q H (Ex.refl H))
    | non => exact iteF (q H (Ex.refl H))
    | str x => exact iteF (q H (Ex.refl H))
    | lst _ _ => exact iteF (q H (Ex.refl H))
    | dct _ _ => exact iteF (q H (Ex.refl H))
    | @tup a xs ds ha hA =>
      have hl' : ds.length ≤ 1000 := hl
      refine iteT (r_cb (r_arg ?_))
      have hlen := hA.len
      refine el_lcT (K := K) ha (ev_var rfl) (fun _ => true) (fun i => .bl (fromD l (ds.getD i .none))) (by omega) ?_ H (Ex.refl H) _ ?_
      · intro i x H2 e hx
        obtain ⟨d, hd, td⟩ := hA.at hx
        refine ⟨[some (.ref a), some (.int l), some x], fun k hk => hk, rfl, et_yes, fun _ => ?_⟩
        intro H3 e3 Q3 q3
        have e5 : ds.getD i .none = d := by rw [List.getD_eq_getElem?_getD, hd]; rfl
        rw [e5] at q3
        exact ⟨_, rfl, _, rfl, x, d, l, rfl, td.more (e.trans e3), q3 H3 (Ex.refl H3)⟩
      · intro p H2 np e hp
        rw [given_all, bools] at hp
        refine ⟨p, _, rfl, SqL.of hp, ?_⟩
        rw [hlen, all_get (fromD l) ds _ fun i x hx => by rw [List.getD_eq_getElem?_getD, hx]; rfl]
        exact q H2 e
/-- such values: counts -/
def countsB (d : PyData) : Bool := fromsD 1 d && decide ((itemsD d).length ≤ 16)
def sp_is_counts : Sp := fun vs H Q _ => ∃ (v : V) (d : PyData), vs = [v] ∧ Dx H v d ∧ (itemsD d).length ≤ 1000 ∧ RetV (.bl (countsB d)) H Q
theorem ok_is_counts (T : Txt K mg) : FnOk P w K mg base CX0 4 T.f_is_counts T.d_is_counts ["thing"] sp_is_counts := by
  have F_are_integers_from := ok_are_integers_from (P := P) (w := w) (base := base) T
  refine T.U_is_counts.ok sc_is_counts (fun vs H Q E h => ?_) (fun cdv A outer s H vs Q E hr h => ?_)
  · obtain ⟨_, _, rfl, _⟩ := h
    rfl
  · obtain ⟨v, d, rfl, hd, hl, q⟩ := h
    refine ⟨_, (pss_one (ps_ret (pe_and (pe_call F_are_integers_from (hr.mono (by decide)) (by rfl) T.g_are_integers_from T.k_are_integers_from T.b_are_integers_from .nil pass0 (pa_cons (pv 0) (pa_cons pe_int pa_nil))) (pe_one (pe_cmpR op_le (pe_callB call_len_seq (by rfl) T.n_len PySem.boot_len (pa_cons (pv 0) pa_nil)) (pe_glob (v := .int 16) rfl T.c_MOST_COUNTS ⟨_, rfl⟩) (nomark _)))))), ?_⟩
    refine ⟨_, rfl, v, d, 1, rfl, hd, hl, fun H2 e2 => ⟨fromsD 1 d, rfl, ?_⟩⟩
    cases hf : fromsD 1 d with
    | false =>
      refine iteF ?_
      have : countsB d = false := by unfold countsB; rw [hf]; rfl
      rw [this] at q
      exact q H2 e2
    | true =>
      obtain e := intsD_vals (froms_ints hf)
      cases hd with
      | @tup a xs ds ha hA =>
        refine iteT ⟨_, rfl, a, _, rfl, .inr (SqT.of (e2 _ _ ha)), _, _, rfl, rfl, ?_⟩
        refine q_bl (Q := Q) ?_ (q H2 e2)
        unfold countsB
        rw [hf, hA.len]
        show decide ((ds.length : Int) ≤ 16) = (true && decide (ds.length ≤ 16))
        rw [Bool.true_and]
        exact decide_eq_decide.mpr (by omega)
      | int n => cases e
      | bl b => cases e
      | non => cases e
      | str x => cases e
      | lst _ _ => cases e
      | dct _ _ => cases e
/-- right counts go through -/
def sp_cc : Sp := fun vs H Q _ => ∃ (v : V) (d : PyData), vs = [v] ∧ Dx H v d ∧ (itemsD d).length ≤ 1000 ∧ countsB d = true ∧ RetV .non H Q
theorem ok_check_counts (T : Txt K mg) : FnOk P w K mg base CX0 5 T.f_check_counts T.d_check_counts ["counts"] sp_cc := by
  have F_is_counts := ok_is_counts (P := P) (w := w) (base := base) T
  refine T.U_check_counts.ok sc_check_counts (fun vs H Q E h => ?_) (fun cdv A outer s H vs Q E hr h => ?_)
  · obtain ⟨_, _, rfl, _⟩ := h
    rfl
  · obtain ⟨v, d, rfl, hd, hl, hc, q⟩ := h
    refine ⟨_, (pss_one (ps_if (pt_not (pt_val (pe_call F_is_counts (hr.mono (by decide)) (by rfl) T.g_is_counts T.k_is_counts T.b_is_counts .nil pass0 (pa_cons (pv 0) pa_nil)))) (pss_one ps_never) pss_nil)), ?_⟩
    refine ⟨_, rfl, v, d, rfl, hd, hl, fun H1 e1 => ⟨_, rfl, ?_⟩⟩
    rw [hc]
    exact iteF (q H1 e1)
def sp_csc : Sp := fun vs H Q _ => ∃ (v : V) (d : PyData), vs = [v] ∧ Dx H v d ∧ (itemsD d).length ≤ 1000 ∧ countsB d = true ∧ 1 ≤ (itemsD d).length ∧ RetV .non H Q
theorem ok_check_some_counts (T : Txt K mg) : FnOk P w K mg base CX0 5 T.f_check_some_counts T.d_check_some_counts ["counts"] sp_csc := by
  have F_is_counts := ok_is_counts (P := P) (w := w) (base := base) T
  refine T.U_check_some_counts.ok sc_check_some_counts (fun vs H Q E h => ?_) (fun cdv A outer s H vs Q E hr h => ?_)
  · obtain ⟨_, _, rfl, _⟩ := h
    rfl
  · obtain ⟨v, d, rfl, hd, hl, hc, h1, q⟩ := h
    refine ⟨_, (pss_one (ps_if (PW.pt (pw_or (pt_not (pt_val (pe_call F_is_counts (hr.mono (by decide)) (by rfl) T.g_is_counts T.k_is_counts T.b_is_counts .nil pass0 (pa_cons (pv 0) pa_nil)))) (pw_or1 (pt_cmpR op_eq (pe_callB call_len_seq (by rfl) T.n_len PySem.boot_len (pa_cons (pv 0) pa_nil)) pe_int (nomark _))))) (pss_one ps_never) pss_nil)), ?_⟩
    refine ⟨_, rfl, v, d, rfl, hd, hl, fun H1 e1 => ⟨_, rfl, ?_⟩⟩
    rw [hc]
    have hi := intsD_vals (froms_ints (l := 1) (d := d) (by unfold countsB at hc; rw [Bool.and_eq_true] at hc; exact hc.1))
    cases hd with
    | @tup a xs ds ha hA =>
      have hlen := hA.len
      have h1' : 1 ≤ ds.length := h1
      refine iteF ⟨_, rfl, a, _, rfl, .inr (SqT.of (e1 _ _ ha)), rfl, _, rfl, ?_⟩
      rw [decide_eq_false (show ¬ V.int (xs.length : Int) = V.int 0 from fun z => by injection z with z; omega)]
      exact iteF (q H1 e1)
    | int n => cases hi
    | bl b => cases hi
    | non => cases hi
    | str x => cases hi
    | lst _ _ => cases hi
    | dct _ _ => cases hi
def sp_check_size : Sp := fun vs H Q _ => ∃ n : Int, vs = [.int n] ∧ 1 ≤ n ∧ Q .non H
theorem ok_check_size (T : Txt K mg) : FnOk P w K mg base CX0 3 T.f_check_size T.d_check_size ["size"] sp_check_size := by
  have F_is_integer_from := ok_is_integer_from (P := P) (w := w) (base := base) T
  refine T.U_check_size.ok sc_check_size (fun vs H Q E h => ?_) (fun cdv A outer s H vs Q E hr h => ?_)
  · obtain ⟨n, rfl, _⟩ := h
    rfl
  · obtain ⟨n, rfl, hn, q⟩ := h
    refine ⟨_, (pss_one (ps_if (pt_not (pt_val (pe_call F_is_integer_from (hr.mono (by decide)) (by rfl) T.g_is_integer_from T.k_is_integer_from T.b_is_integer_from .nil pass0 (pa_cons (pv 0) (pa_cons pe_int pa_nil))))) (pss_one ps_never) pss_nil)), ?_⟩
    refine ⟨_, rfl, .int n, .int n, 1, rfl, .int n, _, rfl, ?_⟩
    rw [show fromD 1 (.int n) = true from decide_eq_true hn]
    exact iteF q
/-- an integer from 0 on goes through, anything else is handed out -/
def Out (C : Addr) (v : V) (H : Hp) (E : XK) : Prop := ∀ dd H2, H dd = none → Ex H H2 → H2 dd = some (.xd [("thing", v)]) → E (.ref C) (some dd) H2
def sp_check_number (C : Addr) : Sp := fun vs H Q E => ∃ (v : V) (d : PyData), vs = [v] ∧ Dx H v d ∧ (fromD 0 d = true → Q .non H) ∧ (fromD 0 d = false → Out C v H E)
theorem ok_check_number (T : Txt K mg) : FnOk P w K mg base (L2.CX P w) 3 T.f_check_number T.d_check_number ["number"] (sp_check_number T.C_BadNumber) := by
  have F_is_integer_from := ok_is_integer_from (P := P) (w := w) (base := base) T
  have x_BadNumber := T.x_BadNumber
  refine T.U_check_number.okX sc_check_number (fun vs H Q E h => ?_) (fun cdv A outer s H vs Q E hr h => ?_)
  · obtain ⟨_, _, rfl, _⟩ := h
    rfl
  · obtain ⟨v, d, rfl, hd, q1, q2⟩ := h
    refine ⟨_, (pss_one (ps_if (pt_not (pt_val (pe_call F_is_integer_from (hr.mono (by decide)) (by rfl) T.g_is_integer_from T.k_is_integer_from T.b_is_integer_from .nil pass0 (pa_cons (pv 0) (pa_cons pe_int pa_nil))))) (pss_one (ps_raiseEx rfl x_BadNumber hr (takes_of rfl rfl rfl rfl) (pa_cons (pv 0) pa_nil))) pss_nil)), ?_⟩
    refine ⟨_, rfl, v, d, 0, rfl, hd, _, rfl, ?_⟩
    cases hc : fromD 0 d with
    | true => exact iteF (q1 hc)
    | false =>
      refine iteT ⟨_, rfl, v, rfl, fun dd nd => ?_⟩
      exact q2 hc dd _ nd (Ex.new nd) upd_same
/-- what check_ends does of any two values -/
def EndsOf (CN CS : Addr) (v u : V) (d e : PyData) (H : Hp) (E : XK) (q : Int → Int → Prop) : Prop :=
  (fromD 0 d = false → Out CN v H E) ∧ (fromD 0 d = true → fromD 2 e = false → Out CS u H E) ∧
  (∀ n m : Int, d = .int n → e = .int m → 0 ≤ n → 2 ≤ m → (n ≤ m → Out CN v H E) ∧ (m < n → q n m))
def sp_check_ends (CN CS : Addr) : Sp := fun vs H Q E => ∃ (v u : V) (d e : PyData), vs = [v, u] ∧ Dx H v d ∧ Dx H u e ∧ EndsOf CN CS v u d e H E fun _ _ => Q .non H
theorem ok_check_ends (T : Txt K mg) : FnOk P w K mg base (L2.CX P w) 4 T.f_check_ends T.d_check_ends ["n", "d"] (sp_check_ends T.C_BadNumber T.C_BadSize) := by
  have F_is_integer_from := ok_is_integer_from (P := P) (w := w) (base := base) T
  have F_check_number := ok_check_number (P := P) (w := w) (base := base) T
  have x_BadNumber := T.x_BadNumber
  have x_BadSize := T.x_BadSize
  refine T.U_check_ends.okX sc_check_ends (fun vs H Q E h => ?_) (fun cdv A outer s H vs Q E hr h => ?_)
  · obtain ⟨_, _, _, _, rfl, _⟩ := h
    rfl
  · obtain ⟨v, u, d, e, rfl, hd, he, q1, q2, q3⟩ := h
    refine ⟨_, (pss_cons (ps_expr (pe_call F_check_number (hr.mono (by decide)) (by rfl) T.g_check_number T.k_check_number T.b_check_number .nil (passOn (takes_of rfl rfl rfl rfl)) (pa_cons (pv 0) pa_nil)))
  (pss_cons (ps_if (pt_not (pt_val (pe_call F_is_integer_from (hr.mono (by decide)) (by rfl) T.g_is_integer_from T.k_is_integer_from T.b_is_integer_from .nil pass0 (pa_cons (pv 1) (pa_cons pe_int pa_nil))))) (pss_one (ps_raiseEx rfl x_BadSize hr (takes_of rfl rfl rfl rfl) (pa_cons (pv 1) pa_nil))) pss_nil)
  (pss_one (ps_if (pt_cmpR op_le (pv 0) (pv 1) (nomark _)) (pss_one (ps_raiseEx rfl x_BadNumber hr (takes_of rfl rfl rfl rfl) (pa_cons (pv 0) pa_nil))) pss_nil)))), ?_⟩
    refine ⟨_, rfl, v, d, rfl, hd, fun hc => ?_, q1⟩
    refine ⟨_, rfl, u, e, 2, rfl, he, _, rfl, ?_⟩
    cases hc2 : fromD 2 e with
    | false =>
      refine iteT ⟨_, rfl, u, rfl, fun dd nd => ?_⟩
      exact q2 hc hc2 dd _ nd (Ex.new nd) upd_same
    | true =>
      refine iteF ?_
      dsimp only [tNext]
      obtain ⟨n, rfl, hn⟩ : ∃ n : Int, d = .int n ∧ 0 ≤ n := by
        cases d with
        | int n => exact ⟨n, rfl, of_decide_eq_true hc⟩
        | _ => cases hc
      obtain ⟨m, rfl, hm⟩ : ∃ n : Int, e = .int n ∧ 2 ≤ n := by
        cases e with
        | int n => exact ⟨n, rfl, of_decide_eq_true hc2⟩
        | _ => cases hc2
      obtain ⟨a, b⟩ := q3 n m rfl rfl hn hm
      cases hd
      cases he
      refine ⟨_, rfl, _, rfl, _, _, rfl, rfl, _, rfl, ite2 (fun e5 => ?_) (fun e5 => ?_)⟩
      · refine ⟨_, rfl, .int n, rfl, fun dd nd => ?_⟩
        exact a (of_decide_eq_true e5) dd _ nd (Ex.new nd) upd_same
      · refine b ?_
        by_cases z : n ≤ m
        · exact absurd (decide_eq_true z) e5
        · omega
end
end K81

set_option exponentiation.threshold 3000
namespace K81
open PySem PySem.Spec PyProof.Rows L2 Hr HrM Evl HrE_thing LamX RZ
theorem countsB_of {ns : List Int} (hl : ns.length ≤ 16) (hp : ∀ x ∈ ns, 1 ≤ x) : countsB (.tuple (ns.map .int)) = true := by
  unfold countsB
  rw [Bool.and_eq_true]
  refine ⟨?_, decide_eq_true (by show (ns.map PyData.int).length ≤ 16; rw [List.length_map]; exact hl)⟩
  show (ns.map PyData.int).all (fromD 1) = true
  rw [List.all_map, List.all_eq_true]
  intro x hx
  exact decide_eq_true (hp x hx)
theorem items_map (ns : List Int) : (itemsD (.tuple (ns.map .int))).length = ns.length := by
  show (ns.map PyData.int).length = _
  rw [List.length_map]
theorem cons_at (n : Int) (ns : List Int) (h : ∀ i, (ns.getD i 0).natAbs < 2 ^ 300) (hn : n.natAbs < 2 ^ 300) (i : Nat) : ((n :: ns).getD i 0).natAbs < 2 ^ 900 := by
  cases i with
  | zero => exact pow_lt hn (by decide)
  | succ i => exact pow_lt (h i) (by decide)
section
variable {P : Program} {w : World} {K : PySem.W.Frag} {mg : Str → Option Value} {base : Heap}
def sp_h_row : Sp := fun vs H Q _ => ∃ (a : Addr) (ns : List Int), vs = [.ref a] ∧ H a = some (.tup (iV ns)) ∧ 1 ≤ ns.length ∧ ns.length ≤ 16 ∧ (∀ x ∈ ns, 1 ≤ x) ∧ (∀ i, (ns.getD i 0).natAbs < 2 ^ 300) ∧
  ∀ l H', H l = none → Ex H H' → H' l = some (.tup (iV (mvL (-1) (1 :: ns)))) → Q (.ref l) H'
theorem ok_h_row (T : Txt K mg) : FnOk P w K mg base CX0 6 T.f_h_row T.d_h_row ["counts"] sp_h_row := by
  have F_check_counts := ok_check_counts (P := P) (w := w) (base := base) T
  have F_moved_row := ok_moved_row (P := P) (w := w) (base := base) T
  refine T.U_h_row.ok sc_h_row (fun vs H Q E h => ?_) (fun cdv A outer s H vs Q E hr h => ?_)
  · obtain ⟨_, _, rfl, _⟩ := h
    rfl
  · obtain ⟨a, ns, rfl, ha, h1, hl, hp, hv, q⟩ := h
    refine ⟨_, (pss_cons (ps_expr (pe_call F_check_counts (hr.mono (by decide)) (by rfl) T.g_check_counts T.k_check_counts T.b_check_counts .nil pass0 (pa_cons (pv 0) pa_nil)))
  (pss_one (ps_ret (pe_call F_moved_row (hr.mono (by decide)) (by rfl) T.g_moved_row T.k_moved_row T.b_moved_row .nil pass0 (pa_cons (pe_op op_catA (pe_tup (pa_cons pe_int pa_nil)) (pv 0)) (pa_cons (pe_un un_neg pe_int) pa_nil)))))), ?_⟩
    refine ⟨_, rfl, .ref a, .tuple (ns.map .int), rfl, .tup ha (DxA.ints ns), by rw [items_map]; omega, countsB_of hl hp, fun H1 e1 => ?_⟩
    refine ⟨by show 1 ≤ sizeLine; decide, fun c nc => ?_⟩
    have e2 : Ex H1 (upd H1 c (.tup [.int 1])) := Ex.new nc
    have done : ∀ p H2, Ex H1 H2 → H2 p = some (.tup (iV (1 :: ns))) → sp_moved [.ref p, .int (-1)] H2 Q (fun _ _ _ => True) := by
      intro p H2 e2 hc2
      refine ⟨p, 1 :: ns, -1, rfl, hc2, by rw [List.length_cons]; omega, by rw [List.length_cons]; omega, .inr rfl, cons_at 1 _ hv (by decide), fun l H3 nl e3 hl3 => ?_⟩
      exact q l H3 (fresh_back (e1.trans e2) nl) ((e1.trans e2).trans e3) hl3
    refine ⟨_, rfl, c, a, _, _, rfl, rfl, SqT.of upd_same, SqT.of (e2 _ _ (e1 _ _ ha)), ?_, (fun z => nomatch z), (fun _ hz => ?_), (fun _ _ p np => ?_)⟩
    · rw [iV_len]
      exact Nat.le_trans (show 1 + ns.length ≤ 17 by omega) (by decide)
    · have := congrArg List.length hz
      rw [iV_len] at this
      simp only [List.length_nil] at this
      omega
    · exact ⟨1, rfl, done p _ (e2.trans (Ex.new np)) upd_same⟩
/-- the same leaves, laid alike -/
inductive Sm (H : Hp) : Nat → V → V → Prop
  | int {n : Nat} (i : Int) : Sm H n (.int i) (.int i)
  | str {n : Nat} (x : Str) : Sm H n (.str x) (.str x)
  | tup {n : Nat} {a b : Addr} {xs ys : List V} : H a = some (.tup xs) → H b = some (.tup ys) → xs.length = ys.length → xs.length ≤ 40 → (∀ (i : Nat) (x y : V), xs[i]? = some x → ys[i]? = some y → Sm H n x y) → Sm H (n + 1) (.ref a) (.ref b)
theorem Sm.more {H H' : Hp} (e : Ex H H') {n : Nat} {v u : V} (h : Sm H n v u) : Sm H' n v u := by
  induction h with
  | int i => exact .int i
  | str x => exact .str x
  | tup ha hb hl h40 _ ih => exact .tup (e _ _ ha) (e _ _ hb) hl h40 ih
theorem Sm.ints {H : Hp} {n : Nat} {a b : Addr} {ns : List Int} (ha : H a = some (.tup (iV ns))) (hb : H b = some (.tup (iV ns))) (hl : ns.length ≤ 40) : Sm H (n + 1) (.ref a) (.ref b) :=
  .tup ha hb rfl (by rw [iV_len]; exact hl) fun i x y hx hy => by
    rw [hx] at hy
    cases hy
    obtain ⟨rfl, _⟩ := iV_at hx
    exact .int _
def sp_just (n : Nat) : Sp := fun vs H Q _ => ∃ v u, vs = [v, u] ∧ Sm H n v u ∧ RetV (.bl true) H Q
theorem all_yes (n : Nat) : ((List.range n).map fun _ => true).all id = true := by
  rw [List.all_eq_true]
  intro x hx
  obtain ⟨_, _, rfl⟩ := List.mem_map.mp hx
  rfl
theorem ok_just0 (T : Txt K mg) : FnOk P w K mg base CX0 2 T.f_is_just T.d_is_just ["thing", "right"] (sp_just 0) := by
  have F_is_just : FnOk P w K mg base CX0 1 T.f_is_just T.d_is_just ["thing", "right"] _ := FnOk.never
  refine T.U_is_just.ok sc_is_just (fun vs H Q E h => ?_) (fun cdv A outer s H vs Q E hr h => ?_)
  · obtain ⟨_, _, rfl, _⟩ := h
    rfl
  · obtain ⟨v, u, rfl, sm, q⟩ := h
    refine ⟨_, (pss_cons (ps_if (pt_val (pe_callB call_isi (by rfl) T.n_isinstance (by decide +kernel) (pa_cons (pv 1) (pa_cons (pe_bltn (v := .ty "tuple") (u := .type "tuple") (by rfl) T.n_tuple (by decide +kernel) rfl) pa_nil)))) (pss_cons (ps_if (PW.pt (pw_or (pt_not (pt_val (pe_callB call_isi (by rfl) T.n_isinstance (by decide +kernel) (pa_cons (pv 0) (pa_cons (pe_bltn (v := .ty "tuple") (u := .type "tuple") (by rfl) T.n_tuple (by decide +kernel) rfl) pa_nil))))) (pw_or1 (pt_cmpR op_ne (pe_callB call_len_seq (by rfl) T.n_len PySem.boot_len (pa_cons (pv 0) pa_nil)) (pe_callB call_len_seq (by rfl) T.n_len PySem.boot_len (pa_cons (pv 1) pa_nil)) (nomark _))))) (pss_one (ps_ret pe_bl)) pss_nil)
  (pss_one (ps_ret (pe_callB (cr_all rfl) (by rfl) T.n_all (by decide +kernel) (pa_cons (pe_lc (own := [("part", 2), ("other", 3)]) (g := gTup K 2 (gCons (gName 2) (gCons (gName 3) (gNil)))) (tt := tYes) rfl sc_is_just.nd (pi_zipA (by rfl) T.n_zip (pa_cons (pv 0) (pa_cons (pv 1) pa_nil))) (blkOk_by (own := [("part", 2), ("other", 3)]) (N := ["thing", "right", "part", "other"]) (sc := defScope s_is_just) (by decide +kernel)) (fun _ _ _ _ _ => pg_tup rfl (pgs_cons (pg_name (i := 2) sc_is_just.nd rfl (Or.inl rfl)) (pgs_cons (pg_name (i := 3) sc_is_just.nd rfl (Or.inl rfl)) pgs_nil))) (fun _ _ _ _ _ => pts_nil) (fun _ _ _ _ _ => (pe_call F_is_just (hr.mono (by decide)) (by rfl) T.g_is_just T.k_is_just T.b_is_just .nil pass0 (pa_cons (pv 2) (pa_cons (pv 3) pa_nil))))) pa_nil))))) pss_nil)
  (pss_one (ps_ret (pe_and (pe_not (pe_callB call_isi (by rfl) T.n_isinstance (by decide +kernel) (pa_cons (pv 0) (pa_cons (pe_bltn (v := .ty "bool") (u := .type "bool") (by rfl) T.n_bool (by decide +kernel) rfl) pa_nil)))) (pe_one (pe_cmpR op_eq (pv 0) (pv 1) (nomark _))))))), ?_⟩
    cases sm with
    | int i =>
      refine ⟨_, rfl, _, _, _, _, false, rfl, .ty "tuple", .base (.int i), kit_ty (by decide +kernel), false, rfl, iteF ?_⟩
      refine ⟨_, rfl, _, _, _, _, false, rfl, .ty "bool", .base (.int i), kit_ty (by decide +kernel), _, rfl, ?_⟩
      exact ⟨true, rfl, iteT ⟨_, rfl, _, rfl, rfl, q_bl (Q := Q) (decide_eq_true rfl) (q H (Ex.refl H))⟩⟩
    | str x =>
      refine ⟨_, rfl, _, _, _, _, false, rfl, .ty "tuple", .base (.str x), kit_ty (by decide +kernel), false, rfl, iteF ?_⟩
      refine ⟨_, rfl, _, _, _, _, false, rfl, .ty "bool", .base (.str x), kit_ty (by decide +kernel), _, rfl, ?_⟩
      exact ⟨true, rfl, iteT ⟨_, rfl, _, rfl, rfl, q_bl (Q := Q) (decide_eq_true rfl) (q H (Ex.refl H))⟩⟩
theorem ok_just1 (T : Txt K mg) : FnOk P w K mg base CX0 3 T.f_is_just T.d_is_just ["thing", "right"] (sp_just 1) := by
  have F_is_just : FnOk P w K mg base CX0 2 T.f_is_just T.d_is_just ["thing", "right"] (sp_just 0) := ok_just0 (P := P) (w := w) (base := base) T
  refine T.U_is_just.ok sc_is_just (fun vs H Q E h => ?_) (fun cdv A outer s H vs Q E hr h => ?_)
  · obtain ⟨_, _, rfl, _⟩ := h
    rfl
  · obtain ⟨v, u, rfl, sm, q⟩ := h
    refine ⟨_, (pss_cons (ps_if (pt_val (pe_callB call_isi (by rfl) T.n_isinstance (by decide +kernel) (pa_cons (pv 1) (pa_cons (pe_bltn (v := .ty "tuple") (u := .type "tuple") (by rfl) T.n_tuple (by decide +kernel) rfl) pa_nil)))) (pss_cons (ps_if (PW.pt (pw_or (pt_not (pt_val (pe_callB call_isi (by rfl) T.n_isinstance (by decide +kernel) (pa_cons (pv 0) (pa_cons (pe_bltn (v := .ty "tuple") (u := .type "tuple") (by rfl) T.n_tuple (by decide +kernel) rfl) pa_nil))))) (pw_or1 (pt_cmpR op_ne (pe_callB call_len_seq (by rfl) T.n_len PySem.boot_len (pa_cons (pv 0) pa_nil)) (pe_callB call_len_seq (by rfl) T.n_len PySem.boot_len (pa_cons (pv 1) pa_nil)) (nomark _))))) (pss_one (ps_ret pe_bl)) pss_nil)
  (pss_one (ps_ret (pe_callB (cr_all rfl) (by rfl) T.n_all (by decide +kernel) (pa_cons (pe_lc (own := [("part", 2), ("other", 3)]) (g := gTup K 2 (gCons (gName 2) (gCons (gName 3) (gNil)))) (tt := tYes) rfl sc_is_just.nd (pi_zipA (by rfl) T.n_zip (pa_cons (pv 0) (pa_cons (pv 1) pa_nil))) (blkOk_by (own := [("part", 2), ("other", 3)]) (N := ["thing", "right", "part", "other"]) (sc := defScope s_is_just) (by decide +kernel)) (fun _ _ _ _ _ => pg_tup rfl (pgs_cons (pg_name (i := 2) sc_is_just.nd rfl (Or.inl rfl)) (pgs_cons (pg_name (i := 3) sc_is_just.nd rfl (Or.inl rfl)) pgs_nil))) (fun _ _ _ _ _ => pts_nil) (fun _ _ _ _ _ => (pe_call F_is_just (hr.mono (by decide)) (by rfl) T.g_is_just T.k_is_just T.b_is_just .nil pass0 (pa_cons (pv 2) (pa_cons (pv 3) pa_nil))))) pa_nil))))) pss_nil)
  (pss_one (ps_ret (pe_and (pe_not (pe_callB call_isi (by rfl) T.n_isinstance (by decide +kernel) (pa_cons (pv 0) (pa_cons (pe_bltn (v := .ty "bool") (u := .type "bool") (by rfl) T.n_bool (by decide +kernel) rfl) pa_nil)))) (pe_one (pe_cmpR op_eq (pv 0) (pv 1) (nomark _))))))), ?_⟩
    cases sm with
    | int i =>
      refine ⟨_, rfl, _, _, _, _, false, rfl, .ty "tuple", .base (.int i), kit_ty (by decide +kernel), false, rfl, iteF ?_⟩
      refine ⟨_, rfl, _, _, _, _, false, rfl, .ty "bool", .base (.int i), kit_ty (by decide +kernel), _, rfl, ?_⟩
      exact ⟨true, rfl, iteT ⟨_, rfl, _, rfl, rfl, q_bl (Q := Q) (decide_eq_true rfl) (q H (Ex.refl H))⟩⟩
    | str x =>
      refine ⟨_, rfl, _, _, _, _, false, rfl, .ty "tuple", .base (.str x), kit_ty (by decide +kernel), false, rfl, iteF ?_⟩
      refine ⟨_, rfl, _, _, _, _, false, rfl, .ty "bool", .base (.str x), kit_ty (by decide +kernel), _, rfl, ?_⟩
      exact ⟨true, rfl, iteT ⟨_, rfl, _, rfl, rfl, q_bl (Q := Q) (decide_eq_true rfl) (q H (Ex.refl H))⟩⟩
    | @tup _ a b xs ys ha hb hl h40 hS =>
      refine ⟨_, rfl, _, _, _, _, true, rfl, .ty "tuple", .base (.tup hb), kit_ty (by decide +kernel), true, rfl, iteT ?_⟩
      refine ⟨_, rfl, _, _, _, _, true, rfl, .ty "tuple", .base (.tup ha), kit_ty (by decide +kernel), true, rfl, iteF ?_⟩
      refine ⟨_, rfl, a, _, rfl, .inr (SqT.of ha), _, rfl, b, _, rfl, .inr (SqT.of hb), rfl, _, rfl, ?_⟩
      rw [decide_eq_true (show V.int (xs.length : Int) = V.int (ys.length : Int) by rw [hl])]
      refine iteF ?_
      dsimp only [tNext]
      refine r_ret (r_cb (r_arg ?_))
      refine el_lcZ (K := K) (xs := xs) (ys := ys) (fun H1 e1 Q1 q1 => ⟨_, rfl, _, rfl, q1 a b H1 (Ex.refl H1) (e1 _ _ ha) (e1 _ _ hb)⟩) (fun _ => true) (fun _ => .bl true) (by omega) ?_ H (Ex.refl H) _ ?_
      · intro i x y TT H2 e2 hx hy hTT
        refine ⟨[some (.ref a), some (.ref b), some x, some y], fun k hk => two_get (K := K) (i := 2) (j := 3) hTT hk, rfl, et_yes, fun _ => ?_⟩
        intro H3 e3 Q3 q3
        exact ⟨_, rfl, _, rfl, x, y, rfl, (hS i x y hx hy).more (e2.trans e3), q3⟩
      · intro p H2 np e hp
        rw [given_all, bools] at hp
        refine ⟨p, _, rfl, SqL.of hp, ?_⟩
        rw [all_yes]
        exact q H2 e
theorem ok_just2 (T : Txt K mg) : FnOk P w K mg base CX0 4 T.f_is_just T.d_is_just ["thing", "right"] (sp_just 2) := by
  have F_is_just : FnOk P w K mg base CX0 3 T.f_is_just T.d_is_just ["thing", "right"] (sp_just 1) := ok_just1 (P := P) (w := w) (base := base) T
  refine T.U_is_just.ok sc_is_just (fun vs H Q E h => ?_) (fun cdv A outer s H vs Q E hr h => ?_)
  · obtain ⟨_, _, rfl, _⟩ := h
    rfl
  · obtain ⟨v, u, rfl, sm, q⟩ := h
    refine ⟨_, (pss_cons (ps_if (pt_val (pe_callB call_isi (by rfl) T.n_isinstance (by decide +kernel) (pa_cons (pv 1) (pa_cons (pe_bltn (v := .ty "tuple") (u := .type "tuple") (by rfl) T.n_tuple (by decide +kernel) rfl) pa_nil)))) (pss_cons (ps_if (PW.pt (pw_or (pt_not (pt_val (pe_callB call_isi (by rfl) T.n_isinstance (by decide +kernel) (pa_cons (pv 0) (pa_cons (pe_bltn (v := .ty "tuple") (u := .type "tuple") (by rfl) T.n_tuple (by decide +kernel) rfl) pa_nil))))) (pw_or1 (pt_cmpR op_ne (pe_callB call_len_seq (by rfl) T.n_len PySem.boot_len (pa_cons (pv 0) pa_nil)) (pe_callB call_len_seq (by rfl) T.n_len PySem.boot_len (pa_cons (pv 1) pa_nil)) (nomark _))))) (pss_one (ps_ret pe_bl)) pss_nil)
  (pss_one (ps_ret (pe_callB (cr_all rfl) (by rfl) T.n_all (by decide +kernel) (pa_cons (pe_lc (own := [("part", 2), ("other", 3)]) (g := gTup K 2 (gCons (gName 2) (gCons (gName 3) (gNil)))) (tt := tYes) rfl sc_is_just.nd (pi_zipA (by rfl) T.n_zip (pa_cons (pv 0) (pa_cons (pv 1) pa_nil))) (blkOk_by (own := [("part", 2), ("other", 3)]) (N := ["thing", "right", "part", "other"]) (sc := defScope s_is_just) (by decide +kernel)) (fun _ _ _ _ _ => pg_tup rfl (pgs_cons (pg_name (i := 2) sc_is_just.nd rfl (Or.inl rfl)) (pgs_cons (pg_name (i := 3) sc_is_just.nd rfl (Or.inl rfl)) pgs_nil))) (fun _ _ _ _ _ => pts_nil) (fun _ _ _ _ _ => (pe_call F_is_just (hr.mono (by decide)) (by rfl) T.g_is_just T.k_is_just T.b_is_just .nil pass0 (pa_cons (pv 2) (pa_cons (pv 3) pa_nil))))) pa_nil))))) pss_nil)
  (pss_one (ps_ret (pe_and (pe_not (pe_callB call_isi (by rfl) T.n_isinstance (by decide +kernel) (pa_cons (pv 0) (pa_cons (pe_bltn (v := .ty "bool") (u := .type "bool") (by rfl) T.n_bool (by decide +kernel) rfl) pa_nil)))) (pe_one (pe_cmpR op_eq (pv 0) (pv 1) (nomark _))))))), ?_⟩
    cases sm with
    | int i =>
      refine ⟨_, rfl, _, _, _, _, false, rfl, .ty "tuple", .base (.int i), kit_ty (by decide +kernel), false, rfl, iteF ?_⟩
      refine ⟨_, rfl, _, _, _, _, false, rfl, .ty "bool", .base (.int i), kit_ty (by decide +kernel), _, rfl, ?_⟩
      exact ⟨true, rfl, iteT ⟨_, rfl, _, rfl, rfl, q_bl (Q := Q) (decide_eq_true rfl) (q H (Ex.refl H))⟩⟩
    | str x =>
      refine ⟨_, rfl, _, _, _, _, false, rfl, .ty "tuple", .base (.str x), kit_ty (by decide +kernel), false, rfl, iteF ?_⟩
      refine ⟨_, rfl, _, _, _, _, false, rfl, .ty "bool", .base (.str x), kit_ty (by decide +kernel), _, rfl, ?_⟩
      exact ⟨true, rfl, iteT ⟨_, rfl, _, rfl, rfl, q_bl (Q := Q) (decide_eq_true rfl) (q H (Ex.refl H))⟩⟩
    | @tup _ a b xs ys ha hb hl h40 hS =>
      refine ⟨_, rfl, _, _, _, _, true, rfl, .ty "tuple", .base (.tup hb), kit_ty (by decide +kernel), true, rfl, iteT ?_⟩
      refine ⟨_, rfl, _, _, _, _, true, rfl, .ty "tuple", .base (.tup ha), kit_ty (by decide +kernel), true, rfl, iteF ?_⟩
      refine ⟨_, rfl, a, _, rfl, .inr (SqT.of ha), _, rfl, b, _, rfl, .inr (SqT.of hb), rfl, _, rfl, ?_⟩
      rw [decide_eq_true (show V.int (xs.length : Int) = V.int (ys.length : Int) by rw [hl])]
      refine iteF ?_
      dsimp only [tNext]
      refine r_ret (r_cb (r_arg ?_))
      refine el_lcZ (K := K) (xs := xs) (ys := ys) (fun H1 e1 Q1 q1 => ⟨_, rfl, _, rfl, q1 a b H1 (Ex.refl H1) (e1 _ _ ha) (e1 _ _ hb)⟩) (fun _ => true) (fun _ => .bl true) (by omega) ?_ H (Ex.refl H) _ ?_
      · intro i x y TT H2 e2 hx hy hTT
        refine ⟨[some (.ref a), some (.ref b), some x, some y], fun k hk => two_get (K := K) (i := 2) (j := 3) hTT hk, rfl, et_yes, fun _ => ?_⟩
        intro H3 e3 Q3 q3
        exact ⟨_, rfl, _, rfl, x, y, rfl, (hS i x y hx hy).more (e2.trans e3), q3⟩
      · intro p H2 np e hp
        rw [given_all, bools] at hp
        refine ⟨p, _, rfl, SqL.of hp, ?_⟩
        rw [all_yes]
        exact q H2 e
end
end K81

namespace K81
open PySem PySem.Spec PyProof.Rows L2 Hr HrM Evl
section
variable {P : Program} {w : World} {K : PySem.W.Frag} {mg : Str → Option Value} {base : Heap}
def sp_draw : Sp := fun vs H Q _ => ∃ (G : Hp) (d : Addr) (m : Int), vs = [.ref d, .int m] ∧ 1 ≤ m ∧ m ≤ 1000000000 ∧ Dk G d H ∧ ∀ (r : Int) (H' : Hp), 0 ≤ r → r < m → Dk G d H' → Q (.int r) H'
theorem ok_draw (T : Txt K mg) : FnOk P w K mg base CX0 2 T.f_l_draw T.d_l_draw ["deck", "many"] sp_draw := by
  refine T.U_l_draw.ok sc_l_draw (fun vs H Q E h => ?_) (fun cdv A outer s H vs Q E hr h => ?_)
  · obtain ⟨_, _, _, rfl, _⟩ := h
    rfl
  · obtain ⟨G, d, m, rfl, hm1, hm2, ⟨c, cells, mx, n, k⟩, q⟩ := h
    refine ⟨_, (pss_cons (ps_dput (hu_of hr) (pv 0) pe_str (pe_op op_add (pe_dget (hu_of hr) (pv 0) pe_str (fun _ _ => rfl)) pe_int) rfl)
  (pss_cons (ps_set (i := 2) sc_l_draw.nd rfl (.inl rfl) (pe_op op_add (pe_dget (hu_of hr) (pv 0) pe_str (fun _ _ => rfl)) (pe_op op_mul pe_int (pe_dget (hu_of hr) (pv 0) pe_str (fun _ _ => rfl)))))
  (pss_cut (ps_if (pt_cmpR (op_neD hr.units) (pe_dget (hu_of hr) (pv 0) pe_str (fun _ _ => rfl)) (pe_lst pa_nil) (nomark _)) (pss_cons (ps_set (i := 3) sc_l_draw.nd rfl (.inl rfl) (pe_bm0 PySem.F.plainAttrs_list PySem.F.slot_list_pop PySem.F.type_list_pop mt_pop (pe_dget (hu_of hr) (pv 0) pe_str (fun _ _ => rfl))))
  (pss_cons (ps_if (pt_cmpR op_ge (pv 3) (pe_op op_pow pe_int pe_int) (nomark _)) (pss_cons (ps_expr (pe_bm PySem.F.plainAttrs_list PySem.F.slot_list_append PySem.F.type_list_append mt_append (pe_dget (hu_of hr) (pv 0) pe_str (fun _ _ => rfl)) (pa_cons (pe_op op_fdivN (pv 3) (pe_callB (call_max2 rfl) (by rfl) T.n_max (by decide +kernel) (pa_cons pe_int (pa_cons (pv 1) pa_nil)))) pa_nil)))
  (pss_one (ps_ret (pe_op op_modN (pe_callTy call_int1 (by rfl) T.n_int (by decide +kernel) (pa_cons (pv 3) pa_nil)) (pv 1))))) pss_nil)
  (pss_one (ps_set (i := 2) sc_l_draw.nd rfl (.inl rfl) (pe_op op_add (pv 2) (pe_op op_modN (pe_callTy call_int1 (by rfl) T.n_int (by decide +kernel) (pa_cons (pv 3) pa_nil)) pe_int)))))) pss_nil)
  (pss_cut (ps_set (i := 2) sc_l_draw.nd rfl (.inl rfl) (pe_op op_modN (pe_callTy call_int1 (by rfl) T.n_int (by decide +kernel) (pa_cons (pe_op op_add (pe_op op_mul (pv 2) pe_int) pe_int) pa_nil)) pe_int))
  (pss_cons (ps_set (i := 2) sc_l_draw.nd rfl (.inl rfl) (pe_op op_modN (pe_callTy call_int1 (by rfl) T.n_int (by decide +kernel) (pa_cons (pe_op op_add (pe_op op_add (pe_op op_mul (pv 2) (pv 2)) (pe_op op_mul pe_int (pe_dget (hu_of hr) (pv 0) pe_str (fun _ _ => rfl)))) pe_int) pa_nil)) pe_int))
  (pss_cons (ps_set (i := 2) sc_l_draw.nd rfl (.inl rfl) (pe_op op_modN (pe_callTy call_int1 (by rfl) T.n_int (by decide +kernel) (pa_cons (pe_op op_mul (pv 2) pe_int) pa_nil)) pe_int))
  (pss_one (ps_ret (pe_op op_modN (pe_callTy call_int1 (by rfl) T.n_int (by decide +kernel) (pa_cons (pe_op op_fdivN (pv 2) pe_int) pa_nil)) (pv 1)))))))))), ?_⟩
    -- deck['draws'] = deck['draws'] + 1
    refine ⟨_, rfl, d, _, rfl, k.gdraws, _, _, rfl, rfl, _, rfl, d, _, rfl, k.pdraws, ?_⟩
    have k1 := k.draw (n' := n + 1)
    -- number = ..
    refine ⟨_, rfl, d, _, rfl, k1.gmixed, _, rfl, d, _, rfl, k1.gdraws, _, _, rfl, rfl, .inl ⟨by decide, by decide⟩, _, _, rfl, rfl, ?_⟩
    refine ⟨fun σ' H' => ∃ (z : Int) (y : Option V), σ' = [some (.ref d), some (.int m), some (.int z), y] ∧ Dk G d H', ?_, ?_⟩
    · -- if deck['cells'] != []
      refine ⟨_, rfl, d, _, rfl, k1.gcells, Nat.zero_le _, fun e ne => ?_⟩
      have k2 := k1.new (o := .lst []) ne
      refine ⟨izD cells, izD [], izD_dp (SqL.of k2.hc), izD_dp (xs := []) (SqL.of upd_same), izD_shaped _, izD_shaped _, _, rfl, ?_⟩
      rw [izD_eqv_nil]
      cases hx : cells with
      | nil =>
        refine iteF ⟨_, none, rfl, c, cells, mx, n + 1, k2⟩
      | cons x0 xs0 =>
        rw [← hx]
        have he : (!cells.isEmpty) = true := by rw [hx]; rfl
        rw [he]
        have hpos : cells.length ≠ 0 := by rw [hx]; exact Nat.succ_ne_zero _
        refine iteT ?_
        obtain ⟨x, hlast⟩ : ∃ x, cells[cells.length - 1]? = some x := ⟨_, List.getElem?_eq_getElem (by omega)⟩
        have k3 := k2.cell (xs := cells.dropLast) (by rw [List.length_dropLast]; have := k2.len; omega)
        refine ⟨_, rfl, d, _, rfl, k2.gcells, .inl ⟨rfl, _, SqL.of k2.hc⟩, c, _, .int x, rfl, rfl, k2.hc, ?_, ?_⟩
        · rw [List.length_map, List.getElem?_map, hlast]
          rfl
        rw [← List.map_dropLast]
        -- if cell >= 10 ** 18
        refine ⟨_, rfl, _, _, rfl, rfl, ⟨by decide, by decide, by decide⟩, _, _, rfl, rfl, _, rfl, ite2 (fun _ => ?_) (fun _ => ?_)⟩
        · refine ⟨_, rfl, d, _, rfl, k3.gcells, .inl ⟨rfl, _, SqL.of k3.hc⟩, _, rfl, _, rfl, _, _, rfl, _, _, rfl, rfl, ?_, c, _, _, rfl, rfl, k3.hc, ?_, ?_⟩
          · constructor
            · split <;> omega
            · split <;> omega
          · rw [List.length_map, List.length_dropLast]
            exact small1000 (by have := k2.len; omega)
          · have k4 : DkC G d c (cells.dropLast ++ [x.fdiv (if m > 2 then m else 2)]) mx (n + 1) _ := k3.cell (by rw [List.length_append, List.length_singleton, List.length_dropLast]; have := k2.len; omega)
            rw [List.map_append] at k4
            refine ⟨_, rfl, .inl ⟨_, rfl, _, rfl, _, _, rfl, rfl, by show m ≠ 0; omega, ?_⟩⟩
            exact q _ _ (Int.fmod_nonneg_of_pos _ (by omega)) (Int.fmod_lt_of_pos _ (by omega)) ⟨c, _, mx, n + 1, k4⟩
        · refine ⟨_, rfl, _, rfl, .inl ⟨_, rfl, _, _, rfl, rfl, by simp, _, _, rfl, rfl, _, _, rfl, ?_⟩⟩
          exact ⟨c, _, mx, n + 1, k3⟩
    · rintro σ' H' ⟨z, y, rfl, c, cells, mx, n, k⟩
      refine ⟨fun σ' H' => ∃ v : Int, 0 ≤ v ∧ v < 2147483647 ∧ σ' = [some (.ref d), some (.int m), some (.int v), y] ∧ Dk G d H', ?_, ?_⟩
      · refine ⟨_, rfl, _, _, rfl, rfl, .inr ⟨by decide, by decide⟩, _, _, rfl, rfl, .inl ⟨_, rfl, _, _, rfl, rfl, by simp, ?_⟩⟩
        exact ⟨_, Int.fmod_nonneg_of_pos _ (by decide), Int.fmod_lt_of_pos _ (by decide), rfl, c, cells, mx, n, k⟩
      rintro σ' H' ⟨v, hv0, hv1, rfl, c, cells, mx, n, k⟩
      refine ⟨_, rfl, _, rfl, _, _, rfl, rfl, .inl ⟨by omega, by omega⟩, _, rfl, d, _, rfl, k.gdraws, _, _, rfl, rfl, .inl ⟨by decide, by decide⟩, _, _, rfl, rfl, _, _, rfl, rfl, .inl ⟨_, rfl, _, _, rfl, rfl, by simp, ?_⟩⟩
      refine ⟨_, rfl, _, _, rfl, rfl, .inr ⟨by decide, by decide⟩, .inl ⟨_, rfl, _, _, rfl, rfl, by simp, ?_⟩⟩
      refine ⟨_, rfl, _, _, rfl, rfl, ⟨by decide, by decide⟩, .inl ⟨_, rfl, _, rfl, _, _, rfl, rfl, by show m ≠ 0; omega, ?_⟩⟩
      exact q _ _ (Int.fmod_nonneg_of_pos _ (by omega)) (Int.fmod_lt_of_pos _ (by omega)) ⟨c, cells, mx, n, k⟩

theorem cut_ints (ns : List Int) (lo hi : Option Int) : ∃ zs : List Int, cutV (ns.map V.int) lo hi = zs.map V.int ∧ zs.length ≤ ns.length := by
  refine ⟨(ns.drop (HT.sIx (ns.map V.int).length 0 lo)).take (HT.sIx (ns.map V.int).length (ns.map V.int).length hi - HT.sIx (ns.map V.int).length 0 lo), ?_, ?_⟩
  · unfold cutV
    rw [List.map_take, List.map_drop]
  · rw [List.length_take, List.length_drop]
    omega
def sp_deck : Sp := fun vs H Q _ => ∃ (K : PySem.W.Frag) (a : Addr) (ns : List Int), vs = [.ref a] ∧ SqL K H a (ns.map V.int) ∧ ns.length ≤ 63 ∧ ∀ d H', Dk H d H' → Q (.ref d) H'
def sp_deckK (K : PySem.W.Frag) : Sp := fun vs H Q _ => ∃ (a : Addr) (ns : List Int), vs = [.ref a] ∧ SqL K H a (ns.map V.int) ∧ ns.length ≤ 63 ∧ ∀ d H', Dk H d H' → Q (.ref d) H'
theorem ok_deck (T : Txt K mg) : FnOk P w K mg base CX0 2 T.f_l_deck T.d_l_deck ["script"] (sp_deckK K) := by
  refine T.U_l_deck.ok sc_l_deck (fun vs H Q E h => ?_) (fun cdv A outer s H vs Q E hr h => ?_)
  · obtain ⟨_, _, rfl, _⟩ := h
    rfl
  · obtain ⟨a, ns, rfl, hS, hl, q⟩ := h
    refine ⟨_, (pss_cons (ps_set (i := 1) sc_l_deck.nd rfl (.inl rfl) pe_int)
  (pss_cons (ps_for PassesOwn.never rfl (pi_list (pe_slice sl_list (pv 0) po_none (po_some pe_int))) (pg_name (i := 2) sc_l_deck.nd rfl (.inl rfl)) (pss_one (ps_set (i := 1) sc_l_deck.nd rfl (.inl rfl) (pe_op op_modN (pe_callTy call_int1 (by rfl) T.n_int (by decide +kernel) (pa_cons (pe_op op_add (pe_op op_add (pe_op op_mul (pv 1) pe_int) (pe_op op_modN (pe_callTy call_int1 (by rfl) T.n_int (by decide +kernel) (pa_cons (pv 2) pa_nil)) pe_int)) pe_int) pa_nil)) pe_int))))
  (pss_one (ps_ret (pe_disp (pps_cons pe_str (pe_revL (pe_callTy call_list_of (by rfl) T.n_list (by decide +kernel) (pa_cons (pe_slice sl_list (pv 0) po_none (po_some pe_int)) pa_nil))) (pps_cons pe_str (pv 1) (pps_cons pe_str pe_int pps_nil))) (by rfl) (by rfl) (fun z => by cases z) (by decide)))))), ?_⟩
    refine ⟨_, rfl, 63, rfl, a, _, rfl, hS, fun p np => ?_⟩
    obtain ⟨zs, ez, hz⟩ := cut_ints ns none (some 63)
    rw [ez]
    have e1 : Ex H (upd H p (.lst (zs.map V.int))) := Ex.new np
    have hp : SqL K (upd H p (.lst (zs.map V.int))) p (zs.map V.int) := SqL.of upd_same
    refine ⟨p, rfl, ⟨_, hp⟩, ?_⟩
    refine for_list (xs := zs.map V.int) (fun i σ' H' => ∃ (m : Int) (y : Option V), 0 ≤ m ∧ m < 2147483587 ∧ σ' = [some (.ref a), some (.int m), y] ∧ H' = upd H p (.lst (zs.map V.int))) ⟨_, none, by decide, by decide, rfl, rfl⟩ ?_ ?_ ?_
    · rintro i σ' H' _ ⟨_, _, _, _, _, rfl⟩
      exact hp
    · rintro i x σ' H' hx ⟨m, y, hm0, hm1, rfl, rfl⟩
      obtain ⟨z, rfl⟩ : ∃ z : Int, x = .int z := by
        rw [List.getElem?_map] at hx
        cases h : zs[i]? with
        | none => rw [h] at hx; cases hx
        | some z => rw [h] at hx; cases hx; exact ⟨z, rfl⟩
      refine ⟨_, rfl, _, _, rfl, rfl, .inr ⟨by decide, by decide⟩, _, rfl, .inl ⟨_, rfl, _, _, rfl, rfl, by simp, _, _, rfl, rfl, _, _, rfl, rfl, .inl ⟨_, rfl, _, _, rfl, rfl, by simp, ?_⟩⟩⟩
      exact ⟨_, _, Int.fmod_nonneg_of_pos _ (by decide), Int.fmod_lt_of_pos _ (by decide), rfl, rfl⟩
    · rintro σ' H' ⟨m, y, hm0, hm1, rfl, rfl⟩
      refine fun d nd => ?_
      have e2 := e1.trans (Ex.new (o := .dK []) nd)
      refine ⟨_, rfl, 63, rfl, a, _, rfl, ex_l e2 hS, fun l1 n1 => ?_⟩
      rw [ez]
      refine ⟨l1, _, rfl, .inl (SqL.of upd_same), fun l2 n2 => ⟨l2, _, rfl, SqL.of upd_same, fun c nc => ⟨_, rfl, ?_⟩⟩⟩
      have dc : d ≠ c := ne_of_none ((Ex.new n2) _ _ ((Ex.new n1) _ _ upd_same)) nc
      have hd : (upd (upd (upd (upd (upd H p (.lst (zs.map V.int))) d (.dK [])) l1 (.lst (zs.map V.int))) l2 (.lst (zs.map V.int))) c (.lst (zs.map V.int).reverse)) d = some (.dK []) :=
        (Ex.new nc) _ _ ((Ex.new n2) _ _ ((Ex.new n1) _ _ upd_same))
      refine ⟨hd, [(kC, .ref c), (kM, .int m), (kD, .int 0)], rfl, by show 3 ≤ 15; decide, ?_⟩
      rw [deck_made]
      have ex : Ex H (upd (upd (upd (upd (upd H p (.lst (zs.map V.int))) d (.dK [])) l1 (.lst (zs.map V.int))) l2 (.lst (zs.map V.int))) c (.lst (zs.map V.int).reverse)) :=
        e2.trans ((Ex.new n1).trans ((Ex.new n2).trans (Ex.new nc)))
      refine q d _ ⟨c, zs.reverse, m, 0, Ex.mut ex (fresh_back e1 nd), fresh_back e1 nd, fresh_back (e2.trans ((Ex.new n1).trans (Ex.new n2))) nc, upd_same, ?_, by rw [List.length_reverse]; omega, hm0, by omega⟩
      rw [upd_ne dc.symm, upd_same, List.map_reverse]

def sp_pick : Sp := fun vs H Q _ => ∃ (G : Hp) (d s : Addr) (xs : List V), vs = [.ref d, .ref s] ∧ Dk G d H ∧ G s = some (.lst xs) ∧ 1 ≤ xs.length ∧ xs.length ≤ 1000 ∧ ∀ (i : Nat) (v : V) (H' : Hp), xs[i]? = some v → Dk G d H' → Q v H'
theorem ok_pick (T : Txt K mg) : FnOk P w K mg base CX0 3 T.f_l_pick T.d_l_pick ["deck", "some"] sp_pick := by
  have F_l_draw := ok_draw (P := P) (w := w) (base := base) T
  refine T.U_l_pick.ok sc_l_pick (fun vs H Q E h => ?_) (fun cdv A outer s H vs Q E hr h => ?_)
  · obtain ⟨_, _, _, _, rfl, _⟩ := h
    rfl
  · obtain ⟨G, d, s, xs, rfl, k, hs, h1, h2, q⟩ := h
    refine ⟨_, (pss_one (ps_ret (pe_ix ix_list (pv 1) (pe_call F_l_draw (hr.mono (by decide)) (by rfl) T.g_l_draw T.k_l_draw T.b_l_draw .nil pass0 (pa_cons (pv 0) (pa_cons (pe_callB call_len_seq (by rfl) T.n_len PySem.boot_len (pa_cons (pv 1) pa_nil)) pa_nil))) (fun _ _ => rfl)))), ?_⟩
    refine ⟨_, rfl, _, rfl, _, rfl, s, xs, rfl, .inl (SqL.of (k.get hs)), G, d, _, rfl, by omega, by omega, k, fun r H' r0 r1 k' => ?_⟩
    obtain ⟨i, rfl⟩ : ∃ i : Nat, r = (i : Int) := ⟨r.toNat, by omega⟩
    have hi : i < xs.length := by omega
    refine ⟨s, xs, _, _, rfl, rfl, SqL.of (k'.get hs), atI_nat (List.getElem?_eq_getElem hi), ?_⟩
    exact q i _ H' (List.getElem?_eq_getElem hi) k'


/-! drawn beside tables -/
def sp_drawT (T : List (Addr × Str)) : Sp := fun vs H Q _ => ∃ (G : Hp) (d : Addr) (m : Int), vs = [.ref d, .int m] ∧ 1 ≤ m ∧ m ≤ 1000000000 ∧ DkT T G d H ∧ ∀ (r : Int) (H' : Hp), 0 ≤ r → r < m → DkT T G d H' → Q (.int r) H'
theorem drawT {T : List (Addr × Str)} : ∀ vs H Q E, sp_drawT T vs H Q E → sp_draw vs H Q E := fun _ _ _ _ ⟨G, d, m, e, h1, h2, k, q⟩ => by
  obtain ⟨Gf, kf, _, back, _⟩ := k.full
  exact ⟨Gf, d, m, e, h1, h2, kf, fun r H' r0 r1 k' => q r H' r0 r1 (back k')⟩
def sp_pickT (T : List (Addr × Str)) : Sp := fun vs H Q _ => ∃ (G : Hp) (d t : Addr) (xs : List V), vs = [.ref d, .ref t] ∧ DkT T G d H ∧ G t = some (.lst xs) ∧ 1 ≤ xs.length ∧ xs.length ≤ 1000 ∧ ∀ (i : Nat) (v : V) (H' : Hp), xs[i]? = some v → DkT T G d H' → Q v H'
theorem pickT {T : List (Addr × Str)} : ∀ vs H Q E, sp_pickT T vs H Q E → sp_pick vs H Q E := fun _ _ _ _ ⟨G, d, t, xs, e, k, ht, h1, h2, q⟩ => by
  obtain ⟨Gf, kf, _, back, old⟩ := k.full
  exact ⟨Gf, d, t, xs, e, kf, old _ _ ht, h1, h2, fun i v H' hv k' => q i v H' hv (back k')⟩

end
end K81

namespace K81
open PySem PySem.Spec PyProof.Rows L2 Hr HrM Evl LamX
section
variable {P : Program} {w : World} {K : PySem.W.Frag} {mg : Str → Option Value} {base : Heap}
/-! the greatest top -/
theorem fromD_nat (N : Nat) : fromD 0 (.int (N : Int)) = true := by
  show decide ((0 : Int) ≤ (N : Int)) = true
  exact decide_eq_true (Int.natCast_nonneg N)
theorem ch_more {s : Nat} (hs : 1 ≤ s) : ∀ l : Nat, l + 1 ≤ ch (s + l) s
  | 0 => by
    show 1 ≤ ch s s
    rw [ch_self]
    exact Nat.le_refl 1
  | l + 1 => by
    have ih := ch_more hs l
    obtain ⟨t, rfl⟩ : ∃ t, s = t + 1 := ⟨s - 1, by omega⟩
    have h1 := ch_pos (n := t + 1 + l) (k := t) (by omega)
    have e := ch_succ (t + 1 + l) t
    have e2 : t + 1 + (l + 1) = t + 1 + l + 1 := by omega
    rw [e2, e]
    omega
theorem ccomb {a b m : Nat} (h : a < 2 ^ m) (hb : b ≤ 20) (hm : 0 < m) (hm2 : m ≤ 5000) : CComb (a : Int) (b : Int) :=
  ⟨by omega, by omega, by omega, by rw [comb_nat]; exact ch_bits h hb hm hm2⟩
theorem comb_add (s h : Nat) : PySem.W.mcComb ((s : Int) + (h : Int)) (s : Int) = ((ch (s + h) s : Nat) : Int) := by
  rw [← Int.natCast_add]
  exact comb_nat _ _
theorem ccomb_add {s h N : Nat} (hs : s ≤ 17) (hN : N < 2 ^ 1900) (hh : h ≤ 2 * N + 2) : CComb ((s : Int) + (h : Int)) (s : Int) := by
  rw [← Int.natCast_add]
  refine ccomb (m := 1903) ?_ (by omega) (by decide) (by decide)
  have e : 2 ^ 1903 = 8 * 2 ^ 1900 := by exact Nat.pow_add 2 3 1900
  have h2 : 2 ^ 10 ≤ 2 ^ 1900 := Nat.pow_le_pow_right (by decide) (by decide)
  rw [e]
  generalize 2 ^ 1900 = z at *
  omega
/-- the greatest place by a growing count G from s on, the count told by tl -/
def TTw : V → V → (V → Hp → VK → Prop) → Hp → VK → Prop := fun v1 v2 tl H Q => ∃ (N s : Nat) (G : Nat → Nat), v1 = .int N ∧ v2 = .int s ∧ 1 ≤ N ∧ G 0 ≤ N ∧ (∀ x, x + 1 ≤ G x) ∧
  (∀ x, x ≤ 2 * N + 2 → ∀ Q' : VK, Q' (.int ((G x : Nat) : Int)) H → tl (.int ((s : Int) + (x : Int))) H Q') ∧ ∀ l : Nat, G l ≤ N → N < G (l + 1) → Q (.int ((s : Int) + (l : Int))) H
theorem within_to {X : Cx} (T : Txt X.K X.mg) (g : Addr) (cdg : Value) (q : Str) : Gives1 X ["number", "least", "count_at", "low", "high", "middle"] "greatest_within" (defScope s_greatest_within) g cdg (defBody s_greatest_within) "count_at" q TTw := by
  intro f c' s0 H Q v1 v2 tl act hr hc h
  obtain ⟨N, s, G, rfl, rfl, hN1, hG0, hG, htl, q⟩ := h
  refine ⟨_, (pss_cons (ps_set (i := 3) sc_greatest_within.nd rfl (.inl rfl) pe_int)
  (pss_cons (ps_set (i := 4) sc_greatest_within.nd rfl (.inl rfl) pe_int)
  (pss_cons (ps_while PassesOwn.never (pt_cmpR op_le (act _ _ _ _ (pa_cons (pe_op op_add (pv 1) (pv 4)) pa_nil) (fun _ => rfl)) (pv 0) (nomark _)) (pss_cons (ps_set (i := 3) sc_greatest_within.nd rfl (.inl rfl) (pv 4))
  (pss_one (ps_set (i := 4) sc_greatest_within.nd rfl (.inl rfl) (pe_op op_mul pe_int (pv 4))))))
  (pss_cons (ps_while PassesOwn.never (pt_cmpR op_gt (pe_op op_sub (pv 4) (pv 3)) pe_int (nomark _)) (pss_cons (ps_set (i := 5) sc_greatest_within.nd rfl (.inl rfl) (pe_op op_fdivN (pe_op op_add (pv 3) (pv 4)) pe_int))
  (pss_one (ps_if (pt_cmpR op_le (act _ _ _ _ (pa_cons (pe_op op_add (pv 1) (pv 5)) pa_nil) (fun _ => rfl)) (pv 0) (nomark _)) (pss_one (ps_set (i := 3) sc_greatest_within.nd rfl (.inl rfl) (pv 5))) (pss_one (ps_set (i := 4) sc_greatest_within.nd rfl (.inl rfl) (pv 5)))))))
  (pss_one (ps_ret (pe_op op_add (pv 1) (pv 3)))))))), ?_⟩
  refine ⟨fun m σ H' => ∃ l h : Nat, σ = [some (.int N), some (.int s), some (.ref f), some (.int l), some (.int h), none] ∧ H' = H ∧ m = 2 * N + 1 - h ∧ 1 ≤ h ∧ h ≤ 2 * N ∧ l < h ∧ G l ≤ N,
    ⟨_, 0, 1, rfl, rfl, rfl, by omega, by omega, by omega, hG0⟩, ?_⟩
  rintro m σ H' ⟨l, h, rfl, rfl, rfl, h1, h2, h3, h4⟩
  refine ⟨rfl, _, rfl, _, rfl, _, _, rfl, rfl, _, rfl, hc, htl h (by omega) _ ?_⟩
  refine ⟨_, rfl, _, _, rfl, rfl, _, rfl, ite2 (fun e => ?_) (fun e => ?_)⟩
  · have e' : G h ≤ N := by have := of_decide_eq_true e; omega
    have hm := hG h
    refine ⟨fun σ' H'' => ∃ l' h' : Nat, σ' = [some (.int N), some (.int s), some (.ref f), some (.int l'), some (.int h'), none] ∧ H'' = H' ∧ 1 ≤ h' ∧ h' ≤ 2 * N ∧ l' < h' ∧ G l' ≤ N ∧ h < h', ?_, ?_⟩
    · rintro σ' H'' ⟨l', h', rfl, rfl, g1, g2, g3, g4, g5⟩
      exact ⟨2 * N + 1 - h', by omega, l', h', rfl, rfl, rfl, g1, g2, g3, g4⟩
    · refine ⟨_, rfl, _, rfl, _, _, rfl, rfl, .inl ⟨by decide, by decide⟩, ?_⟩
      exact ⟨h, 2 * h, rfl, rfl, by omega, by omega, by omega, e', by omega⟩
  · have e' : N < G h := by
      by_cases z : G h ≤ N
      · exact absurd (decide_eq_true (by omega)) e
      · omega
    refine ⟨fun m σ H'' => ∃ (l' h' : Nat) (y : Option V), σ = [some (.int N), some (.int s), some (.ref f), some (.int l'), some (.int h'), y] ∧ H'' = H' ∧ m = h' - l' ∧ l' < h' ∧ h' ≤ 2 * N ∧ G l' ≤ N ∧ N < G h',
      ⟨_, l, h, none, rfl, rfl, rfl, h3, h2, h4, e'⟩, ?_⟩
    rintro m σ H'' ⟨l, h, y, rfl, rfl, rfl, g1, g2, g3, g4⟩
    refine ⟨_, rfl, _, rfl, _, _, rfl, rfl, _, _, rfl, rfl, _, rfl, ite2 (fun e => ?_) (fun e => ?_)⟩
    · have e2 : 1 < h - l := by have := of_decide_eq_true e; omega
      refine ⟨fun σ' H2 => ∃ (l' h' : Nat) (y : Option V), σ' = [some (.int N), some (.int s), some (.ref f), some (.int l'), some (.int h'), y] ∧ H2 = H'' ∧ l' < h' ∧ h' ≤ 2 * N ∧ G l' ≤ N ∧ N < G h' ∧ h' - l' < h - l, ?_, ?_⟩
      · rintro σ' H2 ⟨l', h', y', rfl, rfl, k1, k2, k3, k4, k5⟩
        exact ⟨h' - l', k5, l', h', y', rfl, rfl, rfl, k1, k2, k3, k4⟩
      · obtain ⟨c, hcc, hc1, hc2⟩ : ∃ c : Nat, ((l : Int) + (h : Int)).fdiv 2 = (c : Int) ∧ l < c ∧ c < h := by
          rw [Int.fdiv_eq_ediv_of_nonneg _ (by decide)]
          exact ⟨(l + h) / 2, by omega, by omega, by omega⟩
        refine ⟨_, rfl, _, rfl, _, _, rfl, rfl, _, _, rfl, rfl, ⟨by decide, by decide⟩, ?_⟩
        simp only [hcc]
        refine ⟨rfl, _, rfl, _, rfl, _, _, rfl, rfl, _, rfl, hc, htl c (by omega) _ ?_⟩
        refine ⟨_, rfl, _, _, rfl, rfl, _, rfl, ite2 (fun e3 => ?_) (fun e3 => ?_)⟩
        · have e4 : G c ≤ N := by have := of_decide_eq_true e3; omega
          exact ⟨_, rfl, c, h, _, rfl, rfl, hc2, g2, e4, g4, by omega⟩
        · have e4 : N < G c := by
            by_cases z : G c ≤ N
            · exact absurd (decide_eq_true (by omega)) e3
            · omega
          exact ⟨_, rfl, l, c, _, rfl, rfl, hc1, by omega, g3, e4, by omega⟩
    · have e2 : h = l + 1 := by
        by_cases z : 1 < h - l
        · exact absurd (decide_eq_true (by omega)) e
        · omega
      subst e2
      exact ⟨_, rfl, _, rfl, _, _, rfl, rfl, q l g3 g4⟩
theorem pe_within {X : Cx} (T : Txt X.K X.mg) {TL : List (Addr × Str)} {c P : Addr} {b : Str} {params : Arguments} {body e1 e2 : Expr} {scope : Scope} {t1 t2 tb : TE} {p lpos pos : Pos} (hm : (P, X.env.qual ++ "<lambda>") ∈ TL) (hu : ∀ p ∈ TL, p.1 = P → p.2 = X.env.qual ++ "<lambda>") (TB : TabB X.base X.mg c P) (hcode : X.env.code = .ref c) (hr : Room 2 X.A) (hg : Gl X "greatest_within") (L : LamS1 X.env.scope scope b) (hb : b ∉ X.N) (hdef : defaultsOf params X.env = ([], []))
    (h1 : PE X e1 t1) (h2 : PE X e2 t2) (hbind : ∀ (q : Str) (cl : List (Str × Addr)) (pm cv ctv u : Value), bindArgs (PySem.W.kla_fn "<lambda>" q params body scope cl pm cv ctv) ⟨[u], []⟩ = pure [(b, u)])
    (hbody : ∀ (A : Around) (outer : List Env) (s : Shared) (H : Hp) (E : XK) (f c' : Addr), Room 0 (A.deeper (lamEnv X scope s.heap.objs.size f c')) → PE (lamCx1 X A outer s H E scope f c' b) body tb)
    (he : starEach [e1, e2, .Lambda params body scope lpos] X.env = (false, eval e1 X.env) :: starEach [e2, .Lambda params body scope lpos] X.env := by rfl)
    (he2 : starEach [e2, .Lambda params body scope lpos] X.env = (false, eval e2 X.env) :: starEach [.Lambda params body scope lpos] X.env := by rfl)
    (hpl : (backTo pos (starEach [e2, .Lambda params body scope lpos] X.env)).any (·.1) = false := by rfl) :
    PE X (.Call (.Name "greatest_within" p) [e1, e2, .Lambda params body scope lpos] [] pos) (tLam1 TL TTw t1 t2 tb) := by
  obtain ⟨oc, od, kV, doc, pm, an, cdv, ct, osl, efd, lk, hcd⟩ := T.U_greatest_within.ex
  have hbg := T.b_greatest_within
  rw [efd] at hbg lk
  exact pe_lamcall1 (k := 0) hg T.g_greatest_within T.k_greatest_within lk hcd hbg sc_greatest_within rfl (.inl rfl) (within_to T _ _ _) h1 h2 TB hcode hm hu hr L hb hdef hbind hbody he he2 hpl
def sp_greatest_top (TL : List (Addr × Str)) : Sp := fun vs H Q _ => ∃ N s : Nat, vs = [.int N, .int s] ∧ 1 ≤ N ∧ N < 2 ^ 1900 ∧ 1 ≤ s ∧ s ≤ 17 ∧ Tabs (TL) H ∧ ∀ a : Nat, ch a s ≤ N → N < ch (a + 1) s → RetVk (TL) (.int a) H Q
theorem ok_greatest_top (T : Txt K mg) (TB : TabB base mg T.c_greatest_top T.P_greatest_top) : FnOk P w K mg base CX0 3 T.f_greatest_top T.d_greatest_top ["number", "size"] (sp_greatest_top (tabs T)) := by
  refine okC T.U_greatest_top sc_greatest_top (fun vs H Q E h => ?_) (fun cdv A outer s H vs Q E hcd hr h => ?_)
  · obtain ⟨n, l, rfl, _⟩ := h
    rfl
  · obtain ⟨N, s, rfl, hN1, hN, hs1, hs, hT, q⟩ := h
    have hcode : cdv = .ref T.c_greatest_top := hcd.symm.trans T.cd_greatest_top
    have hr' := hr
    have hm := hm_top T
    have hu := hu_top T
    refine ⟨_, (pss_one (ps_ret (pe_within T hm hu TB hcode hr' (by rfl) (lam1_by (sc := defScope s_greatest_top) (by decide +kernel)) (show ("top" : Str) ∉ (["number", "size"] : List Str) by decide) rfl (pv 0) (pv 1) (fun _ _ _ _ _ _ => rfl) (fun A outer s H E f c' hr2 => pe_callBfun cr_comb (by rfl) T.comb (pa_cons (pe_var (i := 0) rfl (.inl rfl) (by decide) (by decide)) (pa_cons (pe_var (i := 2) rfl (.inr (.inr rfl)) (by decide) (by decide)) pa_nil)))))), ?_⟩
    refine ⟨_, rfl, _, rfl, hT, fun H3 e3 T3 => ?_⟩
    have ek : Ek (tabs T) H H3 := ⟨e3, fun _ => T3⟩
    refine ⟨N, s, fun x => ch (s + x) s, rfl, rfl, hN1, ?_, ch_more hs1, fun x hx Q' q' => ?_, fun l h1 h2 => ?_⟩
    · show ch (s + 0) s ≤ N
      rw [Nat.add_zero, ch_self]
      exact hN1
    · refine ⟨_, rfl, _, rfl, _, _, rfl, ccomb_add hs hN hx, ?_⟩
      rw [comb_add]
      exact q'
    · have := q (s + l) h1 h2 H3 ek
      rw [Int.natCast_add] at this
      exact this
theorem top_lt {a p r : Nat} (hp : 1 ≤ p) (h : ch a p ≤ r) (hr : 1 ≤ r) : a < p + r := by
  by_cases z : p ≤ a
  · have := ch_more hp (a - p)
    rw [show p + (a - p) = a by omega] at this
    omega
  · omega
theorem big_pow {r : Nat} (h : r < 2 ^ 1900) (k : Nat) (hk : k ≤ 1000) : r + k < 2 ^ 1910 := by
  have e : 2 ^ 1910 = 1024 * 2 ^ 1900 := Nat.pow_add 2 10 1900
  have h2 : 2 ^ 10 ≤ 2 ^ 1900 := Nat.pow_le_pow_right (by decide) (by decide)
  rw [e]
  generalize 2 ^ 1900 = z at *
  omega
def tz (xs : List Nat) : List V := (iz xs).map V.int
theorem tz_len (xs : List Nat) : (tz xs).length = xs.length := by unfold tz; rw [List.length_map, iz_len]
theorem tz_get (xs : List Nat) (i : Nat) : (tz xs)[i]? = Option.map (fun (n : Nat) => V.int (n : Int)) xs[i]? := by
  unfold tz
  rw [List.getElem?_map, iz_get, Option.map_map]
  rfl
theorem tz_snoc (xs : List Nat) (a : Nat) : tz (xs ++ [a]) = tz xs ++ [.int a] := by
  unfold tz
  rw [iz_append, List.map_append]
  rfl
theorem tz_at {xs : List Nat} {i : Nat} {x : V} (h : (tz xs)[i]? = some x) : ∃ a : Nat, xs[i]? = some a ∧ x = .int (a : Int) := by
  rw [tz_get] at h
  cases e : xs[i]? with
  | none => rw [e] at h; cases h
  | some a => rw [e] at h; cases h; exact ⟨a, rfl, rfl⟩
theorem tz_range (ts : List Nat) {n : Nat} (hn : n = ts.length) : (List.range n).map (fun i => V.int ((ts.getD i 0 : Nat) : Int)) = tz ts := by
  subst hn
  apply List.ext_getElem?
  intro i
  rw [List.getElem?_map, tz_get]
  by_cases hi : i < ts.length
  · rw [List.getElem?_range hi, List.getElem?_eq_getElem hi]
    have : ts.getD i 0 = ts[i] := by rw [List.getD_eq_getElem?_getD, List.getElem?_eq_getElem hi]; rfl
    show some (V.int ((ts.getD i 0 : Nat) : Int)) = some (V.int ((ts[i] : Nat) : Int))
    rw [this]
  · rw [List.getElem?_eq_none (by rw [List.length_range]; omega), List.getElem?_eq_none (by omega)]
    rfl
/-- a def that hands back a new tuple: what its caller wants -/
def RetT (xs : List V) (H : Hp) (Q : VK) : Prop := ∀ p H2, H p = none → Ex H H2 → H2 p = some (.tup xs) → Q (.ref p) H2
def sp_cascade_of (TL : List (Addr × Str)) : Sp := fun vs H Q _ => ∃ N s : Nat, vs = [.int N, .int s] ∧ N < 2 ^ 1900 ∧ 1 ≤ s ∧ s ≤ 17 ∧ Tabs (TL) H ∧ ∀ xs, Cas s xs → val s xs = N → RetTk (TL) (tz xs) H Q
theorem ok_cascade_of (T : Txt K mg) (TB : TabB base mg T.c_greatest_top T.P_greatest_top) : FnOk P w K mg base CX0 4 T.f_cascade_of T.d_cascade_of ["number", "size"] (sp_cascade_of (tabs T)) := by
  have F_check_number := ok_check_number (P := P) (w := w) (base := base) T
  have F_check_size := ok_check_size (P := P) (w := w) (base := base) T
  have F_greatest_top := ok_greatest_top (P := P) (w := w) (base := base) T TB
  refine T.U_cascade_of.ok sc_cascade_of (fun vs H Q E h => ?_) (fun cdv A outer s H vs Q E hr h => ?_)
  · obtain ⟨n, l, rfl, _⟩ := h
    rfl
  · obtain ⟨N, s, rfl, hN, hs1, hs, hT, q⟩ := h
    refine ⟨_, (pss_cons (ps_expr (pe_call F_check_number (hr.mono (by decide)) (by rfl) T.g_check_number T.k_check_number T.b_check_number .nil (passOn (E := fun _ _ _ => False) LamX.takes0) (pa_cons (pv 0) pa_nil)))
  (pss_cons (ps_expr (pe_call F_check_size (hr.mono (by decide)) (by rfl) T.g_check_size T.k_check_size T.b_check_size .nil pass0 (pa_cons (pv 1) pa_nil)))
  (pss_cons (ps_set (i := 2) sc_cascade_of.nd rfl (.inl rfl) (pe_lst pa_nil))
  (pss_cons (ps_set (i := 3) sc_cascade_of.nd rfl (.inl rfl) (pv 0))
  (pss_cons (ps_set (i := 4) sc_cascade_of.nd rfl (.inl rfl) (pv 1))
  (pss_cons (ps_while PassesOwn.never (pt_cmpR op_gt (pv 3) pe_int (nomark _)) (pss_cons (ps_set (i := 5) sc_cascade_of.nd rfl (.inl rfl) (pe_call F_greatest_top (hr.mono (by decide)) (by rfl) T.g_greatest_top T.k_greatest_top T.b_greatest_top .nil pass0 (pa_cons (pv 3) (pa_cons (pv 4) pa_nil))))
  (pss_cons (ps_expr (pe_bm PySem.F.plainAttrs_list PySem.F.slot_list_append PySem.F.type_list_append mt_append (pv 2) (pa_cons (pv 5) pa_nil)))
  (pss_cons (ps_set (i := 3) sc_cascade_of.nd rfl (.inl rfl) (pe_op op_sub (pv 3) (pe_callBfun cr_comb (by rfl) T.comb (pa_cons (pv 5) (pa_cons (pv 4) pa_nil)))))
  (pss_one (ps_set (i := 4) sc_cascade_of.nd rfl (.inl rfl) (pe_op op_sub (pv 4) pe_int)))))))
  (pss_one (ps_ret (pe_callTy call_tuple_of (by rfl) T.n_tuple (by decide +kernel) (pa_cons (pv 2) pa_nil)))))))))), ?_⟩
    refine ⟨_, rfl, .int N, .int N, rfl, .int _, fun _ => ?_, fun h => absurd (fromD_nat N) (by rw [h]; exact Bool.false_ne_true)⟩
    refine ⟨_, rfl, _, rfl, by omega, ?_⟩
    refine ⟨Nat.zero_le _, fun o no => ⟨_, rfl, _, rfl, ?_⟩⟩
    refine ⟨fun m σ H' => ∃ (xs : List Nat) (r p : Nat) (y : Option V), σ = [some (.int N), some (.int s), some (.ref o), some (.int r), some (.int p), y] ∧ Cas s xs ∧ xs.length + p = s ∧ val s xs + r = N ∧ (∀ b, xs.getLast? = some b → r < ch b p) ∧ Ek (tabs T) H H' ∧ H' o = some (.lst (tz xs)) ∧ m = p,
      ⟨_, [], N, s, none, rfl, Cas.nil s, Nat.zero_add s, Nat.zero_add N, fun b h => (nomatch h), Ek.new no, upd_same, rfl⟩, ?_⟩
    rintro m σ H' ⟨xs, r, p, y, rfl, c, h1, h2, h3, ex, ho, rfl⟩
    refine ⟨_, rfl, _, _, rfl, rfl, _, rfl, ite2 (fun e => ?_) (fun e => ?_)⟩
    · have hr0 : 1 ≤ r := by have := of_decide_eq_true e; omega
      have hp : 1 ≤ m := by
        by_cases z : m = 0
        · subst z
          cases hx : xs.getLast? with
          | none =>
            rw [List.getLast?_eq_none_iff] at hx
            subst hx
            simp at h1
            omega
          | some b =>
            have := h3 b hx
            rw [ch_zero] at this
            omega
        · omega
      refine ⟨fun σ' H2 => ∃ (xs : List Nat) (r p : Nat) (y : Option V), σ' = [some (.int N), some (.int s), some (.ref o), some (.int r), some (.int p), y] ∧ Cas s xs ∧ xs.length + p = s ∧ val s xs + r = N ∧ (∀ b, xs.getLast? = some b → r < ch b p) ∧ Ek (tabs T) H H2 ∧ H2 o = some (.lst (tz xs)) ∧ p < m, ?_, ?_⟩
      · rintro σ' H2 ⟨xs', r', p', y', rfl, c', k1, k2, k3, k4, k5, k6⟩
        exact ⟨p', k6, xs', r', p', y', rfl, c', k1, k2, k3, k4, k5, rfl⟩
      · refine ⟨_, rfl, _, rfl, r, m, rfl, hr0, by omega, hp, by omega, ex.t hT, fun a ha1 ha2 H4 e4 => ?_⟩
        replace ho := e4.get ho
        replace ex := ex.trans e4
        obtain ⟨c2, hlt⟩ := cas_add c h1 hp hr0 h3 ha1 ha2
        refine ⟨_, rfl, .inl ⟨rfl, _, SqL.of ho⟩, _, rfl, o, _, _, rfl, rfl, ho, ?_, ?_⟩
        · rw [tz_len]
          exact small1000 (by omega)
        · have hal := top_lt hp ha1 hr0
          have hbig := big_pow (show r < 2 ^ 1900 by omega) m (by omega)
          refine ⟨_, rfl, _, rfl, _, rfl, (a : Int), (m : Int), rfl, ccomb (m := 1910) (by omega) (by omega) (by decide) (by decide), _, _, rfl, rfl, ?_⟩
          refine ⟨_, rfl, _, _, rfl, rfl, xs ++ [a], r - ch a m, m - 1, some (.int a), ?_, c2, ?_, ?_, ?_, Ek.mutL ex no ho, ?_, by omega⟩
          · rw [comb_nat]
            have e1 : ((r : Int) - ((ch a m : Nat) : Int)) = ((r - ch a m : Nat) : Int) := by omega
            have e2 : ((m : Int) - 1) = ((m - 1 : Nat) : Int) := by omega
            rw [← e1, ← e2]
            rfl
          · rw [List.length_append, List.length_singleton]
            omega
          · rw [val_snoc, show s - xs.length = m by omega]
            omega
          · intro b hb
            rw [List.getLast?_append] at hb
            have : a = b := by simpa using hb
            subst this
            exact hlt
          · rw [tz_snoc]
            exact upd_same
    · have hr0 : r = 0 := by
        by_cases z : 0 < r
        · exact absurd (decide_eq_true (by omega)) e
        · omega
      subst hr0
      refine ⟨_, rfl, o, _, rfl, .inl ⟨SqL.of ho, fun l hl => ?_⟩⟩
      exact q xs c (by omega) l _ (ex.trans (Ek.new hl)) upd_same

def sp_moved_sum : Sp := fun vs H Q _ => ∃ (s : Nat) (c : Addr) (xs : List Nat) (mt ms : Int) (A I : Nat → Nat), vs = [.int s, .ref c, .int mt, .int ms] ∧ H c = some (.tup (tz xs)) ∧ xs.length ≤ s ∧ s ≤ 17 ∧
  (∀ (i a : Nat), xs[i]? = some a → (a : Int) + mt = ((A a : Nat) : Int) ∧ ((s : Int) - (i : Int)) + ms = ((I (s - i) : Nat) : Int) ∧ A a < 2 ^ 2000 ∧ I (s - i) ≤ 20) ∧ RetV (.int (((terms (fun a i => ch (A a) (I i)) s xs).sum : Nat) : Int)) H Q
theorem ok_moved_sum (T : Txt K mg) : FnOk P w K mg base CX0 2 T.f_moved_sum T.d_moved_sum ["size", "cascade", "more_things", "more_size"] sp_moved_sum := by
  refine T.U_moved_sum.ok sc_moved_sum (fun vs H Q E h => ?_) (fun cdv A outer s H vs Q E hr h => ?_)
  · obtain ⟨_, _, _, _, _, _, _, rfl, _⟩ := h
    rfl
  · obtain ⟨s, c, xs, mt, ms, A, I, rfl, hc, hl, hs, hx, q⟩ := h
    refine ⟨_, (pss_one (ps_ret (pe_callB (cr_sum rfl) (by rfl) T.n_sum (by decide +kernel) (pa_cons (pe_lc (own := [("k", 4), ("top", 5)]) (g := gTup K 2 (gCons (gName 4) (gCons (gName 5) (gNil)))) (tt := tYes) rfl sc_moved_sum.nd (pi_enumT (by rfl) T.n_enumerate (pa_cons (pv 1) pa_nil)) (blkOk_by (own := [("k", 4), ("top", 5)]) (N := ["size", "cascade", "more_things", "more_size", "k", "top"]) (sc := defScope s_moved_sum) (by decide +kernel)) (fun _ _ _ _ _ => pg_tup rfl (pgs_cons (pg_name (i := 4) sc_moved_sum.nd rfl (Or.inl rfl)) (pgs_cons (pg_name (i := 5) sc_moved_sum.nd rfl (Or.inl rfl)) pgs_nil))) (fun _ _ _ _ _ => pts_nil) (fun _ _ _ _ _ => (pe_callBfun cr_comb (by rfl) T.comb (pa_cons (pe_op op_add (pv 5) (pv 2)) (pa_cons (pe_op op_add (pe_op op_sub (pv 0) (pv 4)) (pv 3)) pa_nil))))) pa_nil)))), ?_⟩
    refine r_ret (r_cb (r_arg ?_))
    refine el_lcW (H := H) (walk_enumT (a := c) (xs := tz xs)) (fun _ => true) (fun i => .int (((terms (fun a i => ch (A a) (I i)) s xs).getD i 0 : Nat) : Int)) (by rw [tz_len]; omega)
      (fun H1 e R k => ⟨_, rfl, c, tz xs, rfl, SqT.of (e _ _ hc), k H1 (Ex.refl H1)⟩) (fun H1 e => SqT.of (e _ _ hc)) ?_ ?_ H (Ex.refl H) _ ?_
    · rintro i H1 x H2 ⟨T, _, _, rfl, nT, rfl, _, _⟩
      exact Ex.new nT
    · rintro i x H1 H2 hi e ⟨T, x1, x2, rfl, nT, rfl, e1, e2⟩
      cases e1
      obtain ⟨a, ha, rfl⟩ := tz_at e2
      obtain ⟨g1, g2, g3, g4⟩ := hx i a ha
      refine ⟨[some (.int s), some (.ref c), some (.int mt), some (.int ms), some (.int i), some (.int a)], fun k hk => ?_, rfl, et_yes, fun _ => ?_⟩
      · exact ⟨T, [.int i, .int a], rfl, .inl (.inl upd_same), rfl, _, _, rfl, _, _, rfl, rfl, hk⟩
      · intro H3 e3 Q3 q3
        refine ⟨_, rfl, _, rfl, _, _, rfl, rfl, _, rfl, _, rfl, _, _, rfl, rfl, _, rfl, _, _, rfl, rfl, _, _, rfl, ?_, ?_⟩
        · rw [g1, g2]
          exact ccomb (m := 2000) g3 g4 (by decide) (by decide)
        · rw [g1, g2, comb_nat]
          have e5 : (terms (fun a i => ch (A a) (I i)) s xs).getD i 0 = ch (A a) (I (s - i)) := by
            rw [List.getD_eq_getElem?_getD, terms_get, ha]
            rfl
          rw [e5] at q3
          exact q3 H3 (Ex.refl H3)
    · intro p H2 np e hp
      rw [given_all] at hp
      rw [tz_range _ (by rw [terms_len, tz_len])] at hp
      refine ⟨p, iz (terms (fun a i => ch (A a) (I i)) s xs), rfl, SqL.of hp, ?_⟩
      rw [iz_sum]
      exact q H2 e
def gUP (a i : Nat) : Nat := ch (a + 1) (i + 1)
def four (g : Nat → Nat → Nat) (s : Nat) (xs : List Nat) : Nat := (terms g s xs).sum
theorem lt_2000 {a : Nat} (h : a < 2 ^ 1910) : a + 1 < 2 ^ 2000 := by
  have e : 2 ^ 1911 ≤ 2 ^ 2000 := Nat.pow_le_pow_right (by decide) (by decide)
  have e2 : 2 ^ 1911 = 2 * 2 ^ 1910 := Nat.pow_add 2 1 1910
  rw [e2] at e
  generalize 2 ^ 1910 = z at *
  omega
theorem val_ge : ∀ (s : Nat) (xs : List Nat) (i a : Nat), xs[i]? = some a → ch a (s - i) ≤ val s xs
  | _, [], _, _, h => by simp at h
  | s, x :: xs, 0, a, h => by
    cases h
    show ch x s ≤ ch x s + val (s - 1) xs
    omega
  | s, x :: xs, i + 1, a, h => by
    have ih := val_ge (s - 1) xs i a (by simpa using h)
    rw [show s - (i + 1) = s - 1 - i by omega]
    show ch a (s - 1 - i) ≤ ch x s + val (s - 1) xs
    omega
theorem cas_items {s : Nat} {xs : List Nat} (c : Cas s xs) (hs : s ≤ 17) (hv : val s xs < 2 ^ 1900) : ∀ a ∈ xs, a < 2 ^ 1910 := by
  intro a ha
  obtain ⟨i, h⟩ := List.getElem?_of_mem ha
  have h1 := val_ge s xs i a h
  have hi := (List.getElem?_eq_some_iff.mp h).1
  have hl := c.len
  have hlow := c.low i a h
  have h0 := ch_pos hlow
  have h2 := top_lt (a := a) (p := s - i) (by omega) h1 (by omega)
  have h3 := big_pow hv (s - i) (by omega)
  omega
/-- what one of the four functions tells -/
def sp_fn (TL : List (Addr × Str)) (g : Nat → Nat → Nat) : Sp := fun vs H Q _ => ∃ N s : Nat, vs = [.int N, .int s] ∧ N < 2 ^ 1900 ∧ 1 ≤ s ∧ s ≤ 17 ∧ Tabs (TL) H ∧ ∀ xs, Cas s xs → val s xs = N → RetVk (TL) (.int ((four g s xs : Nat) : Int)) H Q
theorem ok_upper_products (T : Txt K mg) (TB : TabB base mg T.c_greatest_top T.P_greatest_top) : FnOk P w K mg base CX0 5 T.f_upper_products T.d_upper_products ["number", "size"] (sp_fn (tabs T) gUP) := by
  have F_cascade_of := ok_cascade_of (P := P) (w := w) (base := base) T TB
  have F_moved_sum := ok_moved_sum (P := P) (w := w) (base := base) T
  refine T.U_upper_products.ok sc_upper_products (fun vs H Q E h => ?_) (fun cdv A outer s H vs Q E hr h => ?_)
  · obtain ⟨_, _, rfl, _⟩ := h
    rfl
  · obtain ⟨N, s, rfl, hN, hs1, hs, hT, q⟩ := h
    refine ⟨_, (pss_one (ps_ret (pe_call F_moved_sum (hr.mono (by decide)) (by rfl) T.g_moved_sum T.k_moved_sum T.b_moved_sum .nil pass0 (pa_cons (pv 1) (pa_cons (pe_call F_cascade_of (hr.mono (by decide)) (by rfl) T.g_cascade_of T.k_cascade_of T.b_cascade_of .nil pass0 (pa_cons (pv 0) (pa_cons (pv 1) pa_nil))) (pa_cons pe_int (pa_cons pe_int pa_nil))))))), ?_⟩
    refine ⟨_, rfl, _, rfl, _, rfl, N, s, rfl, hN, hs1, hs, hT, fun xs c v p H2 e hp => ⟨s, p, xs, 1, 1, (· + 1), (· + 1), rfl, hp, c.len, hs, fun i a h => ?_, fun H3 e3 => q xs c v H3 (e.ex e3)⟩⟩
    have hi := (List.getElem?_eq_some_iff.mp h).1
    have hl := c.len
    have ha := cas_items c hs (by omega) a (List.mem_of_getElem? h)
    exact ⟨rfl, by show (s : Int) - (i : Int) + 1 = ((s - i + 1 : Nat) : Int); omega, by have := lt_2000 ha; show a + 1 < _; omega, by show s - i + 1 ≤ 20; omega⟩

end
end K81

/-! Lower and upper numbers go together; upper numbers of sums. -/
namespace HrM
def gL (δ a i : Nat) : Nat := ch (a - δ) (i - 1)
def gU (δ a i : Nat) : Nat := ch (a + δ) (i + 1)
def sL (δ s : Nat) (xs : List Nat) : Nat := (terms (gL δ) s xs).sum
def sU (δ s : Nat) (xs : List Nat) : Nat := (terms (gU δ) s xs).sum
theorem sL_cons (δ s a : Nat) (r : List Nat) : sL δ (s + 1) (a :: r) = ch (a - δ) s + sL δ s r := by
  show (gL δ a (s + 1) :: terms (gL δ) s r).sum = _
  rw [List.sum_cons]
  rfl
theorem sU_cons (δ s a : Nat) (r : List Nat) : sU δ (s + 1) (a :: r) = ch (a + δ) (s + 2) + sU δ s r := by
  show (gU δ a (s + 1) :: terms (gU δ) s r).sum = _
  rw [List.sum_cons]
  rfl
theorem val_cons (s a : Nat) (r : List Nat) : val (s + 1) (a :: r) = ch a (s + 1) + val s r := rfl
theorem sL_le {δ : Nat} (hδ : δ ≤ 1) : ∀ {xs : List Nat} {s u : Nat}, Cas s xs → (∀ a, xs[0]? = some a → a < u) → sL δ s xs ≤ ch (u - δ) (s - 1)
  | [], _, _, _, _ => Nat.zero_le _
  | a :: r, s, u, c, hu => by
    obtain ⟨t, rfl⟩ : ∃ t, s = t + 1 := ⟨s - 1, by have := c.pos; omega⟩
    have hd := c.head
    have ha := hu a rfl
    rw [sL_cons, Nat.add_sub_cancel]
    cases t with
    | zero =>
      have hr : r = [] := List.eq_nil_of_length_eq_zero (Nat.le_zero.mp c.tail.len)
      subst hr
      rw [ch_zero, ch_zero]
      exact Nat.le_refl 1
    | succ t =>
      have ih := sL_le hδ (u := a) c.tail fun b hb => c.fall 0 a b rfl (by simpa using hb)
      rw [Nat.add_sub_cancel] at ih
      have e := ch_succ (a - δ) t
      have m := ch_mono (t + 1) (show a - δ + 1 ≤ u - δ by omega)
      omega
theorem sU_lt {δ : Nat} : ∀ {ys : List Nat} {s u : Nat}, Cas s ys → (∀ a, ys[0]? = some a → a < u) → s + 1 ≤ u + δ → sU δ s ys < ch (u + δ) (s + 1)
  | [], s, u, _, _, h => ch_pos h
  | b :: r, s, u, c, hu, h => by
    obtain ⟨t, rfl⟩ : ∃ t, s = t + 1 := ⟨s - 1, by have := c.pos; omega⟩
    have hd := c.head
    have hb := hu b rfl
    have ih := sU_lt (δ := δ) (u := b) c.tail (fun x hx => c.fall 0 b x rfl (by simpa using hx)) (by omega)
    rw [sU_cons]
    have e := ch_succ (b + δ) (t + 1)
    have m := ch_mono (t + 1 + 1) (show b + δ + 1 ≤ u + δ by omega)
    have e2 : t + 1 + 1 = t + 2 := rfl
    rw [e2] at *
    omega
/-- the two numbers go together -/
theorem gal {δ : Nat} (hδ : δ ≤ 1) : ∀ {xs ys : List Nat} {s : Nat}, Cas (s + 1) xs → Cas s ys → (sL δ (s + 1) xs ≤ val s ys ↔ val (s + 1) xs ≤ sU δ s ys)
  | [], _, _, _, _ => ⟨fun _ => Nat.zero_le _, fun _ => Nat.zero_le _⟩
  | a :: r, [], s, c, _ => by
    have hd := c.head
    have h1 := ch_pos (n := a - δ) (k := s) (by omega)
    have h2 := ch_pos (n := a) (k := s + 1) hd
    rw [sL_cons, val_cons]
    show ch (a - δ) s + sL δ s r ≤ 0 ↔ ch a (s + 1) + val s r ≤ 0
    omega
  | a :: r, b :: q, s, c, d => by
    obtain ⟨t, rfl⟩ : ∃ t, s = t + 1 := ⟨s - 1, by have := d.pos; omega⟩
    have ha := c.head
    have hb := d.head
    rw [sL_cons, val_cons, val_cons, sU_cons]
    rcases Nat.lt_trichotomy (a - δ) b with h | h | h
    · have h1 := sL_le hδ (u := a) c.tail fun x hx => c.fall 0 a x rfl (by simpa using hx)
      rw [Nat.add_sub_cancel] at h1
      have e := ch_succ (a - δ) t
      have m := ch_mono (t + 1) (show a - δ + 1 ≤ b by omega)
      have h2 := val_lt (u := a + 1) c (fun x hx => by cases hx; omega) (by omega)
      rw [val_cons] at h2
      have m2 := ch_mono (t + 2) (show a + 1 ≤ b + δ by omega)
      constructor
      · intro _
        have e2 : t + 1 + 1 = t + 2 := rfl
        rw [e2] at *
        omega
      · intro _
        omega
    · have ih := gal hδ c.tail d.tail
      have e : a = b + δ := by omega
      rw [h]
      subst e
      constructor
      · intro z
        have := ih.mp (by omega)
        have e2 : t + 1 + 1 = t + 2 := rfl
        rw [e2]
        omega
      · intro z
        have e2 : t + 1 + 1 = t + 2 := rfl
        rw [e2] at z
        have := ih.mpr (by omega)
        omega
    · have h1 := val_lt (u := b + 1) d (fun x hx => by cases hx; omega) (by omega)
      rw [val_cons] at h1
      have m := ch_mono (t + 1) (show b + 1 ≤ a - δ by omega)
      have h2 := sU_lt (δ := δ) (u := b + 1) d (fun x hx => by cases hx; omega) (by omega)
      rw [sU_cons] at h2
      have m2 := ch_mono (t + 2) (show b + 1 + δ ≤ a by omega)
      have e2 : t + 1 + 1 = t + 2 := rfl
      rw [e2] at *
      constructor <;> intro z <;> omega

/-! ### there is a cascade -/
theorem step_at (p : Nat → Prop) (lo : Nat) (h0 : p lo) : ∀ k : Nat, ¬ p (lo + k) → ∃ a, p a ∧ ¬ p (a + 1)
  | 0, h => absurd h0 h
  | k + 1, h => by
    by_cases q : p (lo + k)
    · exact ⟨lo + k, q, h⟩
    · exact step_at p lo h0 k q
theorem ch_more {s : Nat} (hs : 1 ≤ s) : ∀ l : Nat, l + 1 ≤ ch (s + l) s
  | 0 => by
    show 1 ≤ ch s s
    rw [ch_self]
    exact Nat.le_refl 1
  | l + 1 => by
    have ih := ch_more hs l
    obtain ⟨t, rfl⟩ : ∃ t, s = t + 1 := ⟨s - 1, by omega⟩
    have h1 := ch_pos (n := t + 1 + l) (k := t) (by omega)
    have e := ch_succ (t + 1 + l) t
    have e2 : t + 1 + (l + 1) = t + 1 + l + 1 := by omega
    rw [e2, e]
    omega
theorem top_ex {s n : Nat} (hs : 1 ≤ s) (hn : 1 ≤ n) : ∃ a, ch a s ≤ n ∧ n < ch (a + 1) s := by
  obtain ⟨a, h1, h2⟩ := step_at (fun a => ch a s ≤ n) s (by rw [ch_self]; exact hn) n (by have := ch_more hs n; omega)
  exact ⟨a, h1, Nat.lt_of_not_le h2⟩
theorem ex_cas : ∀ (s n : Nat), 1 ≤ s ∨ n = 0 → ∃ xs, Cas s xs ∧ val s xs = n
  | 0, n, h => by
    have : n = 0 := by omega
    subst this
    exact ⟨[], Cas.nil 0, rfl⟩
  | s + 1, n, _ => by
    by_cases hn : n = 0
    · subst hn
      exact ⟨[], Cas.nil _, rfl⟩
    obtain ⟨a, h1, h2⟩ := top_ex (s := s + 1) (n := n) (by omega) (by omega)
    have h3 : n - ch a (s + 1) < ch a s := by rw [ch_succ] at h2; omega
    have hsa : s + 1 ≤ a := by
      by_cases z : s + 1 ≤ a
      · exact z
      · have := ch_mono (s + 1) (show a + 1 ≤ s + 1 by omega)
        rw [ch_self] at this
        omega
    obtain ⟨xs, c, v⟩ := ex_cas s (n - ch a (s + 1)) (by
      by_cases z : s = 0
      · subst z
        rw [ch_zero] at h3
        omega
      · omega)
    refine ⟨a :: xs, ⟨by have := c.len; simpa using this, fun i x h => ?_, fun i x y h h' => ?_⟩, by rw [val_cons, v]; omega⟩
    · cases i with
      | zero => cases h; omega
      | succ i => have := c.low i x (by simpa using h); omega
    · cases i with
      | zero =>
        cases h
        have hy : xs[0]? = some y := by simpa using h'
        by_cases z : y < a
        · exact z
        · have g1 : ch y s ≤ val s xs := by
            cases xs with
            | nil => simp at hy
            | cons w ws =>
              cases hy
              show ch y s ≤ ch y s + val (s - 1) ws
              omega
          have g2 := ch_mono s (show a ≤ y by omega)
          omega
      | succ i => exact c.fall i x y (by simpa using h) (by simpa using h')
noncomputable def cc (s n : Nat) : List Nat := if h : 1 ≤ s ∨ n = 0 then (ex_cas s n h).choose else []
theorem cc_cas {s n : Nat} (h : 1 ≤ s) : Cas s (cc s n) ∧ val s (cc s n) = n := by
  unfold cc
  rw [dif_pos (Or.inl h)]
  exact (ex_cas s n (Or.inl h)).choose_spec
theorem cc_eq {s n : Nat} {xs : List Nat} (h : 1 ≤ s) (c : Cas s xs) (v : val s xs = n) : xs = cc s n := cas_uniq c (cc_cas h).1 (v.trans (cc_cas h).2.symm)
noncomputable def Lf (δ s n : Nat) : Nat := sL δ s (cc s n)
noncomputable def Uf (δ s n : Nat) : Nat := sU δ s (cc s n)
theorem Gal {δ s m n : Nat} (hδ : δ ≤ 1) (hs : 1 ≤ s) : Lf δ (s + 1) m ≤ n ↔ m ≤ Uf δ s n := by
  have h1 := cc_cas (s := s + 1) (n := m) (by omega)
  have h2 := cc_cas (s := s) (n := n) hs
  have g := gal hδ h1.1 h2.1
  rw [h1.2, h2.2] at g
  exact g
theorem Uf_mono {δ s a b : Nat} (hδ : δ ≤ 1) (hs : 1 ≤ s) (h : a ≤ b) : Uf δ s a ≤ Uf δ s b :=
  (Gal hδ hs).mp (Nat.le_trans ((Gal hδ hs).mpr (Nat.le_refl _)) h)
theorem Lf_one (δ n : Nat) : Lf δ 1 n = if n = 0 then 0 else 1 := by
  by_cases h : n = 0
  · subst h
    have e := cc_eq (s := 1) (n := 0) (xs := []) (by decide) (Cas.nil 1) rfl
    unfold Lf
    rw [← e]
    rfl
  · have c : Cas 1 [n] := (Cas.nil 1).snoc (by simp) (by simp; omega) fun a h => nomatch h
    have v : val 1 [n] = n := by
      show ch n 1 + 0 = n
      rw [ch_one]
      omega
    have e := cc_eq (s := 1) (n := n) (by decide) c v
    unfold Lf
    rw [← e, if_neg h, sL_cons, ch_zero]
    rfl
theorem Lf_mono {δ s a b : Nat} (hδ : δ ≤ 1) (hs : 1 ≤ s) (h : a ≤ b) : Lf δ s a ≤ Lf δ s b := by
  by_cases h1 : s = 1
  · subst h1
    rw [Lf_one, Lf_one]
    split <;> split <;> omega
  · obtain ⟨t, rfl⟩ : ∃ t, s = t + 1 := ⟨s - 1, by omega⟩
    exact (Gal hδ (by omega)).mpr (Nat.le_trans h ((Gal hδ (by omega)).mp (Nat.le_refl _)))
end HrM

/-! Comprehensions whose parts may add to tables of code objects. -/
namespace Hr
open PySem PySem.Spec PyProof.Rows L2 Evl LamX
section
variable {T : List (Addr × Str)} {σ : L2.St} {H : Hp} {g : TG} {tt : TT} {te : TE} {vs : List Nat}
theorem TupR.upK {R : List V → Prop} {H H' : Hp} {y : V} (e : Ek T H H') (h : TupR R H y) : TupR R H' y := by
  obtain ⟨c, us, rfl, hc, r⟩ := h
  exact ⟨c, us, rfl, e.get hc, r⟩
/-- what a condition, an item tells where tables may grow -/
def TtK (T : List (Addr × Str)) (tt : TT) (σ : L2.St) (H : Hp) (b : Bool) : Prop := ∀ Q : Bool → Hp → Prop, (∀ H2, Ek T H H2 → Tabs T H2 → Q b H2) → tt σ H Q
def TeK (T : List (Addr × Str)) (te : TE) (σ : L2.St) (H : Hp) (v : V) : Prop := ∀ H1, Ek T H H1 → Tabs T H1 → ∀ Q : VK, (∀ H2, Ek T H1 H2 → Tabs T H2 → Q v H2) → te σ H1 Q
theorem TtK.yes (t : Tabs T H) : TtK T tYes σ H true := fun Q q => r_yes (q H (Ek.refl H) t)
theorem TtK.of {b : Bool} (t : Tabs T H) (h : EvT tt σ H b) : TtK T tt σ H b := fun Q q => h H (Ex.refl H) Q fun H2 e => q H2 (.of e) (t.ext e)
theorem lcK {J : It} {n : Nat} {G : Hp → Prop} {Y : Nat → Hp → V → Hp → Prop} {Q : VK} (wk : Walk J n G Y) (f : Nat → Bool) (v : Nat → V) (hz : n ≤ 40000) (hT : Tabs T H)
    (hG : ∀ H1, Ek T H H1 → G H1) (hY : ∀ i H1 x H2, Y i H1 x H2 → Ex H1 H2)
    (hs : ∀ i x H1 H2, i < n → Ek T H H1 → Tabs T H2 → Y i H1 x H2 → ∃ σ2, (∀ k : L2.St → Hp → Prop, k σ2 H2 → g x (wipe σ vs) H2 k) ∧ wipe σ2 vs = wipe σ vs ∧ TtK T tt σ2 H2 (f i) ∧ (f i = true → TeK T te σ2 H2 (v i)))
    (q : ∀ p H2, H p = none → Ek T H H2 → Tabs T H2 → H2 p = some (.lst (given n f v)) → Q (.ref p) H2) : tLc (fun _ H' R => R J H') g tt te vs σ H Q := by
  intro D hD
  refine lc_it wk (fun i H2 => Ek T H H2 ∧ H2 D = some (.lst (given i f v))) ⟨.new hD, upd_same⟩ (fun i H2 _ p => hG H2 p.1) (fun i x H2 H3 hi p y => ?_) (fun H2 p => q D H2 hD p.1 (p.1.t hT) p.2)
  obtain ⟨p1, p2⟩ := p
  have e3 := hY i H2 x H3 y
  obtain ⟨σ2, hk, hw, ht, he⟩ := hs i x H2 H3 hi p1 ((p1.t hT).ext e3) y
  refine hk _ ⟨hw, ht _ fun H4 e4 t4 => ?_⟩
  cases hf : f i with
  | true =>
    show te σ2 H4 _
    refine he hf H4 e4 t4 _ fun H5 e5 t5 => ?_
    have h5 := e5.get (e4.get (e3 _ _ p2))
    refine ⟨given i f v, h5, sz_lt (by have := given_len i f v; omega), Ek.mutL (((p1.ex e3).trans e4).trans e5) hD h5, ?_⟩
    rw [given_yes hf]
    exact upd_same
  | false =>
    refine ⟨(p1.ex e3).trans e4, ?_⟩
    rw [given_no hf]
    exact e4.get (e3 _ _ p2)
theorem lcKU {J : It} {n : Nat} {G : Hp → Prop} {Y : Nat → Hp → V → Hp → Prop} {Q : VK} {R : List V → Prop} (wk : Walk J n G Y) (f : Nat → Bool) (hz : n ≤ 40000) (hT : Tabs T H)
    (hG : ∀ H1, Ek T H H1 → G H1) (hY : ∀ i H1 x H2, Y i H1 x H2 → Ex H1 H2)
    (hs : ∀ i x H1 H2, i < n → Ek T H H1 → Tabs T H2 → Y i H1 x H2 → ∃ σ2, (∀ k : L2.St → Hp → Prop, k σ2 H2 → g x (wipe σ vs) H2 k) ∧ wipe σ2 vs = wipe σ vs ∧ TtK T tt σ2 H2 (f i) ∧
      (f i = true → ∀ H3, Ek T H2 H3 → Tabs T H3 → ∀ Q3 : VK, (∀ c us H4, Ek T H3 H4 → Tabs T H4 → H4 c = some (.tup us) → R us → Q3 (.ref c) H4) → te σ2 H3 Q3))
    (q : ∀ p H2 ys, H p = none → Ek T H H2 → Tabs T H2 → H2 p = some (.lst ys) → ys.length = ((List.range n).filter f).length → (∀ y ∈ ys, TupR R H2 y) → Q (.ref p) H2) : tLc (fun _ H' R => R J H') g tt te vs σ H Q := by
  intro D hD
  refine lc_it wk (fun i H2 => Ek T H H2 ∧ ∃ ys, H2 D = some (.lst ys) ∧ ys.length = ((List.range i).filter f).length ∧ ys.length ≤ i ∧ ∀ y ∈ ys, TupR R H2 y)
    ⟨.new hD, [], upd_same, rfl, Nat.le_refl _, fun y hy => absurd hy (by simp)⟩ (fun i H2 _ p => hG H2 p.1) (fun i x H2 H3 hi p y => ?_) (fun H2 p => ?_)
  · have e3 := hY i H2 x H3 y
    obtain ⟨p1, ys, hy, hl, hl2, hr⟩ := p
    obtain ⟨σ2, hk, hw, ht, he⟩ := hs i x H2 H3 hi p1 ((p1.t hT).ext e3) y
    refine hk _ ⟨hw, ht _ fun H4 e4 t4 => ?_⟩
    rw [List.range_succ, List.filter_append, List.length_append]
    cases hf : f i with
    | true =>
      show te σ2 H4 _
      refine he hf H4 e4 t4 _ fun c us H5 e5 t5 hc hR => ?_
      have h5 := e5.get (e4.get (e3 _ _ hy))
      refine ⟨ys, h5, sz_lt (by omega), Ek.mutL (((p1.ex e3).trans e4).trans e5) hD h5, ys ++ [.ref c], upd_same, ?_, ?_, ?_⟩
      · rw [List.length_append, List.filter_cons, if_pos hf, hl]
        rfl
      · rw [List.length_append]
        show ys.length + 1 ≤ i + 1
        omega
      · intro y hy2
        refine TupR.upd h5 ?_
        rcases List.mem_append.mp hy2 with h | h
        · exact TupR.upK (((Ek.of e3).trans e4).trans e5) (hr y h)
        · cases List.mem_singleton.mp h
          exact ⟨c, us, rfl, hc, hR⟩
    | false =>
      refine ⟨(p1.ex e3).trans e4, ys, e4.get (e3 _ _ hy), ?_, by omega, fun y h => TupR.upK ((Ek.of e3).trans e4) (hr y h)⟩
      rw [List.filter_cons, if_neg (by rw [hf]; exact Bool.false_ne_true), hl]
      rfl
  · obtain ⟨p1, ys, hy, hl, _, hr⟩ := p
    exact q D H2 ys hD p1 (p1.t hT) hy hl hr
end
section
variable {T : List (Addr × Str)} {σ : L2.St} {H : Hp} {g : TG} {tt : TT} {te tl : TE} {vs : List Nat} {ta : TA} {Q : VK} {R : List V → Prop} {lo hi : Int}
theorem lcKR (ha : EvA ta σ H [.int lo, .int hi]) (hb : -(2 ^ 62) ≤ lo ∧ lo < 2 ^ 62 ∧ -(2 ^ 62) ≤ hi ∧ hi < 2 ^ 62) (f : Nat → Bool) (v : Nat → V) (hz : (hi - lo).toNat ≤ 40000) (hT : Tabs T H)
    (hs : ∀ (i : Nat) H2, Ek T H H2 → Tabs T H2 → i < (hi - lo).toNat → ∃ σ2, (∀ k : L2.St → Hp → Prop, k σ2 H2 → g (.int (lo + i)) (wipe σ vs) H2 k) ∧ wipe σ2 vs = wipe σ vs ∧ TtK T tt σ2 H2 (f i) ∧ (f i = true → TeK T te σ2 H2 (v i)))
    (q : ∀ p H2, Ek T H H2 → Tabs T H2 → H2 p = some (.lst (given (hi - lo).toNat f v)) → Q (.ref p) H2) : tLc (iRng2 ta) g tt te vs σ H Q :=
  ha H (Ex.refl H) _ fun H1 e1 => ⟨lo, hi, rfl, hb, lcK (walk_range (lo := lo) (n := (hi - lo).toNat)) f v hz (hT.ext e1) (fun _ _ => trivial) (fun i H1 x H2 y => by rw [y.1]; exact Ex.refl _)
    (fun i x H2 H3 hi e2 t3 y => by
      obtain ⟨rfl, rfl⟩ := y
      exact hs i _ ((Ek.of e1).trans e2) t3 hi)
    fun p H2 _ e2 t2 hp => q p H2 ((Ek.of e1).trans e2) t2 hp⟩
theorem lcKRU (ha : EvA ta σ H [.int lo, .int hi]) (hb : -(2 ^ 62) ≤ lo ∧ lo < 2 ^ 62 ∧ -(2 ^ 62) ≤ hi ∧ hi < 2 ^ 62) (f : Nat → Bool) (hz : (hi - lo).toNat ≤ 40000) (hT : Tabs T H)
    (hs : ∀ (i : Nat) H2, Ek T H H2 → Tabs T H2 → i < (hi - lo).toNat → ∃ σ2, (∀ k : L2.St → Hp → Prop, k σ2 H2 → g (.int (lo + i)) (wipe σ vs) H2 k) ∧ wipe σ2 vs = wipe σ vs ∧ TtK T tt σ2 H2 (f i) ∧
      (f i = true → ∀ H3, Ek T H2 H3 → Tabs T H3 → ∀ Q3 : VK, (∀ c us H4, Ek T H3 H4 → Tabs T H4 → H4 c = some (.tup us) → R us → Q3 (.ref c) H4) → te σ2 H3 Q3))
    (q : ∀ p H2 ys, Ek T H H2 → Tabs T H2 → H2 p = some (.lst ys) → ys.length = ((List.range (hi - lo).toNat).filter f).length → (∀ y ∈ ys, TupR R H2 y) → Q (.ref p) H2) : tLc (iRng2 ta) g tt te vs σ H Q :=
  ha H (Ex.refl H) _ fun H1 e1 => ⟨lo, hi, rfl, hb, lcKU (walk_range (lo := lo) (n := (hi - lo).toNat)) f hz (hT.ext e1) (fun _ _ => trivial) (fun i H1 x H2 y => by rw [y.1]; exact Ex.refl _)
    (fun i x H2 H3 hi e2 t3 y => by
      obtain ⟨rfl, rfl⟩ := y
      exact hs i _ ((Ek.of e1).trans e2) t3 hi)
    fun p H2 ys _ e2 t2 hp hl hr => q p H2 ys ((Ek.of e1).trans e2) t2 hp hl hr⟩
theorem lcKRV {r : Addr} (hr : H r = some (.rng lo hi)) (hl : Ev tl σ H (.ref r)) (hb : -(2 ^ 62) ≤ lo ∧ lo < 2 ^ 62 ∧ -(2 ^ 62) ≤ hi ∧ hi < 2 ^ 62) (f : Nat → Bool) (v : Nat → V) (hz : (hi - lo).toNat ≤ 40000) (hT : Tabs T H)
    (hs : ∀ (i : Nat) H2, Ek T H H2 → Tabs T H2 → i < (hi - lo).toNat → ∃ σ2, (∀ k : L2.St → Hp → Prop, k σ2 H2 → g (.int (lo + i)) (wipe σ vs) H2 k) ∧ wipe σ2 vs = wipe σ vs ∧ TtK T tt σ2 H2 (f i) ∧ (f i = true → TeK T te σ2 H2 (v i)))
    (q : ∀ p H2, Ek T H H2 → Tabs T H2 → H2 p = some (.lst (given (hi - lo).toNat f v)) → Q (.ref p) H2) : tLc (iRngV tl) g tt te vs σ H Q :=
  hl H (Ex.refl H) _ fun H1 e1 => ⟨r, lo, hi, rfl, e1 _ _ hr, hb, lcK (walk_range (lo := lo) (n := (hi - lo).toNat)) f v hz (hT.ext e1) (fun _ _ => trivial) (fun i H1 x H2 y => by rw [y.1]; exact Ex.refl _)
    (fun i x H2 H3 hi e2 t3 y => by
      obtain ⟨rfl, rfl⟩ := y
      exact hs i _ ((Ek.of e1).trans e2) t3 hi)
    fun p H2 _ e2 t2 hp => q p H2 ((Ek.of e1).trans e2) t2 hp⟩
end
end Hr

/-! t + u and t[lo:hi] of tuples, whole or not: what comes is new, or one of them. -/
namespace Hr
open PySem PySem.Spec PyProof.Rows L2 Evl
/-- p holds the tuple zs at H', that is H, or H with p new -/
def Came (H : Hp) (p : Addr) (zs : List V) (H' : Hp) (old : List Addr) : Prop := (H' = H ∧ p ∈ old ∧ H p = some (.tup zs)) ∨ (H p = none ∧ H' = upd H p (.tup zs))
theorem Came.ex {H H' : Hp} {p : Addr} {zs : List V} {old : List Addr} (c : Came H p zs H' old) : Ex H H' := by
  rcases c with ⟨rfl, _, _⟩ | ⟨h, rfl⟩
  · exact Ex.refl _
  · exact Ex.new h
theorem Came.at {H H' : Hp} {p : Addr} {zs : List V} {old : List Addr} (c : Came H p zs H' old) : H' p = some (.tup zs) := by
  rcases c with ⟨rfl, _, h⟩ | ⟨h, rfl⟩
  · exact h
  · exact upd_same
def rCatN : R2 := fun x y H Q => ∃ a b xs ys, x = .ref a ∧ y = .ref b ∧ H a = some (.tup xs) ∧ H b = some (.tup ys) ∧ xs.length + ys.length ≤ sizeLine ∧ ∀ p H', Came H p (xs ++ ys) H' [a, b] → Q (.ref p) H'
theorem op_catN {X : Cx} : OpR X (binaryOp .Add) rCatN := by
  intro pins s σ H x y v u Q I rx ry h
  obtain ⟨a, b, xs, ys, ex, ey, ha, hb, hz, q⟩ := h
  refine op_catA pins s σ H x y v u Q I rx ry ⟨a, b, xs, ys, ex, ey, SqT.of ha, SqT.of hb, hz, fun e => ?_, fun _ e => ?_, fun _ _ p np => ?_⟩
  · refine q b H (.inl ⟨rfl, by simp, ?_⟩)
    rw [e]
    exact hb
  · refine q a H (.inl ⟨rfl, by simp, ?_⟩)
    rw [e, List.append_nil]
    exact ha
  · exact q p _ (.inr ⟨np, rfl⟩)
def rSlN : V → Option Int → Option Int → Hp → VK → Prop := fun x lo hi H Q => ∃ a xs, x = .ref a ∧ H a = some (.tup xs) ∧ ∀ p H', Came H p (cutV xs lo hi) H' [a] → Q (.ref p) H'
theorem sl_tupN {X : Cx} : SlR X rSlN := by
  intro pins s σ H x v vl vu lo hi sl Q I rx hs pl pu h
  obtain ⟨a, xs, ex, ha, q⟩ := h
  refine sl_tupA pins s σ H x v vl vu lo hi sl Q I rx hs pl pu ⟨a, xs, ex, SqT.of ha, fun w => ?_, fun _ p np => q p _ (.inr ⟨np, rfl⟩)⟩
  refine q a H (.inl ⟨rfl, by simp, ?_⟩)
  have e : cutV xs lo hi = xs := by
    unfold cutV
    rw [w.1, w.2, List.drop_zero, Nat.sub_zero, List.take_length]
  rw [e]
  exact ha
/-- beside a deck -/
theorem Dk.came {G H H' : Hp} {d p : Addr} {zs : List V} {old : List Addr} (k : Dk G d H) (c : Came H p zs H' old) (ho : ∀ a ∈ old, G a ≠ none) : ∃ G', Ex G G' ∧ G' p = some (.tup zs) ∧ Dk G' d H' := by
  rcases c with ⟨rfl, m, h⟩ | ⟨h, rfl⟩
  · refine ⟨G, Ex.refl G, ?_, k⟩
    cases e : G p with
    | none => exact absurd e (ho p m)
    | some o =>
      have := k.get e
      rw [h] at this
      exact this.symm
  · exact ⟨_, k.gex h, upd_same, k.made h⟩
section
variable {K : PySem.W.Frag} {σ : L2.St} {H : Hp} {te tl : TE} {g : TG} {tt : TT} {vs : List Nat} {ys : List V}
/-- over a tuple made on the way -/
theorem el_lcTN (hl : EvU tl σ H ys) (f : Nat → Bool) (v : Nat → V) (hz : ys.length ≤ 40000)
    (hs : ∀ i x H2, Ex H H2 → ys[i]? = some x → ∃ σ2, (∀ k : L2.St → Hp → Prop, k σ2 H2 → g x (wipe σ vs) H2 k) ∧ wipe σ2 vs = wipe σ vs ∧ EvT tt σ2 H2 (f i) ∧ (f i = true → Ev te σ2 H2 (v i))) :
    EvL (tLc (iTup K tl) g tt te vs) σ H (given ys.length f v) := fun H0 e Q q =>
  hl H0 e _ fun a H1 _ e1 h1 => ⟨a, rfl, ⟨_, SqT.of h1⟩, lcW (walk_tup (K := K) (a := a) (xs := ys)) f v hz (fun H2 e2 => SqT.of (e2 _ _ h1)) (fun i H1 x H2 y => by rw [y.1]; exact Ex.refl _)
    (fun i x H2 H3 hi e2 y => by
      obtain ⟨rfl, y2⟩ := y
      exact hs i x H3 ((e.trans e1).trans e2) y2) fun p H2 np e2 hp => q p H2 (fresh_back e1 np) (e1.trans e2) hp⟩
end
end Hr

set_option exponentiation.threshold 3000
namespace K81
open PySem PySem.Spec PyProof.Rows L2 Hr HrM Evl HrE_thing LamX RZ
theorem atI_is {α : Type} {xs : List α} {j : Int} {n : Nat} {v : α} (e : j = (n : Int)) (h : xs[n]? = some v) : atI xs j = some v := by
  subst e
  exact atI_nat h
theorem mvL_len (s : Int) (xs : List Int) : (mvL s xs).length = xs.length := rw_len _ _
theorem cut_from (is : List Int) (n : Nat) : cutV (iV is) (some (n : Int)) none = iV (is.drop n) := by
  unfold cutV
  rw [HT.sIx_nat, HT.sIx_none, iV_len]
  unfold iV
  rw [← List.map_drop, ← List.map_take]
  congr 1
  rw [List.take_of_length_le (by rw [List.length_drop]; omega)]
  by_cases h : n ≤ is.length
  · rw [Nat.min_eq_left h]
  · rw [Nat.min_eq_right (by omega), List.drop_eq_nil_of_le (Nat.le_refl _), List.drop_eq_nil_of_le (by omega)]
theorem froms_iv {l : Int} {ns : List Int} (h : ∀ x ∈ ns, l ≤ x) : fromsD l (.tuple (ns.map .int)) = true := by
  show (ns.map PyData.int).all (fromD l) = true
  rw [List.all_map, List.all_eq_true]
  intro x hx
  exact decide_eq_true (h x hx)
theorem given_none (n : Nat) (v : Nat → V) (f : Nat → Bool) (h : ∀ i, i < n → f i = false) : given n f v = [] := by
  unfold given
  rw [List.filter_eq_nil_iff.mpr fun i hi => by rw [h i (List.mem_range.mp hi)]; exact Bool.false_ne_true]
  rfl
section
variable {P : Program} {w : World} {K : PySem.W.Frag} {mg : Str → Option Value} {base : Heap}
def sp_beg : Sp := fun vs H Q _ => ∃ (a : Addr) (ns : List Int), vs = [.ref a] ∧ H a = some (.tup (iV ns)) ∧ 1 ≤ ns.length ∧ ns.length ≤ 17 ∧ ns.getD 0 0 = 1 ∧ RetV (.bl true) H Q
theorem ok_begins_with_1 (T : Txt K mg) : FnOk P w K mg base CX0 3 T.f_begins_with_1 T.d_begins_with_1 ["thing"] sp_beg := by
  have F_is_just := ok_just0 (P := P) (w := w) (base := base) T
  refine T.U_begins_with_1.ok sc_begins_with_1 (fun vs H Q E h => ?_) (fun cdv A outer s H vs Q E hr h => ?_)
  · obtain ⟨_, _, rfl, _⟩ := h
    rfl
  · obtain ⟨a, ns, rfl, ha, h1, h17, h0, q⟩ := h
    refine ⟨_, (pss_cons (ps_if (PW.pt (pw_or (pt_not (pt_val (pe_callB call_isi (by rfl) T.n_isinstance (by decide +kernel) (pa_cons (pv 0) (pa_cons (pe_bltn (v := .ty "tuple") (u := .type "tuple") (by rfl) T.n_tuple (by decide +kernel) rfl) pa_nil))))) (pw_or (pt_cmpR op_eq (pe_callB call_len_seq (by rfl) T.n_len PySem.boot_len (pa_cons (pv 0) pa_nil)) pe_int (nomark _)) (pw_or1 (pt_cmpR op_gt (pe_callB call_len_seq (by rfl) T.n_len PySem.boot_len (pa_cons (pv 0) pa_nil)) (pe_op op_add (pe_glob (v := .int 16) rfl T.c_MOST_COUNTS ⟨_, rfl⟩) pe_int) (nomark _)))))) (pss_one (ps_ret pe_bl)) pss_nil)
  (pss_one (ps_ret (pe_call F_is_just (hr.mono (by decide)) (by rfl) T.g_is_just T.k_is_just T.b_is_just .nil pass0 (pa_cons (pe_ix ix_tup (pv 0) pe_int (fun _ _ => rfl)) (pa_cons pe_int pa_nil)))))), ?_⟩
    have hl := iV_len ns
    refine ⟨_, rfl, _, _, _, _, true, rfl, .ty "tuple", .base (.tup ha), kit_ty (by decide +kernel), true, rfl, iteF ?_⟩
    refine ⟨_, rfl, a, _, rfl, .inr (SqT.of ha), rfl, _, rfl, ite_no ?_ ⟨_, rfl, a, _, rfl, .inr (SqT.of ha), _, _, rfl, rfl, _, _, rfl, rfl, _, rfl, ite_no ?_ ?_⟩⟩
    · exact decide_eq_false fun z => by injection z with z; omega
    · exact decide_eq_false (by omega)
    dsimp only [tNext]
    have h00 : (iV ns)[0]? = some (.int 1) := by rw [iV_ix (by omega), h0]
    exact ⟨_, rfl, a, _, ((0 : Nat) : Int), _, rfl, rfl, SqT.of ha, atI_nat h00, .int 1, .int 1, rfl, .int 1, q⟩
/-- counts of a right row -/
def sp_counts_of_h : Sp := fun vs H Q _ => ∃ (a : Addr) (ns : List Int), vs = [.ref a] ∧ H a = some (.tup (iV ns)) ∧ 1 ≤ ns.length ∧ ns.length ≤ 17 ∧ ns.getD 0 0 = 1 ∧ (∀ i, (ns.getD i 0).natAbs < 2 ^ 900) ∧ (∀ x ∈ (mvL 1 ns).drop 1, 1 ≤ x) ∧
  ∀ l H', H l = none → Ex H H' → H' l = some (.tup (iV ((mvL 1 ns).drop 1))) → Q (.ref l) H'
theorem ok_counts_of_h (T : Txt K mg) : FnOk P w K mg base CX0 6 T.f_counts_of_h T.d_counts_of_h ["numbers"] sp_counts_of_h := by
  have F_begins_with_1 := ok_begins_with_1 (P := P) (w := w) (base := base) T
  have F_is_integer := ok_is_integer (P := P) (w := w) (base := base) T
  have F_moved_row := ok_moved_row (P := P) (w := w) (base := base) T
  have F_are_integers_from := ok_are_integers_from (P := P) (w := w) (base := base) T
  refine T.U_counts_of_h.ok sc_counts_of_h (fun vs H Q E h => ?_) (fun cdv A outer s H vs Q E hr h => ?_)
  · obtain ⟨_, _, rfl, _⟩ := h
    rfl
  · obtain ⟨a, ns, rfl, ha, h1, h17, h0, hv, hp, q⟩ := h
    refine ⟨_, (pss_cons (ps_if (PW.pt (pw_or (pt_not (pt_val (pe_call F_begins_with_1 (hr.mono (by decide)) (by rfl) T.g_begins_with_1 T.k_begins_with_1 T.b_begins_with_1 .nil pass0 (pa_cons (pv 0) pa_nil)))) (pw_or1 (pt_not (pt_val (pe_callB (cr_all rfl) (by rfl) T.n_all (by decide +kernel) (pa_cons (pe_lc (own := [("number", 2)]) (g := gName 2) (tt := tYes) rfl sc_counts_of_h.nd (pi_tup (pv 0)) (blkOk_by (own := [("number", 2)]) (N := ["numbers", "counts", "number"]) (sc := defScope s_counts_of_h) (by decide +kernel)) (fun _ _ _ _ _ => pg_name (i := 2) sc_counts_of_h.nd rfl (Or.inl rfl)) (fun _ _ _ _ _ => pts_nil) (fun _ _ _ _ _ => (pe_call F_is_integer (hr.mono (by decide)) (by rfl) T.g_is_integer T.k_is_integer T.b_is_integer .nil pass0 (pa_cons (pv 2) pa_nil)))) pa_nil))))))) (pss_one ps_never) pss_nil)
  (pss_cons (ps_set (i := 1) sc_counts_of_h.nd rfl (.inl rfl) (pe_slice sl_tup (pe_call F_moved_row (hr.mono (by decide)) (by rfl) T.g_moved_row T.k_moved_row T.b_moved_row .nil pass0 (pa_cons (pv 0) (pa_cons pe_int pa_nil))) (po_some pe_int) po_none))
  (pss_cons (ps_if (pt_not (pt_val (pe_call F_are_integers_from (hr.mono (by decide)) (by rfl) T.g_are_integers_from T.k_are_integers_from T.b_are_integers_from .nil pass0 (pa_cons (pv 1) (pa_cons pe_int pa_nil))))) (pss_one ps_never) pss_nil)
  (pss_one (ps_ret (pv 1)))))), ?_⟩
    refine ⟨_, rfl, a, ns, rfl, ha, h1, h17, h0, fun H1 e1 => ⟨_, rfl, iteF ?_⟩⟩
    refine r_cb (r_arg ?_)
    refine el_lcT (K := K) (e1 _ _ ha) (ev_var rfl) (fun _ => true) (fun i => .bl true) (by rw [iV_len]; omega) ?_ H1 (Ex.refl H1) _ ?_
    · intro i x H2 e hx
      obtain ⟨rfl, _⟩ := iV_at hx
      exact ⟨[some (.ref a), none, some (.int (ns.getD i 0))], fun k hk => hk, rfl, et_yes, fun _ H3 e3 Q3 q3 => ⟨_, rfl, _, .int _, rfl, .int _, q3 H3 (Ex.refl H3)⟩⟩
    · intro p H2 np e hp2
      rw [given_all, bools] at hp2
      refine ⟨p, _, rfl, SqL.of hp2, _, rfl, ?_⟩
      rw [all_yes]
      refine iteF ?_
      dsimp only [tNext]
      have e2 := e1.trans e
      refine ⟨_, rfl, a, ns, 1, rfl, e2 _ _ ha, h1, h17, .inl rfl, hv, fun l H3 nl e3 hl3 => ?_⟩
      have hm : (iV (mvL 1 ns)).length = ns.length := by rw [iV_len, mvL_len]
      refine ⟨1, rfl, l, _, rfl, SqT.of hl3, ?_, fun p np => ?_⟩
      · rintro ⟨z, _⟩
        have z' : HT.sIx (iV (mvL 1 ns)).length 0 (some ((1 : Nat) : Int)) = 0 := z
        rw [HT.sIx_nat, hm] at z'
        omega
      have ec : cutV (iV (mvL 1 ns)) (some ((1 : Nat) : Int)) none = iV ((mvL 1 ns).drop 1) := cut_from _ 1
      have e4 : Ex H3 (upd H3 p (.tup (cutV (iV (mvL 1 ns)) (some ((1 : Nat) : Int)) none))) := Ex.new np
      have hp4 : (upd H3 p (.tup (cutV (iV (mvL 1 ns)) (some ((1 : Nat) : Int)) none))) p = some (.tup (iV ((mvL 1 ns).drop 1))) := by rw [upd_same, ec]
      have E4 := e2.trans (e3.trans e4)
      refine ⟨_, rfl, .ref p, .tuple (((mvL 1 ns).drop 1).map .int), 1, rfl, .tup hp4 (DxA.ints _), ?_, fun H5 e5 => ⟨_, rfl, ?_⟩⟩
      · rw [items_map, List.length_drop, mvL_len]
        omega
      rw [froms_iv hp]
      refine iteF ?_
      dsimp only [tNext]
      exact ⟨_, rfl, q p H5 (fresh_back (e2.trans e3) np) (E4.trans e5) (e5 _ _ hp4)⟩
def sp_one_of : Sp := fun vs H Q _ => ∃ (v : V) (l : Addr) (u : V), vs = [v, .ref l] ∧ H l = some (.lst [u]) ∧ Sm H 2 v u ∧ RetV (.bl true) H Q
theorem ok_is_one_of (T : Txt K mg) : FnOk P w K mg base CX0 5 T.f_is_one_of T.d_is_one_of ["thing", "rights"] sp_one_of := by
  have F_is_just := ok_just2 (P := P) (w := w) (base := base) T
  refine T.U_is_one_of.ok sc_is_one_of (fun vs H Q E h => ?_) (fun cdv A outer s H vs Q E hr h => ?_)
  · obtain ⟨_, _, _, rfl, _⟩ := h
    rfl
  · obtain ⟨v, l, u, rfl, hl, sm, q⟩ := h
    refine ⟨_, (pss_one (ps_ret (pe_callB (cr_any rfl) (by rfl) T.n_any (by decide +kernel) (pa_cons (pe_lc (own := [("right", 2)]) (g := gName 2) (tt := tYes) rfl sc_is_one_of.nd (pi_list (pv 1)) (blkOk_by (own := [("right", 2)]) (N := ["thing", "rights", "right"]) (sc := defScope s_is_one_of) (by decide +kernel)) (fun _ _ _ _ _ => pg_name (i := 2) sc_is_one_of.nd rfl (Or.inl rfl)) (fun _ _ _ _ _ => pts_nil) (fun _ _ _ _ _ => (pe_call F_is_just (hr.mono (by decide)) (by rfl) T.g_is_just T.k_is_just T.b_is_just .nil pass0 (pa_cons (pv 0) (pa_cons (pv 2) pa_nil))))) pa_nil)))), ?_⟩
    refine r_ret (r_cb (r_arg ?_))
    refine el_lcW (H := H) (walk_list (a := l) (xs := [u])) (fun _ => true) (fun i => .bl true) (by show 1 ≤ 40000; decide)
      (fun H1 e R k => ⟨_, rfl, l, rfl, ⟨[u], SqL.of (e _ _ hl)⟩, k H1 (Ex.refl H1)⟩) (fun H1 e => SqL.of (e _ _ hl)) (fun i H1 x H2 y => by rw [y.1]; exact Ex.refl _) ?_ H (Ex.refl H) _ ?_
    · rintro i x H1 H2 hi e ⟨rfl, hx⟩
      have e0 : x = u := by
        cases i with
        | zero => exact (Option.some.inj hx).symm
        | succ i => simp at hx
      subst e0
      exact ⟨[some v, some (.ref l), some x], fun k hk => hk, rfl, et_yes, fun _ H3 e3 Q3 q3 => ⟨_, rfl, _, rfl, v, x, rfl, sm.more (e.trans e3), q3⟩⟩
    · intro p H2 np e hp
      rw [given_all, bools] at hp
      refine ⟨p, _, rfl, SqL.of hp, ?_⟩
      exact q H2 e
/-- rows that fit -/
structure FitG (m : Nat) (g : Nat → Int) : Prop where
  m8 : m ≤ 8
  g0 : g 0 = 1
  nn : ∀ k, 0 ≤ g k
  small : ∀ k, k ≤ m → (g k).natAbs < 2 ^ 1800
  fit : ∀ k, 1 ≤ k → k < m → g (k + 1) ≤ ((Uf 1 k (g k).toNat : Nat) : Int)
theorem four_U (s : Nat) (xs : List Nat) : four gUP s xs = sU 1 s xs := rfl
theorem toNat_lt {g : Int} {b : Nat} (h0 : 0 ≤ g) (h : g.natAbs < b) : g.toNat < b := by omega
def sp_rc (TL : List (Addr × Str)) : Sp := fun vs H Q _ => ∃ (a : Addr) (m : Nat) (g : Nat → Int), vs = [.ref a] ∧ H a = some (.tup (iV (rw' (m + 1) g))) ∧ FitG m g ∧ Tabs TL H ∧ ∀ F t u H', Ek TL H H' → H' F = some (.lst [.ref t]) → H' t = some (.tup [.str "fits", u]) → Q (.ref F) H'
theorem ok_row_certificates (T : Txt K mg) (TB : TabB base mg T.c_greatest_top T.P_greatest_top) : FnOk P w K mg base CX0 6 T.f_row_certificates T.d_row_certificates ["row"] (sp_rc (tabs T)) := by
  have F_begins_with_1 := ok_begins_with_1 (P := P) (w := w) (base := base) T
  have F_are_integers_from := ok_are_integers_from (P := P) (w := w) (base := base) T
  have F_upper_products := ok_upper_products (P := P) (w := w) (base := base) T TB
  refine T.U_row_certificates.ok sc_row_certificates (fun vs H Q E h => ?_) (fun cdv A outer s H vs Q E hr h => ?_)
  · obtain ⟨_, _, _, rfl, _⟩ := h
    rfl
  · obtain ⟨a, m, g, rfl, ha, fg, hT, q⟩ := h
    refine ⟨_, (pss_cons (ps_if (PW.pt (pw_or (pt_not (pt_val (pe_call F_begins_with_1 (hr.mono (by decide)) (by rfl) T.g_begins_with_1 T.k_begins_with_1 T.b_begins_with_1 .nil pass0 (pa_cons (pv 0) pa_nil)))) (pw_or1 (pt_not (pt_val (pe_call F_are_integers_from (hr.mono (by decide)) (by rfl) T.g_are_integers_from T.k_are_integers_from T.b_are_integers_from .nil pass0 (pa_cons (pv 0) (pa_cons pe_int pa_nil)))))))) (pss_one ps_never) pss_nil)
  (pss_cons (ps_set (i := 1) sc_row_certificates.nd rfl (.inl rfl) (pe_callTy cr_range2 (by rfl) T.n_range (by decide +kernel) (pa_cons pe_int (pa_cons (pe_op op_sub (pe_callB call_len_seq (by rfl) T.n_len PySem.boot_len (pa_cons (pv 0) pa_nil)) pe_int) pa_nil))))
  (pss_cons (ps_set (i := 2) sc_row_certificates.nd rfl (.inr rfl) (pe_callTy call_tuple_of (by rfl) T.n_tuple (by decide +kernel) (pa_cons (pe_lc (own := [("k", 4)]) (g := gName 4) (tt := tYes) rfl sc_row_certificates.nd (pi_rngV (pv 1)) (blkOk_by (own := [("k", 4)]) (N := ["row", "degrees", "uppers", "faults", "k"]) (sc := defScope s_row_certificates) (by decide +kernel)) (fun _ _ _ _ _ => pg_name (i := 4) sc_row_certificates.nd rfl (Or.inl rfl)) (fun _ _ _ _ _ => pts_nil) (fun _ _ _ _ _ => (pe_call F_upper_products (hr.mono (by decide)) (by rfl) T.g_upper_products T.k_upper_products T.b_upper_products .nil pass0 (pa_cons (pe_ix (r := rIxT K) ix_tup (pv 0) (pv 4) (fun _ _ => rfl)) (pa_cons (pv 4) pa_nil))))) pa_nil)))
  (pss_cons (ps_setLc (i := 3) (own := [("k", 4)]) (g := gName 4) (tt := _) (by rfl) sc_row_certificates.nd rfl rfl (sw_true rfl rfl rfl (by decide +kernel)) (pi_rngV (pv 1)) (blkOk_by (own := [("k", 4)]) (N := ["row", "degrees", "uppers", "faults", "k"]) (sc := defScope s_row_certificates) (by decide +kernel)) (fun _ _ _ _ _ => pg_name (i := 4) sc_row_certificates.nd rfl (Or.inl rfl)) (fun _ _ _ _ _ => pts_one (pt_cmpR op_gt (pe_ix (r := rIxT K) ix_tup (pv 0) (pe_op op_add (pv 4) pe_int) (fun _ _ => rfl)) (pe_ix (r := rIxT K) ix_tup (pv 2) (pe_op op_sub (pv 4) pe_int) (fun _ _ => rfl)) (nomark _))) (fun _ _ _ _ _ => (pe_tup (pa_cons pe_str (pa_cons (pv 4) pa_nil)))))
  (pss_cons (ps_if (pt_cmpR op_gt (pe_callB call_len_seq (by rfl) T.n_len PySem.boot_len (pa_cons (pv 3) pa_nil)) pe_int (nomark _)) (pss_one (ps_ret (pv 3))) pss_nil)
  (pss_one (ps_ret (pe_lst (pa_cons (pe_tup (pa_cons pe_str (pa_cons (pv 2) pa_nil))) pa_nil))))))))), ?_⟩
    have m8 := fg.m8
    have hrl := rw_len (m + 1) g
    refine ⟨_, rfl, a, _, rfl, ha, by omega, by omega, by rw [rw_at (by omega)]; exact fg.g0, fun H1 e1 => ⟨_, rfl, iteF ⟨_, rfl, .ref a, _, 0, rfl, .tup (e1 _ _ ha) (DxA.ints _), by rw [items_map]; omega, fun H2 e2 => ⟨_, rfl, ?_⟩⟩⟩⟩
    rw [froms_iv (fun x hx => by
      obtain ⟨k, _, rfl⟩ := List.mem_map.mp hx
      exact fg.nn k)]
    refine iteF ?_
    dsimp only [tNext]
    have e12 := e1.trans e2
    refine ⟨_, rfl, a, _, rfl, .inr (SqT.of (e12 _ _ ha)), _, _, rfl, rfl, _, _, rfl, fun r nr => ?_⟩
    have en : (((iV (rw' (m + 1) g)).length : Nat) : Int) - 1 = (m : Int) := by rw [iV_len, hrl]; omega
    rw [en]
    have e3 := e12.trans (Ex.new (o := .rng 1 (m : Int)) nr)
    have hr3 : (upd H2 r (.rng 1 (m : Int))) r = some (.rng 1 (m : Int)) := upd_same
    generalize upd H2 r (.rng 1 (m : Int)) = H3 at e3 hr3 ⊢
    have ha3 := e3 _ _ ha
    have hN : ((m : Int) - 1).toNat = m - 1 := by omega
    dsimp only
    refine r_seq (r_set (r_cb (r_arg ?_)))
    refine lcKRV (T := tabs T) (H := H3) hr3 (ev_var rfl) (by omega) (fun _ => true) (fun i => .int ((Uf 1 (i + 1) (g (i + 1)).toNat : Nat) : Int)) (by omega) (hT.ext e3) ?_ ?_
    · intro i H4 e4 t4 hi
      have ek : (1 : Int) + (i : Int) = ((i + 1 : Nat) : Int) := by omega
      rw [ek]
      refine ⟨[some (.ref a), some (.ref r), none, none, some (.int ((i + 1 : Nat) : Int))], fun k hk => hk, rfl, .yes t4, fun _ => ?_⟩
      intro H5 e5 t5 Q5 q5
      have hgt : g (i + 1) = (((g (i + 1)).toNat : Nat) : Int) := (Int.toNat_of_nonneg (fg.nn _)).symm
      have hsm : (g (i + 1)).toNat < 2 ^ 1900 := Nat.lt_of_lt_of_le (toNat_lt (fg.nn _) (fg.small (i + 1) (by omega))) (Nat.pow_le_pow_right (by decide) (by decide))
      have hix : (iV (rw' (m + 1) g))[i + 1]? = some (.int (((g (i + 1)).toNat : Nat) : Int)) := by rw [iV_ix (by omega), rw_at (by omega), ← hgt]
      refine ⟨_, rfl, _, rfl, a, _, _, _, rfl, rfl, SqT.of (e5.get (e4.get ha3)), atI_nat hix, _, rfl, (g (i + 1)).toNat, i + 1, rfl, hsm, by omega, by omega, t5, fun xs c v H6 e6 => ?_⟩
      have := cc_eq (by omega) c v
      rw [four_U, this] at *
      exact q5 H6 e6 (e6.t t5)
    · intro p H4 e4 t4 hp
      rw [given_rw, hN] at hp
      refine ⟨p, _, rfl, .inl ⟨SqL.of hp, fun l nl' => ?_⟩⟩
      generalize hU : rw' (m - 1) (fun i => ((Uf 1 (i + 1) (g (i + 1)).toNat : Nat) : Int)) = us at hp ⊢
      have e5 := ((Ek.of e3).trans e4).ex (Ex.new (o := .tup (iV us)) nl')
      have hl5 : (upd H4 l (.tup (iV us))) l = some (.tup (iV us)) := upd_same
      have hr5 := (Ex.new (o := .tup (iV us)) nl') _ _ (e4.get hr3)
      generalize upd H4 l (.tup (iV us)) = H5 at e5 hl5 hr5 ⊢
      have ha5 := e5.get ha
      dsimp only
      refine r_seq (el_lcRV (H := H5) hr5 (ev_var rfl) (by omega) (fun _ => false) (fun i => .non) (by omega) ?_ H5 (Ex.refl _) _ ?_)
      · intro i H6 e6 hi
        have ek : (1 : Int) + (i : Int) = ((i + 1 : Nat) : Int) := by omega
        rw [ek]
        refine ⟨[some (.ref a), some (.ref r), some (.ref l), none, some (.int ((i + 1 : Nat) : Int))], fun k hk => hk, rfl, ?_, fun h => nomatch h⟩
        intro H7 e7 Q7 q7
        have hf := fg.fit (i + 1) (by omega) (by omega)
        have hu : (iV us)[i]? = some (.int ((Uf 1 (i + 1) (g (i + 1)).toNat : Nat) : Int)) := by rw [← hU, iV_ix (by rw [rw_len]; omega), rw_at (by omega)]
        have hg2 : (iV (rw' (m + 1) g))[i + 2]? = some (.int (g (i + 2))) := by rw [iV_ix (by omega), rw_at (by omega)]
        refine ⟨_, rfl, _, rfl, _, _, rfl, rfl, a, _, _, _, rfl, rfl, SqT.of (e7 _ _ (e6 _ _ ha5)), atI_is (n := i + 2) (by omega) hg2, _, rfl, _, rfl, _, _, rfl, rfl, l, _, _, _, rfl, rfl, SqT.of (e7 _ _ (e6 _ _ hl5)), atI_is (n := i) (by omega) hu, _, _, rfl, rfl, _, rfl, ?_⟩
        have hd : decide (((Uf 1 (i + 1) (g (i + 1)).toNat : Nat) : Int) < g (i + 2)) = false := decide_eq_false (by
          have z : i + 1 + 1 = i + 2 := rfl
          rw [z] at hf
          omega)
        rw [hd]
        exact q7 H7 (Ex.refl _)
      · intro o H6 no e6 ho
        rw [given_none _ _ _ fun _ _ => rfl] at ho
        have hl6 := e6 _ _ hl5
        refine ⟨_, rfl, o, _, rfl, .inl (SqL.of ho), _, _, rfl, rfl, _, rfl, ite_no rfl ?_⟩
        refine ⟨_, rfl, by show 2 ≤ sizeLine; decide, fun t nt => ⟨by show 1 ≤ sizeLine; decide, fun p2 np2 => ?_⟩⟩
        exact q p2 t (.ref l) _ ((e5.ex e6).ex ((Ex.new nt).trans (Ex.new np2))) upd_same ((Ex.new np2) _ _ upd_same)
end
end K81

set_option exponentiation.threshold 3000
namespace K81
open PySem PySem.Spec PyProof.Rows L2 Hr HrM Evl HrE_thing LamX RZ
theorem mvL_at {s : Int} {xs : List Int} {i : Nat} (h : i < xs.length) : (mvL s xs).getD i 0 = mvA s (xs.length - 1) (fun i => xs.getD i 0) i := rw_at h
theorem mvL_back {s s' : Int} (hs : s * s = 1) (e : s' = -s) (xs : List Int) : mvL s' (mvL s xs) = xs := by
  apply List.ext_getElem?
  intro j
  by_cases hj : j < xs.length
  · have e1 : (mvL s' (mvL s xs))[j]? = some (mvA s' ((mvL s xs).length - 1) (fun i => (mvL s xs).getD i 0) j) := rw_get (by rw [mvL_len]; exact hj)
    rw [e1, mvL_len]
    have e2 : mvA s' (xs.length - 1) (fun i => (mvL s xs).getD i 0) j = mvA s' (xs.length - 1) (mvA s (xs.length - 1) fun i => xs.getD i 0) j := mvA_congr fun i hi => mvL_at (by omega)
    rw [e2, mvA_back hs e (by omega), List.getElem?_eq_getElem hj, List.getD_eq_getElem?_getD, List.getElem?_eq_getElem hj]
    rfl
  · rw [List.getElem?_eq_none (by rw [mvL_len, mvL_len]; omega), List.getElem?_eq_none (by omega)]
theorem drop_row (n : Nat) (f : Nat → Int) : (rw' (n + 1) f).drop 1 = rw' n fun i => f (i + 1) := by
  unfold rw'
  rw [List.range_succ_eq_map, List.map_cons, List.map_map]
  rfl
theorem rw_cons (n : Nat) (f : Nat → Int) : rw' (n + 1) f = f 0 :: rw' n fun i => f (i + 1) := by
  unfold rw'
  rw [List.range_succ_eq_map, List.map_cons, List.map_map]
  rfl
theorem rw_congr {n : Nat} {f g : Nat → Int} (h : ∀ i, i < n → f i = g i) : rw' n f = rw' n g := List.map_congr_left fun i hi => h i (List.mem_range.mp hi)
/-- the row h and the counts that come of g -/
def hsL (d : Nat) (g : Nat → Int) : List Int := rw' (d + 1) (symR g d)
def csL (d : Nat) (g : Nat → Int) : List Int := rw' d fun j => mvA 1 d (symR g d) (j + 1)
def gsL (m : Nat) (g : Nat → Int) : List Int := rw' (m + 1) g
theorem hs_len (d : Nat) (g : Nat → Int) : (hsL d g).length = d + 1 := rw_len _ _
theorem cs_len (d : Nat) (g : Nat → Int) : (csL d g).length = d := rw_len _ _
theorem gs_len (m : Nat) (g : Nat → Int) : (gsL m g).length = m + 1 := rw_len _ _
theorem mv_hs (d : Nat) (g : Nat → Int) : mvL 1 (hsL d g) = rw' (d + 1) (mvA 1 d (symR g d)) := by
  unfold mvL
  rw [hs_len, Nat.add_sub_cancel]
  exact rw_congr fun i hi => mvA_congr fun j hj => rw_at (by omega)
theorem mv_hs1 (d : Nat) (g : Nat → Int) : (mvL 1 (hsL d g)).drop 1 = csL d g := by rw [mv_hs, drop_row]; rfl
theorem one_cs {d : Nat} {g : Nat → Int} (h0 : g 0 = 1) : (1 : Int) :: csL d g = mvL 1 (hsL d g) := by
  rw [mv_hs, rw_cons, mvA_zero]
  have : symR g d 0 = 1 := by
    unfold symR
    rw [Nat.zero_min]
    show 0 + g 0 = 1
    omega
  rw [this]
  rfl
theorem back_hs {d : Nat} {g : Nat → Int} (h0 : g 0 = 1) : mvL (-1) (1 :: csL d g) = hsL d g := by rw [one_cs h0, mvL_back (by decide) rfl]
theorem cs_pos {d : Nat} {g : Nat → Int} (h0 : g 0 = 1) (hn : ∀ k, 0 ≤ g k) : ∀ x ∈ csL d g, 1 ≤ x := by
  intro x hx
  obtain ⟨j, hj, rfl⟩ := List.mem_map.mp hx
  exact mv_nn (fun i _ => symR_nn hn h0) (by have := List.mem_range.mp hj; omega)
theorem getD_mem {xs : List Int} {b : Nat} (hb : 0 < b) (h : ∀ x ∈ xs, x.natAbs < b) (i : Nat) : (xs.getD i 0).natAbs < b := by
  rw [List.getD_eq_getElem?_getD]
  cases e : xs[i]? with
  | none => exact hb
  | some x => exact h x (List.mem_of_getElem? e)
section
variable {P : Program} {w : World} {K : PySem.W.Frag} {mg : Str → Option Value} {base : Heap}
def sp_sc (TL : List (Addr × Str)) : Sp := fun vs H Q _ => ∃ (a : Addr) (d : Nat) (g : Nat → Int), vs = [.ref a] ∧ 2 ≤ d ∧ d ≤ 16 ∧ H a = some (.tup (iV (csL d g))) ∧ FitG (d / 2) g ∧ (∀ x ∈ csL d g, x.natAbs < 2 ^ 300) ∧ Tabs TL H ∧
  ∀ F t u H', Ek TL H H' → H' F = some (.lst [.ref t]) → H' t = some (.tup [.str "fits", .ref u]) → H' u = some (.tup (iV (gsL (d / 2) g))) → Q (.ref F) H'
theorem ok_sphere_certificates (T : Txt K mg) (TB : TabB base mg T.c_greatest_top T.P_greatest_top) : FnOk P w K mg base CX0 7 T.f_sphere_certificates T.d_sphere_certificates ["counts"] (sp_sc (tabs T)) := by
  have F_check_some_counts := ok_check_some_counts (P := P) (w := w) (base := base) T
  have F_h_row := ok_h_row (P := P) (w := w) (base := base) T
  have F_row_certificates := ok_row_certificates (P := P) (w := w) (base := base) T TB
  refine T.U_sphere_certificates.ok sc_sphere_certificates (fun vs H Q E h => ?_) (fun cdv A outer s H vs Q E hr h => ?_)
  · obtain ⟨_, _, _, rfl, _⟩ := h
    rfl
  · obtain ⟨a, d, g, rfl, d2, d16, ha, fg, hsm, hT, q⟩ := h
    refine ⟨_, (pss_cons (ps_expr (pe_call F_check_some_counts (hr.mono (by decide)) (by rfl) T.g_check_some_counts T.k_check_some_counts T.b_check_some_counts .nil pass0 (pa_cons (pv 0) pa_nil)))
  (pss_cons (ps_set (i := 1) sc_sphere_certificates.nd rfl (.inr rfl) (pe_call F_h_row (hr.mono (by decide)) (by rfl) T.g_h_row T.k_h_row T.b_h_row .nil pass0 (pa_cons (pv 0) pa_nil)))
  (pss_cons (ps_set (i := 2) sc_sphere_certificates.nd rfl (.inr rfl) (pe_callB call_len_seq (by rfl) T.n_len PySem.boot_len (pa_cons (pv 0) pa_nil)))
  (pss_cons (ps_setLc (i := 3) (own := [("i", 7)]) (g := gName 7) (tt := _) (by rfl) sc_sphere_certificates.nd rfl rfl (sw_true rfl rfl rfl (by decide +kernel)) (pi_range1 rfl T.n_range (pa_cons (pe_op op_fdivN (pe_op op_add (pv 2) pe_int) pe_int) pa_nil)) (blkOk_by (own := [("i", 7)]) (N := ["counts", "row", "last", "unequal", "steps", "below", "certificates", "i", "step"]) (sc := defScope s_sphere_certificates) (by decide +kernel)) (fun _ _ _ _ _ => pg_name (i := 7) sc_sphere_certificates.nd rfl (Or.inl rfl)) (fun _ _ _ _ _ => pts_one (pt_cmpR op_ne (pe_ix (r := rIxT K) ix_tup (pv 1) (pv 7) (fun _ _ => rfl)) (pe_ix (r := rIxT K) ix_tup (pv 1) (pe_op op_sub (pv 2) (pv 7)) (fun _ _ => rfl)) (nomark _))) (fun _ _ _ _ _ => (pe_tup (pa_cons pe_str (pa_cons (pv 7) pa_nil)))))
  (pss_cons (ps_if (pt_cmpR op_gt (pe_callB call_len_seq (by rfl) T.n_len PySem.boot_len (pa_cons (pv 3) pa_nil)) pe_int (nomark _)) (pss_one (ps_ret (pv 3))) pss_nil)
  (pss_cons (ps_set (i := 4) sc_sphere_certificates.nd rfl (.inl rfl) (pe_op op_catN (pe_tup (pa_cons pe_int pa_nil)) (pe_callTy call_tuple_of (by rfl) T.n_tuple (by decide +kernel) (pa_cons (pe_lc (own := [("i", 7)]) (g := gName 7) (tt := tYes) rfl sc_sphere_certificates.nd (pi_range2 rfl T.n_range (pa_cons pe_int (pa_cons (pe_op op_add (pe_op op_fdivN (pv 2) pe_int) pe_int) pa_nil))) (blkOk_by (own := [("i", 7)]) (N := ["counts", "row", "last", "unequal", "steps", "below", "certificates", "i", "step"]) (sc := defScope s_sphere_certificates) (by decide +kernel)) (fun _ _ _ _ _ => pg_name (i := 7) sc_sphere_certificates.nd rfl (Or.inl rfl)) (fun _ _ _ _ _ => pts_nil) (fun _ _ _ _ _ => (pe_op op_sub (pe_ix (r := rIxT K) ix_tup (pv 1) (pv 7) (fun _ _ => rfl)) (pe_ix (r := rIxT K) ix_tup (pv 1) (pe_op op_sub (pv 7) pe_int) (fun _ _ => rfl))))) pa_nil))))
  (pss_cons (ps_setLc (i := 5) (own := [("i", 7), ("step", 8)]) (g := gTup K 2 (gCons (gName 7) (gCons (gName 8) (gNil)))) (tt := _) (by rfl) sc_sphere_certificates.nd rfl rfl (sw_true rfl rfl rfl (by decide +kernel)) (pi_enumT (by rfl) T.n_enumerate (pa_cons (pv 4) pa_nil)) (blkOk_by (own := [("i", 7), ("step", 8)]) (N := ["counts", "row", "last", "unequal", "steps", "below", "certificates", "i", "step"]) (sc := defScope s_sphere_certificates) (by decide +kernel)) (fun _ _ _ _ _ => pg_tup rfl (pgs_cons (pg_name (i := 7) sc_sphere_certificates.nd rfl (Or.inl rfl)) (pgs_cons (pg_name (i := 8) sc_sphere_certificates.nd rfl (Or.inl rfl)) pgs_nil))) (fun _ _ _ _ _ => pts_one (pt_cmpR op_lt (pv 8) pe_int (nomark _))) (fun _ _ _ _ _ => (pe_tup (pa_cons pe_str (pa_cons (pv 7) pa_nil)))))
  (pss_cons (ps_if (pt_cmpR op_gt (pe_callB call_len_seq (by rfl) T.n_len PySem.boot_len (pa_cons (pv 5) pa_nil)) pe_int (nomark _)) (pss_one (ps_ret (pv 5))) pss_nil)
  (pss_cons (ps_set (i := 6) sc_sphere_certificates.nd rfl (.inl rfl) (pe_call F_row_certificates (hr.mono (by decide)) (by rfl) T.g_row_certificates T.k_row_certificates T.b_row_certificates .nil pass0 (pa_cons (pv 4) pa_nil)))
  (pss_cons (ps_if (pt_cmpR op_ne (pe_ix ix_tup (pe_ix ix_list (pv 6) pe_int (fun _ _ => rfl)) pe_int (fun _ _ => rfl)) pe_str (nomark _)) (pss_one (ps_ret (pv 6))) pss_nil)
  (pss_one (ps_ret (pe_lst (pa_cons (pe_tup (pa_cons pe_str (pa_cons (pv 4) pa_nil))) pa_nil)))))))))))))), ?_⟩
    have hcl := cs_len d g
    have hpos := cs_pos (d := d) fg.g0 fg.nn
    have hhl := hs_len d g
    refine ⟨_, rfl, .ref a, _, rfl, .tup ha (DxA.ints _), by rw [items_map]; omega, countsB_of (by omega) hpos, by rw [items_map]; omega, fun H1 e1 => ?_⟩
    refine ⟨_, rfl, a, _, rfl, e1 _ _ ha, by omega, by omega, hpos, getD_mem (by decide) hsm, fun hrow H2 nl e2 hh2 => ?_⟩
    rw [back_hs fg.g0] at hh2
    have e12 := e1.trans e2
    refine ⟨_, rfl, a, _, rfl, .inr (SqT.of (e12 _ _ ha)), ?_⟩
    have ea : ((iV (csL d g)).length : Int) = (d : Int) := by rw [iV_len, hcl]
    rw [ea]
    dsimp only [gName]
    have hsx : ∀ i, i ≤ d → (iV (hsL d g))[i]? = some (.int (symR g d i)) := fun i hi => by rw [iV_ix (by omega)]; congr 2; exact rw_at (by omega)
    -- unequal
    have en : ((d : Int) + 1).fdiv 2 = (((d + 1) / 2 : Nat) : Int) := by
      rw [Int.fdiv_eq_ediv_of_nonneg _ (by decide)]
      omega
    refine r_seq (el_lcR1 (H := H2) (n := (((d + 1) / 2 : Nat) : Int)) ?_ (by omega) (fun _ => false) (fun _ => .non) (by omega) ?_ H2 (Ex.refl _) _ ?_)
    · intro H3 e3 Q3 q3
      refine ⟨_, rfl, _, _, rfl, rfl, _, _, rfl, rfl, ⟨by decide, by decide⟩, ?_⟩
      have z := q3 H3 (Ex.refl _)
      rw [← en] at z
      exact z
    · intro i H3 e3 hi
      have e0 : (0 : Int) + (i : Int) = (i : Int) := Int.zero_add _
      rw [e0]
      refine ⟨[some (.ref a), some (.ref hrow), some (.int d), none, none, none, none, some (.int (i : Int)), none], fun k hk => hk, rfl, ?_, fun h => nomatch h⟩
      intro H4 e4 Q4 q4
      have hi' : i ≤ d := by omega
      have h4 := e4 _ _ (e3 _ _ hh2)
      refine ⟨_, rfl, _, rfl, hrow, _, _, _, rfl, rfl, SqT.of h4, atI_nat (hsx i hi'), _, rfl, _, rfl, _, rfl, _, _, rfl, rfl, hrow, _, _, _, rfl, rfl, SqT.of h4, atI_is (n := d - i) (by omega) (hsx (d - i) (by omega)), rfl, _, rfl, ?_⟩
      rw [symR_sym hi', decide_eq_true rfl]
      exact q4 H4 (Ex.refl _)
    intro u1 H3 nu1 e3 hu1
    rw [given_none _ _ _ fun _ _ => rfl] at hu1
    dsimp only
    refine ⟨_, rfl, u1, _, rfl, .inl (SqL.of hu1), _, _, rfl, rfl, _, rfl, ite_no rfl ?_⟩
    dsimp only [tNext]
    have e13 := e12.trans e3
    have hh3 := e3 _ _ hh2
    -- steps
    have em : ((d : Int)).fdiv 2 = ((d / 2 : Nat) : Int) := by
      rw [Int.fdiv_eq_ediv_of_nonneg _ (by decide)]
      omega
    refine r_seq (r_set ?_)
    refine ⟨by show 1 ≤ sizeLine; decide, fun c nc => ?_⟩
    refine r_cb (r_arg ?_)
    have e4 : Ex H3 (upd H3 c (.tup [.int 1])) := Ex.new nc
    refine el_lcR (H := upd H3 c (.tup [.int 1])) (lo := 1) (hi := ((d / 2 : Nat) : Int) + 1) ?_ (by omega) (fun _ => true) (fun i => .int (g (i + 1))) (by omega) ?_ _ (Ex.refl _) _ ?_
    · intro H4 e4 Q4 q4
      refine ⟨_, rfl, _, _, rfl, rfl, ⟨by decide, by decide⟩, _, _, rfl, rfl, ?_⟩
      have z := q4 H4 (Ex.refl _)
      rw [← em] at z
      exact z
    · intro i H5 e5 hi
      have e0 : (1 : Int) + (i : Int) = ((i + 1 : Nat) : Int) := by omega
      rw [e0]
      refine ⟨[some (.ref a), some (.ref hrow), some (.int d), some (.ref u1), none, none, none, some (.int ((i + 1 : Nat) : Int)), none], fun k hk => hk, rfl, et_yes, fun _ => ?_⟩
      intro H6 e6 Q6 q6
      have h6 := e6 _ _ (e5 _ _ (e4 _ _ hh3))
      have hi2 : 2 * (i + 1) ≤ d := by omega
      refine ⟨_, rfl, _, rfl, hrow, _, _, _, rfl, rfl, SqT.of h6, atI_nat (hsx (i + 1) (by omega)), _, rfl, _, rfl, _, _, rfl, rfl, hrow, _, _, _, rfl, rfl, SqT.of h6, atI_is (n := i) (by omega) (hsx i (by omega)), _, _, rfl, rfl, ?_⟩
      refine q_int (Q := Q6) ?_ (q6 H6 (Ex.refl _))
      exact sym_step (i := i + 1) (by omega) hi2
    intro p5 H5 np5 e5 hp5
    rw [given_rw, show (((d / 2 : Nat) : Int) + 1 - 1).toNat = d / 2 by omega] at hp5
    refine ⟨p5, _, rfl, .inl ⟨SqL.of hp5, fun y ny => ?_⟩⟩
    have hc6 : (upd H5 y (.tup (iV (rw' (d / 2) fun i => g (i + 1))))) c = some (.tup [.int 1]) := (Ex.new ny) _ _ (e5 _ _ upd_same)
    refine ⟨c, y, _, _, rfl, rfl, hc6, upd_same, ?_, fun S H7 cm => ?_⟩
    · rw [iV_len, rw_len]
      exact Nat.le_trans (show 1 + d / 2 ≤ 10 by omega) (by decide)
    have hS : H7 S = some (.tup (iV (gsL (d / 2) g))) := by
      rw [cm.at]
      unfold gsL
      rw [rw_cons, fg.g0]
      rfl
    have e7 := e13.trans (e4.trans (e5.trans ((Ex.new (o := .tup (iV (rw' (d / 2) fun i => g (i + 1)))) ny).trans cm.ex)))
    clear cm hc6 hp5 np5
    dsimp only
    have hgl := gs_len (d / 2) g
    -- below
    refine r_seq ?_
    refine el_lcE (K := K) hS (fun H8 e8 Q8 q8 => ⟨_, rfl, q8 H8 (Ex.refl H8)⟩) (fun _ => false) (fun _ => .non) (by rw [iV_len]; omega) ?_ H7 (Ex.refl _) _ ?_
    · intro j x TT H8 e8 hx hTT
      obtain ⟨rfl, hj⟩ := iV_at hx
      refine ⟨[some (.ref a), some (.ref hrow), some (.int d), some (.ref u1), some (.ref S), none, none, some (.int (j : Int)), some (.int ((gsL (d / 2) g).getD j 0))], fun k hk => two_get (K := K) (i := 7) (j := 8) hTT hk, rfl, ?_, fun h => nomatch h⟩
      intro H9 e9 Q9 q9
      refine ⟨_, rfl, _, _, rfl, rfl, _, rfl, ?_⟩
      have hg : 0 ≤ (gsL (d / 2) g).getD j 0 := by
        unfold gsL
        rw [rw_at (by omega)]
        exact fg.nn j
      rw [decide_eq_false (show ¬ (gsL (d / 2) g).getD j 0 < 0 by omega)]
      exact q9 H9 (Ex.refl _)
    intro u2 H8 nu2 e8 hu2
    rw [given_none _ _ _ fun _ _ => rfl] at hu2
    dsimp only
    refine ⟨_, rfl, u2, _, rfl, .inl (SqL.of hu2), _, _, rfl, rfl, _, rfl, ite_no rfl ?_⟩
    dsimp only [tNext]
    have e18 := e7.trans e8
    have hS8 := e8 _ _ hS
    refine ⟨_, rfl, S, d / 2, g, rfl, hS8, fg, hT.ext e18, fun F t u H9 e9 hF ht => ?_⟩
    refine ⟨_, rfl, F, _, 0, _, rfl, rfl, SqL.of hF, atI_is (n := 0) rfl rfl, t, _, 0, _, rfl, rfl, SqT.of ht, atI_is (n := 0) rfl rfl, rfl, _, rfl, ite_no (by decide +kernel) ?_⟩
    dsimp only [tNext]
    refine ⟨_, rfl, by show 2 ≤ sizeLine; decide, fun t2 nt2 => ⟨by show 1 ≤ sizeLine; decide, fun p2 np2 => ?_⟩⟩
    exact q p2 t2 S _ ((Ek.of e18).trans (e9.ex ((Ex.new nt2).trans (Ex.new np2)))) upd_same ((Ex.new np2) _ _ upd_same) ((Ex.new np2) _ _ ((Ex.new nt2) _ _ (e9.get hS8)))
def sp_js (TL : List (Addr × Str)) : Sp := fun vs H Q _ => ∃ (a : Addr) (d : Nat) (g : Nat → Int), vs = [.ref a] ∧ 2 ≤ d ∧ d ≤ 16 ∧ H a = some (.tup (iV (csL d g))) ∧ FitG (d / 2) g ∧ (∀ x ∈ csL d g, x.natAbs < 2 ^ 300) ∧ Tabs TL H ∧
  ∀ t u H', Ek TL H H' → H' t = some (.tup [.str "fits", .ref u]) → H' u = some (.tup (iV (gsL (d / 2) g))) → Q (.ref t) H'
theorem ok_judge_sphere (T : Txt K mg) (TB : TabB base mg T.c_greatest_top T.P_greatest_top) : FnOk P w K mg base CX0 8 T.f_judge_sphere T.d_judge_sphere ["counts"] (sp_js (tabs T)) := by
  have F_sphere_certificates := ok_sphere_certificates (P := P) (w := w) (base := base) T TB
  refine T.U_judge_sphere.ok sc_judge_sphere (fun vs H Q E h => ?_) (fun cdv A outer s H vs Q E hr h => ?_)
  · obtain ⟨_, _, _, rfl, _⟩ := h
    rfl
  · obtain ⟨a, d, g, rfl, d2, d16, ha, fg, hsm, hT, q⟩ := h
    refine ⟨_, (pss_one (ps_ret (pe_ix ix_list (pe_call F_sphere_certificates (hr.mono (by decide)) (by rfl) T.g_sphere_certificates T.k_sphere_certificates T.b_sphere_certificates .nil pass0 (pa_cons (pv 0) pa_nil)) pe_int (fun _ _ => rfl)))), ?_⟩
    exact ⟨_, rfl, a, d, g, rfl, d2, d16, ha, fg, hsm, hT, fun F t u H2 e2 hF ht hu => ⟨F, _, 0, .ref t, rfl, rfl, SqL.of hF, atI_is (n := 0) rfl rfl, q t u H2 e2 ht hu⟩⟩
def sp_sh (TL : List (Addr × Str)) : Sp := fun vs H Q _ => ∃ (a b c : Addr) (d : Nat) (g : Nat → Int), vs = [.ref a, .ref b] ∧ 2 ≤ d ∧ d ≤ 16 ∧ H a = some (.tup (iV (csL d g))) ∧ FitG (d / 2) g ∧ (∀ x ∈ csL d g, x.natAbs < 2 ^ 300) ∧ H b = some (.tup [.str "fits", .ref c]) ∧ H c = some (.tup (iV (gsL (d / 2) g))) ∧ Tabs TL H ∧ RetVk TL (.bl true) H Q
theorem ok_sphere_holds (T : Txt K mg) (TB : TabB base mg T.c_greatest_top T.P_greatest_top) : FnOk P w K mg base CX0 8 T.f_sphere_holds T.d_sphere_holds ["counts", "thing"] (sp_sh (tabs T)) := by
  have F_sphere_certificates := ok_sphere_certificates (P := P) (w := w) (base := base) T TB
  have F_is_one_of := ok_is_one_of (P := P) (w := w) (base := base) T
  refine T.U_sphere_holds.ok sc_sphere_holds (fun vs H Q E h => ?_) (fun cdv A outer s H vs Q E hr h => ?_)
  · obtain ⟨_, _, _, _, _, rfl, _⟩ := h
    rfl
  · obtain ⟨a, b, c, d, g, rfl, d2, d16, ha, fg, hsm, hb, hc, hT, q⟩ := h
    refine ⟨_, (pss_one (ps_ret (pe_call F_is_one_of (hr.mono (by decide)) (by rfl) T.g_is_one_of T.k_is_one_of T.b_is_one_of .nil pass0 (pa_cons (pv 1) (pa_cons (pe_call F_sphere_certificates (hr.mono (by decide)) (by rfl) T.g_sphere_certificates T.k_sphere_certificates T.b_sphere_certificates .nil pass0 (pa_cons (pv 0) pa_nil)) pa_nil))))), ?_⟩
    refine ⟨_, rfl, _, rfl, a, d, g, rfl, d2, d16, ha, fg, hsm, hT, fun F t u H2 e2 hF ht hu => ⟨.ref b, F, .ref t, rfl, hF, ?_, fun H3 e3 => q H3 (e2.ex e3)⟩⟩
    have hgl := gs_len (d / 2) g
    refine .tup (e2.get hb) ht rfl (by show 2 ≤ 40; decide) fun i x y hx hy => ?_
    match i with
    | 0 => cases hx; cases hy; exact .str _
    | 1 => cases hx; cases hy; exact .ints (e2.get hc) hu (by omega)
    | i + 2 => simp at hx
end
end K81

/-! sum of a tuple of ints; a deck beside tables of code objects. -/
namespace Hr
open PySem PySem.Spec PyProof.Rows L2 Evl LamX
section
variable {prog : Program} {w : World} {A : Around} {E : Value → Shared → Prop} {s : Shared}
theorem sum_tupRaw {a : Addr} {xs : Array (Int × Tok)} {Q : Value → Shared → Prop} (hh : A.handled = none) (hl : s.heap.IsTuple a (intItems xs))
    (h : ∀ h' tk t', (∀ b o, s.heap.get? b = some o → h'.get? b = some o) → Q (.int (preSum (numAt xs) xs.size) t') { s with heap := h', toks := tk }) :
    wpAny (model prog w) A (call (.builtin "sum") [.ref a]) Q E s := by
  have hlt : a < s.heap.objs.size := by
    obtain ⟨_, e, _⟩ := hl
    exact Heap.lt_size e
  refine call_sum_walkG (wpAny_pyIter_tuple hl ?_)
  refine ⟨_, [s.heap.objs.size, a], [s.heap.objs.size], _, _, _, numAt xs, rfl, Walks.tuple (A := A.in1) hh _ a (Nat.ne_of_lt hlt) (intItems xs), ⟨⟨_, Heap.get?_push_size _ rfl, rfl, rfl⟩, hl.push _⟩, fun c hc => ?_, (fun _ _ => intItems_at), fun h' tk t' hk => ?_⟩
  · show c < (s.heap.push _).objs.size
    rw [Heap.size_push]
    rcases List.mem_cons.mp hc with rfl | hc
    · exact Nat.lt_succ_self _
    · rw [List.mem_singleton.mp hc]
      exact Nat.lt_succ_of_lt hlt
  · have z := h h' tk t' fun b o e => hk b o (fun m => by
      have e1 := Heap.lt_size e
      rw [List.mem_singleton.mp m] at e1
      exact Nat.lt_irrefl _ e1) (Heap.get?_push_of_some _ e)
    simpa [intItems] using z
end
def rSumT : List V → Hp → VK → Prop := fun vs H Q => ∃ (a : Addr) (ns : List Int), vs = [V.ref a] ∧ H a = some (.tup (ns.map V.int)) ∧ Q (.int ns.sum) H
theorem cr_sumT {X : Cx} (hc : X.calm = true) : CallR X (.builtin "sum") rSumT := by
  intro pins s σ H vs us Q I r h
  obtain ⟨a, ns, rfl, ha, q⟩ := h
  obtain ⟨its, rv, hl, _⟩ := I.tuple (SqT.of ha)
  obtain ⟨u, rfl, r1⟩ := vals1 r
  cases r1
  have hi := rv.ints
  obtain ⟨xs, e⟩ := hi.allInts.items
  have hn : numsOf (intItems xs).toList = ns := by
    rw [← e]
    exact hi.numsOf
  rw [nums_intItems] at hn
  rw [e] at hl
  refine sum_tupRaw (I.ok.hd hc) hl fun h' tk t' hk => ?_
  refine ⟨.int ns.sum, H, I.kept hk, ⟨t', ?_⟩, q⟩
  rw [preSum_eq, List.take_of_length_le (by simp), hn]
end Hr

/-! tuple * int, from 0 on. -/
namespace Hr
open PySem PySem.Spec PyProof.Rows L2 Evl
theorem tup_mul1 (l : Addr) (items : Array Value) (n : Nat) (dd : Option Addr) (sl : Array (Option Value)) (u : Tok) :
    Meets (Builtin.«tuple.__mul__» ⟨[.ref l, .int 1 u], []⟩) (fun _ R s => s.heap.get? l = some { cls := .type "tuple", dict := dd, data := .seq items n, slots := sl } ∧ R (.ok (.ret (Value.ref l))) s) :=
  .of_wp fun prog w A R s h => by
    obtain ⟨hp, g, d, tk, os⟩ := s
    obtain ⟨hl, h⟩ := h
    have f1 := AutoSeq1.idx_int
    have c1 : ((items.isEmpty || (1 : Int) == 1) = true) := by rw [Bool.or_eq_true]; exact .inr rfl
    wp_walk using wpAny_loadPart' hl, wpAny_load hl
    repeat (first
      | (refine wpAny_ite_true (decide_eq_true c1) ?_; wp_walk using wpAny_loadPart' hl, wpAny_load hl))
    all_goals exact ⟨_, rfl, h⟩
theorem tup_mul0 (l : Addr) (items : Array Value) (n : Nat) (dd : Option Addr) (sl : Array (Option Value)) (u : Tok) (hi : items.isEmpty = false) :
    Meets (Builtin.«tuple.__mul__» ⟨[.ref l, .int 0 u], []⟩) (fun _ R s => s.heap.get? l = some { cls := .type "tuple", dict := dd, data := .seq items n, slots := sl } ∧ R (.ok (.ret (Value.ref s.heap.objs.size))) { s with heap := s.heap.push { cls := Value.type "tuple", data := Data.seq #[] }, toks := s.toks }) :=
  .of_wp fun prog w A R s h => by
    obtain ⟨hp, g, d, tk, os⟩ := s
    obtain ⟨hl, h⟩ := h
    have f1 := AutoSeq1.idx_int
    have c1 : ¬ ((items.isEmpty || (0 : Int) == 1) = true) := by rw [hi]; decide
    have c2 : ((decide ((0 : Int) ≤ 0) || items.isEmpty) = true) := by rw [Bool.or_eq_true]; exact .inl (by decide)
    wp_walk using wpAny_loadPart' hl, wpAny_load hl
    repeat (first
      | (refine wpAny_ite_false (decide_eq_false c1) ?_; wp_walk using wpAny_loadPart' hl, wpAny_load hl)
      | (refine wpAny_ite_true (decide_eq_true c2) ?_; wp_walk using wpAny_loadPart' hl, wpAny_load hl))
    all_goals exact ⟨_, rfl, h⟩
def rRepN : R2 := fun x y H Q => ∃ l k xs, x = .ref l ∧ y = .int k ∧ H l = some (.tup xs) ∧ xs ≠ [] ∧ 0 ≤ k ∧ k ≤ 1000 ∧ xs.length ≤ 1000 ∧ ∀ p H', Came H p (List.replicate k.toNat xs).flatten H' [l] → Q (.ref p) H'
section
variable {X : Cx}
theorem op_repN : OpR X (binaryOp .Mult) rRepN := by
  intro pins s σ H x y v u Q I rx ry h
  obtain ⟨l, k, xs, rfl, rfl, hT, hne, h1, h2, hz, q⟩ := h
  by_cases c : 2 ≤ k
  · exact op_repT pins s σ H _ _ v u Q I rx ry ⟨l, k, xs, rfl, rfl, SqT.of hT, hne, c, h2, hz, fun p np => q p _ (.inr ⟨np, rfl⟩)⟩
  cases rx
  obtain ⟨t, rfl⟩ := ry
  obtain ⟨its, r, ⟨⟨cls, dd, data, sl⟩, ho, hc, n, hd⟩, hs⟩ := I.tuple (SqT.of hT)
  simp only at hc hd
  subst hc hd
  have hle : its.length = xs.length := r.length.symm
  have hi : its.toArray.isEmpty = false := by
    cases its with
    | nil =>
      exact absurd (List.eq_nil_of_length_eq_zero hle.symm) hne
    | cons a b => rfl
  have hk : k = 0 ∨ k = 1 := by omega
  rcases hk with rfl | rfl
  · refine wpAny_binaryOp_repeat_ref (T := "tuple") (U := "int") (by decide) ⟨_, ho, rfl⟩ (fun s' => typeIs_int s' 0 t) noFill_tuple_mul F.fills_int_mul F.slot_int_rmul repeat_tuple F.slot_int_index.lookup
      (call_meets F.slot_int_rmul (typeIs_int s 0 t) F.entry_int_rmul (F.args_int_rmul_2 _ _) (int_rmul_tuple 0 t l its.toArray n dd sl)
        ⟨ho, rfl, ⟨_, ho, rfl⟩, call_meets F.slot_tuple_mul ⟨_, ho, rfl⟩ F.entry_tuple_mul (F.args_tuple_mul_2 _ _) (tup_mul0 l its.toArray n dd sl t hi) ⟨ho, ?_⟩⟩)
    refine ⟨.ref s.heap.objs.size, _, I.laid (t' := s.toks) (o := .tup []) (fun b ob q => Heap.get?_push_of_some _ q) (Nat.le_refl _) ?_, rfl, q _ _ (.inr ⟨I.hok.fresh (Nat.le_refl _), rfl⟩)⟩
    exact ⟨by rw [sizeLine_eq]; exact Nat.zero_le _, _, .nil, IsTup.new _ _⟩
  · refine wpAny_binaryOp_repeat_ref (T := "tuple") (U := "int") (by decide) ⟨_, ho, rfl⟩ (fun s' => typeIs_int s' 1 t) noFill_tuple_mul F.fills_int_mul F.slot_int_rmul repeat_tuple F.slot_int_index.lookup
      (call_meets F.slot_int_rmul (typeIs_int s 1 t) F.entry_int_rmul (F.args_int_rmul_2 _ _) (int_rmul_tuple 1 t l its.toArray n dd sl)
        ⟨ho, rfl, ⟨_, ho, rfl⟩, call_meets F.slot_tuple_mul ⟨_, ho, rfl⟩ F.entry_tuple_mul (F.args_tuple_mul_2 _ _) (tup_mul1 l its.toArray n dd sl t) ⟨ho, ?_⟩⟩)
    refine ⟨.ref l, H, I, rfl, q _ _ (.inl ⟨rfl, by simp, ?_⟩)⟩
    show H l = some (.tup ([xs].flatten))
    rw [List.flatten_cons, List.flatten_nil, List.append_nil]
    exact hT
end
end Hr

set_option exponentiation.threshold 3000
namespace K81
open PySem PySem.Spec PyProof.Rows L2 Hr HrM Evl HrE_thing LamX RZ
theorem cut_to (is : List Int) (n : Nat) : cutV (iV is) none (some (n : Int)) = iV (is.take n) := by
  unfold cutV
  rw [HT.sIx_nat, HT.sIx_none, iV_len, List.drop_zero, Nat.sub_zero]
  unfold iV
  rw [← List.map_take]
  by_cases h : n ≤ is.length
  · rw [Nat.min_eq_left h]
  · rw [Nat.min_eq_right (by omega), List.take_of_length_le (Nat.le_refl _), List.take_of_length_le (by omega)]
theorem rw_take (n k : Nat) (f : Nat → Int) (h : k ≤ n) : (rw' n f).take k = rw' k f := by
  unfold rw'
  rw [← List.map_take, List.take_range, Nat.min_eq_left h]
theorem rw_sum' (n : Nat) (f : Nat → Int) : (rw' n f).sum = sumN n f := sumN_range n f
/-- the row up and down -/
theorem up_down {d : Nat} {g : Nat → Int} : rw' (d / 2 + 1) (fun k => sumN (k + 1) g) ++ ((rw' (d / 2 + 1) (fun k => sumN (k + 1) g)).take (d - d / 2)).reverse = hsL d g := by
  rw [rw_take _ _ _ (by omega)]
  apply List.ext_getElem?
  intro i
  unfold hsL
  by_cases h1 : i < d / 2 + 1
  · rw [List.getElem?_append_left (by rw [rw_len]; exact h1), rw_get h1, rw_get (by omega), symR_low (by omega)]
  · rw [List.getElem?_append_right (by rw [rw_len]; omega), rw_len]
    by_cases h2 : i < d + 1
    · rw [List.getElem?_reverse (by rw [rw_len]; omega), rw_len, rw_get (by omega), rw_get h2]
      unfold symR
      rw [show min i (d - i) = d - i by omega, show d - d / 2 - 1 - (i - (d / 2 + 1)) = d - i by omega]
    · rw [List.getElem?_eq_none (by rw [List.length_reverse, rw_len]; omega), List.getElem?_eq_none (by rw [rw_len]; omega)]
section
variable {P : Program} {w : World} {K : PySem.W.Frag} {mg : Str → Option Value} {base : Heap}
def RetC (d : Nat) (g : Nat → Int) (H : Hp) (Q : VK) : Prop := ∀ l H', H l = none → Ex H H' → H' l = some (.tup (iV (csL d g))) → Q (.ref l) H'
def sp_cw : Sp := fun vs H Q _ => ∃ (a : Addr) (d : Nat) (g : Nat → Int), vs = [.int d, .ref a] ∧ 2 ≤ d ∧ d ≤ 16 ∧ H a = some (.tup (iV (gsL (d / 2) g))) ∧ (∀ x ∈ hsL d g, x.natAbs < 2 ^ 900) ∧ RetC d g H Q
theorem ok_counts_with (T : Txt K mg) : FnOk P w K mg base CX0 3 T.f_counts_with T.d_counts_with ["d", "steps"] sp_cw := by
  have F_moved_row := ok_moved_row (P := P) (w := w) (base := base) T
  refine T.U_counts_with.ok sc_counts_with (fun vs H Q E h => ?_) (fun cdv A outer s H vs Q E hr h => ?_)
  · obtain ⟨_, _, _, rfl, _⟩ := h
    rfl
  · obtain ⟨a, d, g, rfl, d2, d16, ha, hsm, q⟩ := h
    refine ⟨_, (pss_cons (ps_setLc (i := 2) (own := [("k", 4)]) (g := gName 4) (tt := tYes) (by rfl) sc_counts_with.nd rfl rfl (sw_true rfl rfl rfl (by decide +kernel)) (pi_range1 rfl T.n_range (pa_cons (pe_callB call_len_seq (by rfl) T.n_len PySem.boot_len (pa_cons (pv 1) pa_nil)) pa_nil)) (blkOk_by (own := [("k", 4)]) (N := ["d", "steps", "row", "back", "k"]) (sc := defScope s_counts_with) (by decide +kernel)) (fun _ _ _ _ _ => pg_name (i := 4) sc_counts_with.nd rfl (Or.inl rfl)) (fun _ _ _ _ _ => pts_nil) (fun _ _ _ _ _ => (pe_callB (r := rSumT) (cr_sumT rfl) (by rfl) T.n_sum (by decide +kernel) (pa_cons (pe_slice sl_tupN (pv 1) po_none (po_some (pe_op op_add (pv 4) pe_int))) pa_nil))))
  (pss_cons (ps_set (i := 3) sc_counts_with.nd rfl (.inl rfl) (pe_slice sl_list (pv 2) po_none (po_some (pe_op op_sub (pe_op op_add (pv 0) pe_int) (pe_callB call_len_seq (by rfl) T.n_len PySem.boot_len (pa_cons (pv 2) pa_nil))))))
  (pss_one (ps_ret (pe_slice sl_tup (pe_call F_moved_row (hr.mono (by decide)) (by rfl) T.g_moved_row T.k_moved_row T.b_moved_row .nil pass0 (pa_cons (pe_callTy call_tuple_of (by rfl) T.n_tuple (by decide +kernel) (pa_cons (pe_op op_cat (pv 2) (pe_revL (pv 3))) pa_nil)) (pa_cons pe_int pa_nil))) (po_some pe_int) po_none))))), ?_⟩
    have hgl := gs_len (d / 2) g
    refine r_seq (el_lcR1 (H := H) (n := ((d / 2 + 1 : Nat) : Int)) ?_ (by omega) (fun _ => true) (fun k => .int (sumN (k + 1) g)) (by omega) ?_ H (Ex.refl _) _ ?_)
    · intro H1 e1 Q1 q1
      refine ⟨_, rfl, a, _, rfl, .inr (SqT.of (e1 _ _ ha)), ?_⟩
      have z := q1 H1 (Ex.refl _)
      rw [show (((iV (gsL (d / 2) g)).length : Nat) : Int) = ((d / 2 + 1 : Nat) : Int) by rw [iV_len, hgl]]
      exact z
    · intro i H1 e1 hi
      have e0 : (0 : Int) + (i : Int) = (i : Int) := Int.zero_add _
      rw [e0]
      refine ⟨[some (.int d), some (.ref a), none, none, some (.int (i : Int))], fun k hk => hk, rfl, et_yes, fun _ => ?_⟩
      intro H2 e2 Q2 q2
      refine ⟨_, rfl, _, rfl, _, _, rfl, rfl, ((i + 1 : Nat) : Int), rfl, a, _, rfl, e2 _ _ (e1 _ _ ha), fun p H3 cm => ?_⟩
      have hp := cm.at
      rw [cut_to] at hp
      refine ⟨p, _, rfl, hp, ?_⟩
      unfold gsL
      rw [rw_take _ _ _ (by omega), rw_sum']
      exact q2 H3 cm.ex
    intro R H1 nR e1 hR
    rw [given_rw, show (((d / 2 + 1 : Nat) : Int)).toNat = d / 2 + 1 by omega] at hR
    generalize hrow : rw' (d / 2 + 1) (fun k => sumN (k + 1) g) = rows at hR
    have hrl : rows.length = d / 2 + 1 := by rw [← hrow, rw_len]
    dsimp only
    refine ⟨_, rfl, _, rfl, _, _, rfl, rfl, _, rfl, R, _, rfl, .inl (SqL.of hR), _, _, rfl, rfl, ((d - d / 2 : Nat) : Int), ?_, R, _, rfl, SqL.of hR, fun B nB => ?_⟩
    · rw [iV_len, hrl]
      exact congrArg V.int (by omega)
    rw [cut_to]
    have e2 := e1.trans (Ex.new (o := .lst (iV (rows.take (d - d / 2)))) nB)
    have hR2 := (Ex.new (o := .lst (iV (rows.take (d - d / 2)))) nB) _ _ hR
    have hB : (upd H1 B (.lst (iV (rows.take (d - d / 2))))) B = some (.lst (iV (rows.take (d - d / 2)))) := upd_same
    generalize upd H1 B (.lst (iV (rows.take (d - d / 2)))) = H2 at e2 hR2 hB
    dsimp only
    refine ⟨_, rfl, _, rfl, B, _, rfl, SqL.of hB, fun V nV => ?_⟩
    have er : (iV (rows.take (d - d / 2))).reverse = iV (rows.take (d - d / 2)).reverse := by
      unfold iV
      rw [List.map_reverse]
    rw [er]
    have e3 := e2.trans (Ex.new (o := .lst (iV (rows.take (d - d / 2)).reverse)) nV)
    have hR3 := (Ex.new (o := .lst (iV (rows.take (d - d / 2)).reverse)) nV) _ _ hR2
    refine ⟨R, V, _, _, rfl, rfl, hR3, upd_same, ?_, fun S nS => ?_⟩
    · rw [iV_len, iV_len, List.length_reverse, List.length_take]
      exact Nat.le_trans (show _ ≤ 30 by omega) (by decide)
    have ec : iV rows ++ iV (rows.take (d - d / 2)).reverse = iV (hsL d g) := by
      rw [← up_down (d := d) (g := g), hrow]
      unfold iV
      rw [List.map_append]
    rw [ec]
    generalize upd H2 V (.lst (iV (rows.take (d - d / 2)).reverse)) = H3 at e3 nS
    have e4 := e3.trans (Ex.new (o := .lst (iV (hsL d g))) nS)
    refine ⟨S, _, rfl, .inl ⟨SqL.of upd_same, fun l nl => ?_⟩⟩
    have e5 := e4.trans (Ex.new (o := .tup (iV (hsL d g))) nl)
    have hhl := hs_len d g
    refine ⟨l, hsL d g, 1, rfl, upd_same, by omega, by omega, .inl rfl, getD_mem (by decide) hsm, fun l2 H6 nl2 e6 hl6 => ?_⟩
    have hm : (iV (mvL 1 (hsL d g))).length = d + 1 := by rw [iV_len, mvL_len, hhl]
    refine ⟨1, rfl, l2, _, rfl, SqT.of hl6, ?_, fun p np => ?_⟩
    · rintro ⟨z, _⟩
      have z' : HT.sIx (iV (mvL 1 (hsL d g))).length 0 (some ((1 : Nat) : Int)) = 0 := z
      rw [HT.sIx_nat, hm] at z'
      omega
    have ec2 : cutV (iV (mvL 1 (hsL d g))) (some ((1 : Nat) : Int)) none = iV (csL d g) := by rw [cut_from, mv_hs1]
    refine q p _ (fresh_back (e5.trans e6) np) ((e5.trans e6).trans (Ex.new np)) ?_
    rw [upd_same]
    exact congrArg (fun z => some (HO.tup z)) ec2
end
end K81

set_option exponentiation.threshold 3000
namespace K81
open PySem PySem.Spec PyProof.Rows L2 Hr HrM Evl HrE_thing LamX RZ
theorem rep_flat (k : Nat) (v : V) : (List.replicate k [v]).flatten = List.replicate k v := by
  induction k with
  | zero => rfl
  | succ k ih => rw [List.replicate_succ, List.flatten_cons, ih, List.replicate_succ]; rfl
theorem rw_zero : ∀ n : Nat, iV (rw' n fun _ => 0) = List.replicate n (V.int 0)
  | 0 => rfl
  | n + 1 => by
    rw [rw_cons, List.replicate_succ, ← rw_zero n]
    rfl
theorem gs_low {m r : Nat} (h : 1 ≤ m) : [V.int 1, V.int r] ++ (List.replicate (m - 1) [V.int 0]).flatten = iV (gsL m (gLo r)) := by
  obtain ⟨k, rfl⟩ : ∃ k, m = k + 1 := ⟨m - 1, by omega⟩
  unfold gsL
  rw [rw_cons, rw_cons, rep_flat, ← rw_zero]
  rfl
theorem gs_high {m r : Nat} : [V.int 1] ++ iV (rw' m fun i => gHi r (i + 1)) = iV (gsL m (gHi r)) := by
  unfold gsL
  rw [rw_cons]
  rfl
theorem hs_small_lo {r d : Nat} (hr : r < 2 ^ 110) : ∀ x ∈ hsL d (gLo r), x.natAbs < 2 ^ 900 := by
  intro x hx
  obtain ⟨i, hi, rfl⟩ := List.mem_map.mp hx
  rw [hL _ _ _ (by have := List.mem_range.mp hi; omega)]
  have : (2 : Nat) ^ 110 < 2 ^ 900 := Nat.pow_lt_pow_right (by decide) (by decide)
  split
  · show 1 < _; omega
  · omega
theorem ch_small {r i : Nat} (hr : r < 2 ^ 110) (hi : i ≤ 8) : ch (r + i) i < 2 ^ 900 := by
  refine Nat.lt_of_le_of_lt (ch_le_pow _ _) ?_
  have h1 : r + i < 2 ^ 111 := by
    have : (2 : Nat) ^ 111 = 2 * 2 ^ 110 := Nat.pow_succ'
    have : (8 : Nat) < 2 ^ 110 := by decide
    omega
  refine Nat.lt_of_le_of_lt (Nat.pow_le_pow_left (Nat.le_of_lt h1) i) ?_
  rw [← Nat.pow_mul]
  exact Nat.pow_lt_pow_right (by decide) (by omega)
theorem hs_small_hi {r d : Nat} (hr : r < 2 ^ 110) (hd : d ≤ 16) : ∀ x ∈ hsL d (gHi r), x.natAbs < 2 ^ 900 := by
  intro x hx
  obtain ⟨i, hi, rfl⟩ := List.mem_map.mp hx
  unfold symR
  rw [gHi_sum, Int.natAbs_natCast]
  exact ch_small hr (by omega)
section
variable {P : Program} {w : World} {K : PySem.W.Frag} {mg : Str → Option Value} {base : Heap}
def sp_ls (CN CS : Addr) (g : Nat → Nat → Int) : Sp := fun vs H Q E => ∃ (v u : V) (d e : PyData), vs = [v, u] ∧ Dx H v d ∧ Dx H u e ∧
  EndsOf CN CS v u d e H E fun n m => ∃ r k : Nat, n = ((r + k + 1 : Nat) : Int) ∧ m = (k : Int) ∧ k ≤ 16 ∧ r < 2 ^ 110 ∧ RetC k (g r) H Q
theorem ends_then {CN CS : Addr} {v u : V} {d e : PyData} {H : Hp} {E : XK} {q q2 : Int → Int → Prop} (h : EndsOf CN CS v u d e H E q) (f : ∀ n m : Int, d = .int n → e = .int m → 2 ≤ m → m < n → q n m → q2 n m) : EndsOf CN CS v u d e H E q2 :=
  ⟨h.1, h.2.1, fun n m a b c i => ⟨(h.2.2 n m a b c i).1, fun z => f n m a b i z ((h.2.2 n m a b c i).2 z)⟩⟩
theorem ok_least_sphere (T : Txt K mg) : FnOk P w K mg base (L2.CX P w) 5 T.f_least_sphere T.d_least_sphere ["n", "d"] (sp_ls T.C_BadNumber T.C_BadSize gLo) := by
  have F_check_ends := ok_check_ends (P := P) (w := w) (base := base) T
  have F_counts_with := ok_counts_with (P := P) (w := w) (base := base) T
  refine T.U_least_sphere.okX sc_least_sphere (fun vs H Q E h => ?_) (fun cdv A outer s H vs Q E hr h => ?_)
  · obtain ⟨_, _, _, _, rfl, _⟩ := h
    rfl
  · obtain ⟨v, u, dd, ee, rfl, hv, hu, ends⟩ := h
    refine ⟨_, (pss_cons (ps_expr (pe_call F_check_ends (hr.mono (by decide)) (by rfl) T.g_check_ends T.k_check_ends T.b_check_ends .nil (passOn (takes_of rfl rfl rfl rfl)) (pa_cons (pv 0) (pa_cons (pv 1) pa_nil))))
  (pss_one (ps_ret (pe_call F_counts_with (hr.mono (by decide)) (by rfl) T.g_counts_with T.k_counts_with T.b_counts_with .nil pass0 (pa_cons (pv 1) (pa_cons (pe_op op_catN (pe_tup (pa_cons pe_int (pa_cons (pe_op op_sub (pe_op op_sub (pv 0) (pv 1)) pe_int) pa_nil))) (pe_op op_repN (pe_tup (pa_cons pe_int pa_nil)) (pe_op op_sub (pe_op op_fdivN (pv 1) pe_int) pe_int))) pa_nil)))))), ?_⟩
    refine ⟨_, rfl, _, rfl, v, u, dd, ee, rfl, hv, hu, ends_then ends fun n m en em h2 hlt hq => ?_⟩
    subst en em
    cases hv
    cases hu
    obtain ⟨r, k, rfl, rfl, k16, hrs, q⟩ := hq
    have ek : ((k : Int)).fdiv 2 = ((k / 2 : Nat) : Int) := by
      rw [Int.fdiv_eq_ediv_of_nonneg _ (by decide)]
      omega
    have er : ((r + k + 1 : Nat) : Int) - (k : Int) - 1 = (r : Int) := by omega
    refine ⟨_, rfl, _, rfl, _, rfl, _, _, rfl, rfl, _, _, rfl, rfl, by show 2 ≤ sizeLine; decide, fun c nc => ?_⟩
    simp only [er]
    refine ⟨by show 1 ≤ sizeLine; decide, fun z nz => ?_⟩
    have e1 : Ex H (upd H c (.tup [.int 1, .int r])) := Ex.new nc
    have e2 := e1.trans (Ex.new (o := .tup [.int 0]) nz)
    refine ⟨_, rfl, _, _, rfl, rfl, ⟨by decide, by decide⟩, _, _, rfl, rfl, z, ((k / 2 - 1 : Nat) : Int), _, rfl, by rw [ek]; exact congrArg V.int (by omega), upd_same, by simp, by omega, by omega, by show 1 ≤ 1000; decide, fun p H3 cm => ?_⟩
    have hc3 := cm.ex _ _ ((Ex.new (o := .tup [.int 0]) nz) _ _ (upd_same (H := H) (a := c) (o := .tup [.int 1, .int (r : Int)])))
    refine ⟨c, p, _, _, rfl, rfl, hc3, cm.at, ?_, fun S H4 cm2 => ?_⟩
    · rw [Int.toNat_natCast, rep_flat, List.length_replicate]
      exact Nat.le_trans (show 2 + (k / 2 - 1) ≤ 20 by omega) (by decide)
    have hS := cm2.at
    rw [Int.toNat_natCast, gs_low (by omega)] at hS
    have e4 := e2.trans (cm.ex.trans cm2.ex)
    exact ⟨S, k, gLo r, rfl, by omega, k16, hS, hs_small_lo hrs, fun l H' nl e' hl => q l H' (fresh_back e4 nl) (e4.trans e') hl⟩
theorem ok_most_sphere (T : Txt K mg) : FnOk P w K mg base (L2.CX P w) 5 T.f_most_sphere T.d_most_sphere ["n", "d"] (sp_ls T.C_BadNumber T.C_BadSize gHi) := by
  have F_check_ends := ok_check_ends (P := P) (w := w) (base := base) T
  have F_counts_with := ok_counts_with (P := P) (w := w) (base := base) T
  refine T.U_most_sphere.okX sc_most_sphere (fun vs H Q E h => ?_) (fun cdv A outer s H vs Q E hr h => ?_)
  · obtain ⟨_, _, _, _, rfl, _⟩ := h
    rfl
  · obtain ⟨v, u, dd, ee, rfl, hv, hu, ends⟩ := h
    refine ⟨_, (pss_cons (ps_expr (pe_call F_check_ends (hr.mono (by decide)) (by rfl) T.g_check_ends T.k_check_ends T.b_check_ends .nil (passOn (takes_of rfl rfl rfl rfl)) (pa_cons (pv 0) (pa_cons (pv 1) pa_nil))))
  (pss_one (ps_ret (pe_call F_counts_with (hr.mono (by decide)) (by rfl) T.g_counts_with T.k_counts_with T.b_counts_with .nil pass0 (pa_cons (pv 1) (pa_cons (pe_op op_catN (pe_tup (pa_cons pe_int pa_nil)) (pe_callTy call_tuple_of (by rfl) T.n_tuple (by decide +kernel) (pa_cons (pe_lc (own := [("k", 2)]) (g := gName 2) (tt := tYes) rfl sc_most_sphere.nd (pi_range2 rfl T.n_range (pa_cons pe_int (pa_cons (pe_op op_add (pe_op op_fdivN (pv 1) pe_int) pe_int) pa_nil))) (blkOk_by (own := [("k", 2)]) (N := ["n", "d", "k"]) (sc := defScope s_most_sphere) (by decide +kernel)) (fun _ _ _ _ _ => pg_name (i := 2) sc_most_sphere.nd rfl (Or.inl rfl)) (fun _ _ _ _ _ => pts_nil) (fun _ _ _ _ _ => (pe_callBfun cr_comb (by rfl) T.comb (pa_cons (pe_op op_add (pe_op op_sub (pe_op op_sub (pv 0) (pv 1)) pe_int) (pv 2)) (pa_cons (pv 2) pa_nil))))) pa_nil))) pa_nil)))))), ?_⟩
    refine ⟨_, rfl, _, rfl, v, u, dd, ee, rfl, hv, hu, ends_then ends fun n m en em h2 hlt hq => ?_⟩
    subst en em
    cases hv
    cases hu
    obtain ⟨r, k, rfl, rfl, k16, hrs, q⟩ := hq
    have ek : ((k : Int)).fdiv 2 = ((k / 2 : Nat) : Int) := by
      rw [Int.fdiv_eq_ediv_of_nonneg _ (by decide)]
      omega
    refine ⟨_, rfl, by show 1 ≤ sizeLine; decide, fun c nc => ?_⟩
    have e1 : Ex H (upd H c (.tup [.int 1])) := Ex.new nc
    refine r_cb (r_arg ?_)
    refine el_lcR (H := upd H c (.tup [.int 1])) (lo := 1) (hi := ((k / 2 : Nat) : Int) + 1) ?_ (by omega) (fun _ => true) (fun i => .int (gHi r (i + 1))) (by omega) ?_ _ (Ex.refl _) _ ?_
    · intro H4 e4 Q4 q4
      refine ⟨_, rfl, _, _, rfl, rfl, ⟨by decide, by decide⟩, _, _, rfl, rfl, ?_⟩
      have z := q4 H4 (Ex.refl _)
      rw [← ek] at z
      exact z
    · intro i H5 e5 hi
      have e0 : (1 : Int) + (i : Int) = ((i + 1 : Nat) : Int) := by omega
      rw [e0]
      refine ⟨[some (.int ((r + k + 1 : Nat) : Int)), some (.int k), some (.int ((i + 1 : Nat) : Int))], fun k hk => hk, rfl, et_yes, fun _ => ?_⟩
      intro H6 e6 Q6 q6
      have ea : ((r + k + 1 : Nat) : Int) - (k : Int) - 2 + ((i + 1 : Nat) : Int) = ((r + i : Nat) : Int) := by omega
      have hb : r + i < 2 ^ 111 := by
        have : (2 : Nat) ^ 111 = 2 * 2 ^ 110 := Nat.pow_succ'
        have : (8 : Nat) < 2 ^ 110 := by decide
        omega
      refine ⟨_, rfl, _, rfl, _, _, rfl, rfl, _, _, rfl, rfl, _, rfl, _, _, rfl, rfl, _, rfl, ((r + i : Nat) : Int), ((i + 1 : Nat) : Int), by show ([V.int (((r + k + 1 : Nat) : Int) - (k : Int) - 2 + ((i + 1 : Nat) : Int)), V.int ((i + 1 : Nat) : Int)] : List V) = _; rw [ea], ccomb (m := 111) hb (by omega) (by decide) (by decide), ?_⟩
      rw [comb_nat]
      exact q6 H6 (Ex.refl _)
    intro p5 H5 np5 e5 hp5
    rw [given_rw, show (((k / 2 : Nat) : Int) + 1 - 1).toNat = k / 2 by omega] at hp5
    refine ⟨p5, _, rfl, .inl ⟨SqL.of hp5, fun y ny => ?_⟩⟩
    have hc6 : (upd H5 y (.tup (iV (rw' (k / 2) fun i => gHi r (i + 1))))) c = some (.tup [.int 1]) := (Ex.new ny) _ _ (e5 _ _ upd_same)
    refine ⟨c, y, _, _, rfl, rfl, hc6, upd_same, ?_, fun S H7 cm => ?_⟩
    · rw [iV_len, rw_len]
      exact Nat.le_trans (show 1 + k / 2 ≤ 10 by omega) (by decide)
    have hS := cm.at
    rw [gs_high] at hS
    have e4 := e1.trans (e5.trans ((Ex.new (o := .tup (iV (rw' (k / 2) fun i => gHi r (i + 1)))) ny).trans cm.ex))
    exact ⟨S, k, gHi r, rfl, by omega, k16, hS, hs_small_hi hrs k16, fun l H' nl e' hl => q l H' (fresh_back e4 nl) (e4.trans e') hl⟩
end
end K81

set_option exponentiation.threshold 3000
namespace K81
open PySem PySem.Spec PyProof.Rows L2 Hr HrM Evl HrE_thing LamX RZ
theorem choose_step (a k : Nat) (h : k < a) : (((ch a k : Nat) : Int) * ((a : Int) - (k : Int))).fdiv ((k : Int) + 1) = ((ch a (k + 1) : Nat) : Int) := by
  have e1 : ((a : Int) - (k : Int)) = ((a - k : Nat) : Int) := by omega
  have e2 : ((k : Int) + 1) = ((k + 1 : Nat) : Int) := by omega
  rw [e1, e2, ← Int.natCast_mul, Int.fdiv_eq_ediv_of_nonneg _ (by omega), ← Int.natCast_ediv, ← ch_mul, Nat.mul_div_cancel _ (by omega)]
theorem ch_wide {a k : Nat} (ha : a < 2 ^ 120) (hk : k ≤ 20) : ch a k < 2 ^ 2420 := by
  refine Nat.lt_of_le_of_lt (ch_le_pow _ _) (Nat.lt_of_le_of_lt (Nat.pow_le_pow_left (Nat.le_of_lt ha) k) ?_)
  rw [← Nat.pow_mul]
  exact Nat.pow_lt_pow_right (by decide) (by omega)
section
variable {P : Program} {w : World} {K : PySem.W.Frag} {mg : Str → Option Value} {base : Heap}
def sp_choose : Sp := fun vs H Q _ => ∃ (a b : Nat), vs = [.int a, .int b] ∧ a < 2 ^ 120 ∧ b ≤ 20 ∧ Q (.int ((ch a b : Nat) : Int)) H
theorem ok_choose (T : Txt K mg) : FnOk P w K mg base CX0 2 T.f_l_choose T.d_l_choose ["a", "b"] sp_choose := by
  refine T.U_l_choose.ok sc_l_choose (fun vs H Q E h => ?_) (fun cdv A outer s H vs Q E hr h => ?_)
  · obtain ⟨_, _, rfl, _⟩ := h
    rfl
  · obtain ⟨a, b, rfl, ha, hb, q⟩ := h
    refine ⟨_, (pss_cons (ps_set (i := 2) sc_l_choose.nd rfl (.inl rfl) (pe_ifExp (pt_chain op_le op_le pe_int (pv 1) (pv 0)) pe_int pe_int))
  (pss_cons (ps_for PassesOwn.never rfl (pi_range1 rfl T.n_range (pa_cons (pe_callB (call_min2 rfl) (by rfl) T.n_min (by decide +kernel) (pa_cons (pv 1) (pa_cons (pe_op op_sub (pv 0) (pv 1)) pa_nil))) pa_nil)) (pg_name (i := 3) sc_l_choose.nd rfl (.inl rfl)) (pss_one (ps_set (i := 2) sc_l_choose.nd rfl (.inl rfl) (pe_op op_fdivN (pe_op op_mulW (pv 2) (pe_op op_sub (pv 0) (pv 3))) (pe_op op_add (pv 3) pe_int)))))
  (pss_one (ps_ret (pv 2))))), ?_⟩
    by_cases hba : b ≤ a
    · refine ⟨_, rfl, _, _, rfl, rfl, true, ?_, iteT ⟨_, rfl, _, _, rfl, rfl, true, ?_, iteT ?_⟩⟩
      · exact congrArg V.bl (decide_eq_true (Int.natCast_nonneg b))
      · exact congrArg V.bl (decide_eq_true (by omega))
      refine ⟨_, rfl, _, rfl, _, rfl, _, _, rfl, rfl, _, _, rfl, ?_⟩
      obtain ⟨m, hm, hm2, hm3⟩ : ∃ m : Nat, (if (a : Int) - (b : Int) < (b : Int) then (a : Int) - (b : Int) else (b : Int)) = (m : Int) ∧ m ≤ b ∧ ch a m = ch a b := by
        by_cases c : a - b < b
        · exact ⟨a - b, by rw [if_pos (by omega)]; omega, by omega, (ch_symm hba).symm⟩
        · exact ⟨b, by rw [if_neg (by omega)], Nat.le_refl b, rfl⟩
      have hma : m ≤ a := by omega
      rw [hm]
      refine ⟨_, rfl, by omega, by omega, ?_⟩
      rw [Int.toNat_natCast]
      refine for_range (lo := 0) (n := m) (fun i σ' H' => ∃ (y : Option V), i ≤ m ∧ σ' = [some (.int a), some (.int b), some (.int ((ch a i : Nat) : Int)), y] ∧ H' = H) ⟨none, Nat.zero_le _, by rw [ch_zero]; rfl, rfl⟩ ?_ ?_
      · rintro i σ' H' hi ⟨y, _, rfl, rfl⟩
        have e0 : (0 : Int) + (i : Int) = (i : Int) := Int.zero_add _
        rw [e0]
        refine ⟨_, rfl, _, rfl, _, rfl, _, _, rfl, rfl, _, _, rfl, rfl, wide_mul (a := 2420) (b := 121) ?_ ?_ (by decide) (by decide) (by decide), _, rfl, _, _, rfl, rfl, _, _, rfl, rfl, ⟨by omega, by omega⟩, ?_⟩
        · rw [Int.natAbs_natCast]
          exact ch_wide ha (by omega)
        · have : (2 : Nat) ^ 121 = 2 * 2 ^ 120 := Nat.pow_succ'
          omega
        · exact ⟨some (.int (i : Int)), by omega, by rw [← choose_step a i (by omega)]; rfl, rfl⟩
      · rintro σ' H' ⟨y, _, rfl, rfl⟩
        rw [hm3]
        exact ⟨_, rfl, q⟩
    · have hz : ch a b = 0 := ch_lt (by omega)
      refine ⟨_, rfl, _, _, rfl, rfl, true, ?_, iteT ⟨_, rfl, _, _, rfl, rfl, false, ?_, iteF ?_⟩⟩
      · exact congrArg V.bl (decide_eq_true (Int.natCast_nonneg b))
      · exact congrArg V.bl (decide_eq_false (by omega))
      refine ⟨_, rfl, _, rfl, _, rfl, _, _, rfl, rfl, _, _, rfl, ?_⟩
      rw [if_pos (show (a : Int) - (b : Int) < (b : Int) by omega)]
      refine ⟨_, rfl, by omega, by omega, ?_⟩
      rw [show ((a : Int) - (b : Int)).toNat = 0 by omega]
      refine for_range (lo := 0) (n := 0) (fun i σ' H' => σ' = [some (.int a), some (.int b), some (.int 0), none] ∧ H' = H) ⟨rfl, rfl⟩ (fun i σ' H' hi => absurd hi (Nat.not_lt_zero _)) ?_
      rintro σ' H' ⟨rfl, rfl⟩
      rw [hz] at q
      exact ⟨_, rfl, q⟩
def sp_whole : Sp := fun vs H Q _ => ∃ (v : V) (d : PyData) (l : Int), vs = [v, .int l] ∧ Dx H v d ∧ Q (.bl (fromD l d)) H
theorem ok_whole (T : Txt K mg) : FnOk P w K mg base CX0 1 T.f_l_whole T.d_l_whole ["thing", "low"] sp_whole := by
  refine T.U_l_whole.ok sc_l_whole (fun vs H Q E h => ?_) (fun cdv A outer s H vs Q E hr h => ?_)
  · obtain ⟨_, _, _, rfl, _⟩ := h
    rfl
  · obtain ⟨v, d, l, rfl, hd, q⟩ := h
    refine ⟨_, (pss_one (ps_ret (pe_and (pe_callB call_isi (by rfl) T.n_isinstance (by decide +kernel) (pa_cons (pv 0) (pa_cons (pe_bltn (v := .ty "int") (u := .type "int") (by rfl) T.n_int (by decide +kernel) rfl) pa_nil))) (pe_and (pe_not (pe_callB call_isi (by rfl) T.n_isinstance (by decide +kernel) (pa_cons (pv 0) (pa_cons (pe_bltn (v := .ty "bool") (u := .type "bool") (by rfl) T.n_bool (by decide +kernel) rfl) pa_nil)))) (pe_one (pe_cmpR op_ge (pv 0) (pv 1) (nomark _))))))), ?_⟩
    obtain ⟨nm, ty, k1, k2, k3⟩ := hd.kit (K := K)
    refine ⟨_, rfl, _, _, _, _, intD d || blD d, rfl, .ty "int", ty, kit_ty k1, _, rfl, ?_⟩
    cases hd with
    | int n => exact iteT ⟨_, rfl, _, _, _, _, false, rfl, .ty "bool", ty, kit_ty k2, _, rfl, _, rfl, iteT ⟨_, rfl, _, rfl, _, _, rfl, rfl, q⟩⟩
    | bl b => exact iteT ⟨_, rfl, _, _, _, _, true, rfl, .ty "bool", ty, kit_ty k2, _, rfl, _, rfl, iteF q⟩
    | non => exact iteF q
    | str x => exact iteF q
    | lst _ _ => exact iteF q
    | tup _ _ => exact iteF q
    | dct _ _ => exact iteF q
def RetH (d : Nat) (g : Nat → Int) (H : Hp) (Q : VK) : Prop := ∀ l H', H l = none → Ex H H' → H' l = some (.lst (iV (hsL d g))) → Q (.ref l) H'
def sp_sym : Sp := fun vs H Q _ => ∃ (a : Addr) (d : Nat) (g : Nat → Int), vs = [.ref a, .int d] ∧ 2 ≤ d ∧ d ≤ 16 ∧ H a = some (.tup (iV (gsL (d / 2) g))) ∧ RetH d g H Q
theorem ok_symmetric (T : Txt K mg) : FnOk P w K mg base CX0 1 T.f_l_symmetric T.d_l_symmetric ["g", "d"] sp_sym := by
  refine T.U_l_symmetric.ok sc_l_symmetric (fun vs H Q E h => ?_) (fun cdv A outer s H vs Q E hr h => ?_)
  · obtain ⟨_, _, _, rfl, _⟩ := h
    rfl
  · obtain ⟨a, d, g, rfl, d2, d16, ha, q⟩ := h
    refine ⟨_, (pss_cons (ps_par rfl sc_l_symmetric.nd (i := 2) (j := 3) rfl rfl (by decide) rfl rfl (pa_cons (pe_lst pa_nil) (pa_cons pe_int pa_nil)) (by rfl))
  (pss_cons (ps_for PassesOwn.never rfl (pi_tup (pv 0)) (pg_name (i := 4) sc_l_symmetric.nd rfl (.inl rfl)) (pss_cons (ps_set (i := 3) sc_l_symmetric.nd rfl (.inl rfl) (pe_op op_add (pv 3) (pv 4)))
  (pss_one (ps_expr (pe_bm PySem.F.plainAttrs_list PySem.F.slot_list_append PySem.F.type_list_append mt_append (pv 2) (pa_cons (pv 3) pa_nil))))))
  (pss_one (ps_ret (pe_op op_cat (pv 2) (pe_revL (pe_slice sl_list (pv 2) po_none (po_some (pe_op op_sub (pe_op op_add (pv 1) pe_int) (pe_callB call_len_seq (by rfl) T.n_len PySem.boot_len (pa_cons (pv 2) pa_nil))))))))))), ?_⟩
    have hgl := gs_len (d / 2) g
    refine ⟨by show 0 ≤ sizeLine; decide, fun L nL => ?_⟩
    have e1 : Ex H (upd H L (.lst [])) := Ex.new nL
    refine ⟨_, _, rfl, ?_⟩
    refine ⟨_, rfl, a, rfl, ⟨_, SqT.of (e1 _ _ ha)⟩, ?_⟩
    refine for_tup (a := a) (xs := iV (gsL (d / 2) g)) (fun j σ' H' => ∃ y, σ' = [some (.ref a), some (.int d), some (.ref L), some (.int (sumN j g)), y] ∧ Ex H H' ∧ H' L = some (.lst (iV (rw' j fun k => sumN (k + 1) g)))) ⟨none, rfl, e1, upd_same⟩ ?_ ?_ ?_
    · rintro j σ' H' _ ⟨y, rfl, e, _⟩
      exact SqT.of (e _ _ ha)
    · rintro j x σ' H' hx ⟨y, rfl, e, hL⟩
      obtain ⟨rfl, hj⟩ := iV_at hx
      have eg : (gsL (d / 2) g).getD j 0 = g j := by
        unfold gsL
        exact rw_at (by omega)
      rw [eg]
      refine ⟨_, rfl, _, rfl, _, _, rfl, rfl, ?_⟩
      refine ⟨_, rfl, .inl ⟨rfl, _, SqL.of hL⟩, _, rfl, L, _, _, rfl, rfl, hL, by rw [iV_len, rw_len]; exact Nat.lt_of_le_of_lt (show j ≤ 10 by omega) (by decide), ?_⟩
      refine ⟨_, rfl, Ex.mut e nL, ?_⟩
      rw [upd_same]
      unfold rw'
      rw [List.range_succ, List.map_append]
      unfold iV
      rw [List.map_append]
      rfl
    · rintro σ' H' ⟨y, rfl, e, hL⟩
      rw [iV_len, hgl] at hL
      generalize hrow : rw' (d / 2 + 1) (fun k => sumN (k + 1) g) = rows at hL
      have hrl : rows.length = d / 2 + 1 := by rw [← hrow, rw_len]
      refine ⟨_, rfl, _, rfl, _, rfl, _, _, rfl, rfl, _, rfl, L, _, rfl, .inl (SqL.of hL), _, _, rfl, rfl, ((d - d / 2 : Nat) : Int), ?_, L, _, rfl, SqL.of hL, fun B nB => ?_⟩
      · rw [iV_len, hrl]
        exact congrArg V.int (by omega)
      rw [cut_to]
      have e2 := e.trans (Ex.new (o := .lst (iV (rows.take (d - d / 2)))) nB)
      have hR2 := (Ex.new (o := .lst (iV (rows.take (d - d / 2)))) nB) _ _ hL
      have hB : (upd H' B (.lst (iV (rows.take (d - d / 2))))) B = some (.lst (iV (rows.take (d - d / 2)))) := upd_same
      generalize upd H' B (.lst (iV (rows.take (d - d / 2)))) = H2 at e2 hR2 hB
      refine ⟨B, _, rfl, SqL.of hB, fun V nV => ?_⟩
      have er : (iV (rows.take (d - d / 2))).reverse = iV (rows.take (d - d / 2)).reverse := by
        unfold iV
        rw [List.map_reverse]
      rw [er]
      have e3 := e2.trans (Ex.new (o := .lst (iV (rows.take (d - d / 2)).reverse)) nV)
      have hR3 := (Ex.new (o := .lst (iV (rows.take (d - d / 2)).reverse)) nV) _ _ hR2
      refine ⟨L, V, _, _, rfl, rfl, hR3, upd_same, ?_, fun S nS => ?_⟩
      · rw [iV_len, iV_len, List.length_reverse, List.length_take]
        exact Nat.le_trans (show _ ≤ 30 by omega) (by decide)
      have ec : iV rows ++ iV (rows.take (d - d / 2)).reverse = iV (hsL d g) := by
        rw [← up_down (d := d) (g := g), hrow]
        unfold iV
        rw [List.map_append]
      rw [ec]
      exact q S _ (fresh_back e3 nS) (e3.trans (Ex.new nS)) upd_same
def sp_lc : Sp := fun vs H Q _ => ∃ (a : Addr) (d : Nat) (g : Nat → Int), vs = [.ref a] ∧ 2 ≤ d ∧ d ≤ 16 ∧ H a = some (.lst (iV (hsL d g))) ∧ (∀ x ∈ hsL d g, x.natAbs < 2 ^ 900) ∧ RetC d g H Q
theorem ok_lcounts (T : Txt K mg) : FnOk P w K mg base CX0 3 T.f_l_counts T.d_l_counts ["h"] sp_lc := by
  have F_l_choose := ok_choose (P := P) (w := w) (base := base) T
  refine T.U_l_counts.ok sc_l_counts (fun vs H Q E h => ?_) (fun cdv A outer s H vs Q E hr h => ?_)
  · obtain ⟨_, _, _, rfl, _⟩ := h
    rfl
  · obtain ⟨a, d, g, rfl, d2, d16, ha, hsm, q⟩ := h
    refine ⟨_, (pss_cons (ps_set (i := 1) sc_l_counts.nd rfl (.inr rfl) (pe_op op_sub (pe_callB call_len_seq (by rfl) T.n_len PySem.boot_len (pa_cons (pv 0) pa_nil)) pe_int))
  (pss_one (ps_ret (pe_callTy call_tuple_of (by rfl) T.n_tuple (by decide +kernel) (pa_cons (pe_lc (own := [("j", 2)]) (g := gName 2) (tt := tYes) rfl sc_l_counts.nd (pi_range2 rfl T.n_range (pa_cons pe_int (pa_cons (pe_op op_add (pv 1) pe_int) pa_nil))) (blkOk_by (own := [("j", 2)]) (N := ["h", "d", "j", "i"]) (sc := defScope s_l_counts) (by decide +kernel)) (fun _ _ _ _ _ => pg_name (i := 2) sc_l_counts.nd rfl (Or.inr rfl)) (fun _ _ _ _ _ => pts_nil) (fun _ _ _ _ _ => (pe_callB (r := rSum K) (cr_sum rfl) (by rfl) T.n_sum (by decide +kernel) (pa_cons (pe_lc (own := [("i", 3)]) (g := gName 3) (tt := tYes) rfl sc_l_counts.nd (pi_range1 rfl T.n_range (pa_cons (pe_op op_add (pv 2) pe_int) pa_nil)) (blkOk_nest (own := [("i", 3)]) (by kernel_rfl)) (fun _ _ _ _ _ => pg_name (i := 3) sc_l_counts.nd rfl (Or.inl rfl)) (fun _ _ _ _ _ => pts_nil) (fun _ _ _ _ _ => (pe_op op_mulW (pe_call F_l_choose (hr.mono (by decide)) (by rfl) T.g_l_choose T.k_l_choose T.b_l_choose .nil pass0 (pa_cons (pe_op op_sub (pv 1) (pv 3)) (pa_cons (pe_op op_sub (pv 2) (pv 3)) pa_nil))) (pe_ix (r := rIxL K) ix_list (pv 0) (pv 3) (fun _ _ => rfl))))) pa_nil)))) pa_nil))))), ?_⟩
    have hhl := hs_len d g
    refine ⟨_, rfl, a, _, rfl, .inl (SqL.of ha), _, _, rfl, rfl, ?_⟩
    have elast : (((iV (hsL d g)).length : Nat) : Int) - 1 = (d : Int) := by rw [iV_len, hhl]; omega
    dsimp only
    rw [elast]
    dsimp only [gName]
    refine r_ret (r_cb (r_arg ?_))
    refine el_lcR (lo := 1) (hi := (d : Int) + 1) (σ := [some (.ref a), some (.int (d : Nat)), none, none]) ?_ (by omega) (fun _ => true) (fun j => .int (mvA 1 d (symR g d) (j + 1))) (by omega) ?_ _ (Ex.refl _) _ ?_
    · intro H1 e Q1 q1
      exact ⟨_, rfl, _, _, rfl, rfl, q1 H1 (Ex.refl H1)⟩
    · intro j H2 e hj
      have hj' : j < d := by omega
      refine ⟨[some (.ref a), some (.int (d : Nat)), some (.int (1 + (j : Int))), none], fun k hk => hk, rfl, et_yes, fun _ => ?_⟩
      have e0 : (1 : Int) + (j : Int) = ((j + 1 : Nat) : Int) := by omega
      rw [e0]
      intro H3 e3 Q3 q3
      refine r_cb (r_arg ?_)
      refine el_lcR1 (n := ((j + 1 + 1 : Nat) : Int)) (σ := [some (.ref a), some (.int (d : Nat)), some (.int ((j + 1 : Nat) : Int)), none]) ?_ (by omega) (fun _ => true) (fun i => .int (tmv 1 d (symR g d) (j + 1) i)) (by omega) ?_ _ (Ex.refl _) _ ?_
      · intro H4 e4 Q4 q4
        exact ⟨_, rfl, _, _, rfl, rfl, q4 H4 (Ex.refl H4)⟩
      · intro i H4 e4 hi
        have hi' : i ≤ j + 1 := by omega
        refine ⟨[some (.ref a), some (.int (d : Nat)), some (.int ((j + 1 : Nat) : Int)), some (.int (0 + (i : Int)))], fun k hk => hk, rfl, et_yes, fun _ => ?_⟩
        have e0 : (0 : Int) + (i : Int) = (i : Int) := Int.zero_add _
        rw [e0]
        intro H5 e5 Q5 q5
        have E5 := e.trans (e3.trans (e4.trans e5))
        have h1' : ((j + 1 : Nat) : Int) - (i : Int) = ((j + 1 - i : Nat) : Int) := by omega
        have h2' : (d : Int) - (i : Int) = ((d - i : Nat) : Int) := by omega
        have b2 : (((ch (d - i) (j + 1 - i) : Nat) : Int)).natAbs < 2 ^ 17 := by
          rw [Int.natAbs_natCast]
          exact Nat.lt_of_le_of_lt (ch_two _ _) (Nat.pow_lt_pow_right (by decide) (by omega))
        have hix : (iV (hsL d g))[i]? = some (.int (symR g d i)) := by rw [iV_ix (by omega)]; congr 2; exact rw_at (by omega)
        have hsi : (symR g d i).natAbs < 2 ^ 900 := hsm _ (List.mem_map.mpr ⟨i, List.mem_range.mpr (by omega), rfl⟩)
        refine ⟨_, rfl, _, rfl, _, _, rfl, rfl, _, rfl, _, rfl, _, _, rfl, rfl, d - i, j + 1 - i, by show ([V.int ((d : Int) - (i : Int)), V.int (((j + 1 : Nat) : Int) - (i : Int))] : List V) = _; rw [h2', h1'], Nat.lt_of_le_of_lt (show d - i ≤ 16 by omega) (by decide), by omega, _, rfl, _, rfl, a, _, _, _, rfl, rfl, SqL.of (E5 _ _ ha), atI_nat hix, _, _, rfl, rfl, wide_mul (a := 17) (b := 900) b2 hsi (by decide) (by decide) (by decide), ?_⟩
        have et : ((ch (d - i) (j + 1 - i) : Nat) : Int) * symR g d i = tmv 1 d (symR g d) (j + 1) i := by
          unfold tmv sg
          split <;> rw [Int.one_mul]
        exact q_int (Q := Q5) et (q5 H5 (Ex.refl H5))
      · intro p H4 np e4 hp
        rw [given_rw] at hp
        refine ⟨p, _, rfl, SqL.of hp, ?_⟩
        rw [rw_sum]
        exact q3 H4 e4
    · intro p H2 np e hp
      rw [given_rw, show ((d : Int) + 1 - 1).toNat = d by omega] at hp
      refine ⟨p, _, rfl, .inl ⟨SqL.of hp, fun l hl => ?_⟩⟩
      exact q l _ (fresh_back e hl) (e.trans (Ex.new hl)) upd_same
def sp_gr : Sp := fun vs H Q _ => ∃ (r d : Nat), vs = [.int ((r + d + 1 : Nat) : Int), .int d] ∧ 2 ≤ d ∧ d ≤ 16 ∧ r < 2 ^ 110 ∧
  ∀ t p q H', H t = none → Ex H H' → H' t = some (.tup [.ref p, .ref q]) → H' p = some (.tup (iV (gsL (d / 2) (gLo r)))) → H' q = some (.tup (iV (gsL (d / 2) (gHi r)))) → Q (.ref t) H'
theorem ok_g_rows (T : Txt K mg) : FnOk P w K mg base CX0 3 T.f_l_g_rows T.d_l_g_rows ["n", "d"] sp_gr := by
  have F_l_choose := ok_choose (P := P) (w := w) (base := base) T
  refine T.U_l_g_rows.ok sc_l_g_rows (fun vs H Q E h => ?_) (fun cdv A outer s H vs Q E hr h => ?_)
  · obtain ⟨_, _, rfl, _⟩ := h
    rfl
  · obtain ⟨r, k, rfl, d2, k16, hrs, q⟩ := h
    refine ⟨_, (pss_cons (ps_set (i := 2) sc_l_g_rows.nd rfl (.inl rfl) (pe_op op_fdivN (pv 1) pe_int))
  (pss_cons (ps_set (i := 3) sc_l_g_rows.nd rfl (.inl rfl) (pe_op op_catN (pe_tup (pa_cons pe_int (pa_cons (pe_op op_sub (pe_op op_sub (pv 0) (pv 1)) pe_int) pa_nil))) (pe_op op_repN (pe_tup (pa_cons pe_int pa_nil)) (pe_op op_sub (pv 2) pe_int))))
  (pss_one (ps_ret (pe_tup (pa_cons (pe_slice sl_tupN (pv 3) po_none (po_some (pe_op op_add (pv 2) pe_int))) (pa_cons (pe_op op_catN (pe_tup (pa_cons pe_int pa_nil)) (pe_callTy call_tuple_of (by rfl) T.n_tuple (by decide +kernel) (pa_cons (pe_lc (own := [("k", 4)]) (g := gName 4) (tt := tYes) rfl sc_l_g_rows.nd (pi_range2 rfl T.n_range (pa_cons pe_int (pa_cons (pe_op op_add (pv 2) pe_int) pa_nil))) (blkOk_by (own := [("k", 4)]) (N := ["n", "d", "m", "low", "k"]) (sc := defScope s_l_g_rows) (by decide +kernel)) (fun _ _ _ _ _ => pg_name (i := 4) sc_l_g_rows.nd rfl (Or.inl rfl)) (fun _ _ _ _ _ => pts_nil) (fun _ _ _ _ _ => (pe_call F_l_choose (hr.mono (by decide)) (by rfl) T.g_l_choose T.k_l_choose T.b_l_choose .nil pass0 (pa_cons (pe_op op_add (pe_op op_sub (pe_op op_sub (pv 0) (pv 1)) pe_int) (pv 4)) (pa_cons (pv 4) pa_nil))))) pa_nil))) pa_nil))))))), ?_⟩
    have ek : ((k : Int)).fdiv 2 = ((k / 2 : Nat) : Int) := by
      rw [Int.fdiv_eq_ediv_of_nonneg _ (by decide)]
      omega
    have er : ((r + k + 1 : Nat) : Int) - (k : Int) - 1 = (r : Int) := by omega
    refine ⟨_, rfl, _, _, rfl, rfl, ⟨by decide, by decide⟩, ?_⟩
    simp only [ek]
    refine ⟨_, rfl, _, rfl, _, _, rfl, rfl, _, _, rfl, rfl, by show 2 ≤ sizeLine; decide, fun c nc => ?_⟩
    simp only [er]
    refine ⟨by show 1 ≤ sizeLine; decide, fun z nz => ?_⟩
    have e1 : Ex H (upd H c (.tup [.int 1, .int r])) := Ex.new nc
    have e2 := e1.trans (Ex.new (o := .tup [.int 0]) nz)
    refine ⟨_, rfl, _, _, rfl, rfl, z, ((k / 2 - 1 : Nat) : Int), _, rfl, by exact congrArg V.int (by omega), upd_same, by simp, by omega, by omega, by show 1 ≤ 1000; decide, fun p H3 cm => ?_⟩
    have hc3 := cm.ex _ _ ((Ex.new (o := .tup [.int 0]) nz) _ _ (upd_same (H := H) (a := c) (o := .tup [.int 1, .int (r : Int)])))
    refine ⟨c, p, _, _, rfl, rfl, hc3, cm.at, ?_, fun S H4 cm2 => ?_⟩
    · rw [Int.toNat_natCast, rep_flat, List.length_replicate]
      exact Nat.le_trans (show 2 + (k / 2 - 1) ≤ 20 by omega) (by decide)
    have hS := cm2.at
    rw [Int.toNat_natCast, gs_low (by omega)] at hS
    have e4 := e2.trans (cm.ex.trans cm2.ex)
    clear cm2 cm hc3
    dsimp only [gName]
    refine ⟨_, rfl, _, rfl, _, _, rfl, rfl, ((k / 2 + 1 : Nat) : Int), rfl, S, _, rfl, hS, fun L H5 cm5 => ?_⟩
    have hL := cm5.at
    rw [cut_to, List.take_of_length_le (by rw [gs_len]; exact Nat.le_refl _)] at hL
    have e5 := e4.trans cm5.ex
    clear cm5
    refine ⟨by show 1 ≤ sizeLine; decide, fun o no => ?_⟩
    have e6 := e5.trans (Ex.new (o := .tup [.int 1]) no)
    refine r_cb (r_arg ?_)
    refine el_lcR (H := upd H5 o (.tup [.int 1])) (lo := 1) (hi := ((k / 2 : Nat) : Int) + 1) ?_ (by omega) (fun _ => true) (fun i => .int (gHi r (i + 1))) (by omega) ?_ _ (Ex.refl _) _ ?_
    · intro H6 e6 Q6 q6
      exact ⟨_, rfl, _, _, rfl, rfl, q6 H6 (Ex.refl _)⟩
    · intro i H6 e6 hi
      have e0 : (1 : Int) + (i : Int) = ((i + 1 : Nat) : Int) := by omega
      rw [e0]
      refine ⟨[some (.int ((r + k + 1 : Nat) : Int)), some (.int k), some (.int ((k / 2 : Nat) : Int)), some (.ref S), some (.int ((i + 1 : Nat) : Int))], fun k hk => hk, rfl, et_yes, fun _ => ?_⟩
      intro H7 e7 Q7 q7
      have ea : ((r + k + 1 : Nat) : Int) - (k : Int) - 2 + ((i + 1 : Nat) : Int) = ((r + i : Nat) : Int) := by omega
      have hb : r + i < 2 ^ 120 := by
        have : (2 : Nat) ^ 120 = 1024 * 2 ^ 110 := Nat.pow_add 2 10 110
        have : (8 : Nat) < 2 ^ 110 := by decide
        omega
      refine ⟨_, rfl, _, rfl, _, _, rfl, rfl, _, _, rfl, rfl, _, rfl, _, _, rfl, rfl, _, rfl, r + i, i + 1, by show ([V.int (((r + k + 1 : Nat) : Int) - (k : Int) - 2 + ((i + 1 : Nat) : Int)), V.int ((i + 1 : Nat) : Int)] : List V) = _; rw [ea], hb, by omega, ?_⟩
      exact q7 H7 (Ex.refl _)
    intro p5 H6 np5 e7 hp5
    rw [given_rw, show (((k / 2 : Nat) : Int) + 1 - 1).toNat = k / 2 by omega] at hp5
    refine ⟨p5, _, rfl, .inl ⟨SqL.of hp5, fun y ny => ?_⟩⟩
    have ho7 : (upd H6 y (.tup (iV (rw' (k / 2) fun i => gHi r (i + 1))))) o = some (.tup [.int 1]) := (Ex.new ny) _ _ (e7 _ _ upd_same)
    refine ⟨o, y, _, _, rfl, rfl, ho7, upd_same, ?_, fun U H8 cm => ?_⟩
    · rw [iV_len, rw_len]
      exact Nat.le_trans (show 1 + k / 2 ≤ 10 by omega) (by decide)
    have hU := cm.at
    rw [gs_high] at hU
    have e8 := e7.trans ((Ex.new (o := .tup (iV (rw' (k / 2) fun i => gHi r (i + 1)))) ny).trans cm.ex)
    refine ⟨by show 2 ≤ sizeLine; decide, fun t nt => ?_⟩
    exact q t L U _ (fresh_back (e6.trans e8) nt) ((e6.trans e8).trans (Ex.new nt)) upd_same ((Ex.new nt) _ _ (e8 _ _ ((Ex.new no) _ _ hL))) ((Ex.new nt) _ _ hU)
end
end K81

set_option exponentiation.threshold 3000
/-! Values of any kind whose repr can be told. -/
namespace Hr
open PySem PySem.Spec PyProof.Rows L2 Evl
structure Val (d : PyData) (p n : Nat) : Prop where
  sh : d.showable = true
  leaf : d.leavesShort 1921 = true
  dep : d.depth ≤ p
  bulk : d.bulk ≤ n
  own : (valD d).natAbs < 2 ^ 300
  itm : ∀ x ∈ itemsD d, (valD x).natAbs < 2 ^ 300
structure ValL (ds : List PyData) (p n : Nat) : Prop where
  sh : PyData.showableAll ds = true
  leaf : PyData.leavesShortAll 1921 ds = true
  dep : PyData.depthAll ds ≤ p
  bulk : PyData.bulkAll ds ≤ n
  own : ∀ x ∈ ds, (valD x).natAbs < 2 ^ 300
section
variable {d e : PyData} {ds es : List PyData} {p q n m : Nat}
theorem Val.up (h : Val d p n) (hp : p ≤ q) (hn : n ≤ m) : Val d q m := ⟨h.sh, h.leaf, Nat.le_trans h.dep hp, Nat.le_trans h.bulk hn, h.own, h.itm⟩
theorem ValL.up (h : ValL ds p n) (hp : p ≤ q) (hn : n ≤ m) : ValL ds q m := ⟨h.sh, h.leaf, Nat.le_trans h.dep hp, Nat.le_trans h.bulk hn, h.own⟩
theorem ValL.nil : ValL [] 0 0 := ⟨rfl, rfl, Nat.le_refl 0, Nat.le_refl 0, fun x hx => by simp at hx⟩
theorem ValL.cons (h : Val d p n) (t : ValL ds p m) : ValL (d :: ds) p (n + 1 + m) := by
  refine ⟨?_, ?_, ?_, ?_, ?_⟩
  · simp only [PyData.showableAll, h.sh, t.sh, Bool.and_self]
  · simp only [PyData.leavesShortAll, h.leaf, t.leaf, Bool.and_self]
  · simp only [PyData.depthAll]
    exact Nat.max_le.mpr ⟨h.dep, t.dep⟩
  · simp only [PyData.bulkAll]
    have := h.bulk
    have := t.bulk
    omega
  · intro x hx
    rcases List.mem_cons.mp hx with rfl | hx
    · exact h.own
    · exact t.own x hx
theorem ValL.tup (h : ValL ds p n) : Val (.tuple ds) (p + 1) n := by
  refine ⟨?_, ?_, ?_, ?_, by show (0 : Int).natAbs < _; decide, h.own⟩
  · simpa only [PyData.showable] using h.sh
  · simpa only [PyData.leavesShort] using h.leaf
  · have := h.dep
    simp only [PyData.depth]
    omega
  · simpa only [PyData.bulk] using h.bulk
theorem ValL.lst (h : ValL ds p n) : Val (.list ds) (p + 1) n := by
  refine ⟨?_, ?_, ?_, ?_, by show (0 : Int).natAbs < _; decide, fun x hx => by cases hx⟩
  · simpa only [PyData.showable] using h.sh
  · simpa only [PyData.leavesShort] using h.leaf
  · have := h.dep
    simp only [PyData.depth]
    omega
  · simpa only [PyData.bulk] using h.bulk
theorem Val.int {i : Int} (h : i.natAbs < 2 ^ 300) : Val (.int i) 0 0 := by
  have hl : i.natAbs.log2 < 1920 := by
    have := PySem.Flt.log2_lt_of (by decide) h
    omega
  refine ⟨decide_eq_true hl, ?_, Nat.le_refl 0, Nat.le_refl 0, h, fun x hx => by cases hx⟩
  simp only [PyData.leavesShort, decide_eq_true_eq]
  exact int_text_len_1921 hl
theorem Val.bool (b : Bool) : Val (.bool b) 0 0 := ⟨rfl, rfl, Nat.le_refl 0, Nat.le_refl 0, by show (0 : Int).natAbs < _; decide, fun x hx => by cases hx⟩
theorem Val.none : Val .none 0 0 := ⟨rfl, rfl, Nat.le_refl 0, Nat.le_refl 0, by decide, fun x hx => by cases hx⟩
theorem Val.str {x : Str} (h : (x.cps.toList.all fun c => decide (c < 16 ^ 8)) = true) (hn : x.cps.size ≤ n) : Val (.str x) 0 n := ⟨rfl, by simpa only [PyData.leavesShort] using h, Nat.le_refl 0, by simpa only [PyData.bulk] using hn, by show (0 : Int).natAbs < _; decide, fun x hx => by cases hx⟩
theorem Val.dict1 {i : Int} (hi : i.natAbs < 2 ^ 300) (h : Val d p n) : Val (.dict [(.int i, d)]) (p + 1) (n + 2) := by
  have k := Val.int hi
  refine ⟨?_, ?_, ?_, ?_, by show (0 : Int).natAbs < _; decide, fun x hx => by cases hx⟩
  · have z : PyData.showable (.dict [(.int i, d)]) = (PyData.showable (.int i) && PyData.showable d && true) := by rfl
    rw [z, k.sh, h.sh]
    rfl
  · have z : PyData.leavesShort 1921 (.dict [(.int i, d)]) = (PyData.leavesShort 1921 (.int i) && PyData.leavesShort 1921 d && true) := by rfl
    rw [z, k.leaf, h.leaf]
    rfl
  · have := h.dep
    simp only [PyData.depth, PyData.depthKv]
    omega
  · have := h.bulk
    simp only [PyData.bulk, PyData.bulkKv]
    omega
theorem Val.dict2 {x : Str} {i : Int} (hx : Val (.str x) 0 m) (hi : i.natAbs < 2 ^ 300) (h : Val d p n) (he : Val e p 0) : Val (.dict [(.str x, d), (.int i, e)]) (p + 1) (m + n + 4) := by
  have k := Val.int hi
  refine ⟨?_, ?_, ?_, ?_, by show (0 : Int).natAbs < _; decide, fun x hx => by cases hx⟩
  · have z : PyData.showable (.dict [(.str x, d), (.int i, e)]) = (PyData.showable (.str x) && PyData.showable d && (PyData.showable (.int i) && PyData.showable e && true)) := by rfl
    rw [z, hx.sh, k.sh, h.sh, he.sh]
    rfl
  · have z := hx.leaf
    have z2 := k.leaf
    have z3 : PyData.leavesShort 1921 (.dict [(.str x, d), (.int i, e)]) = (PyData.leavesShort 1921 (.str x) && PyData.leavesShort 1921 d && (PyData.leavesShort 1921 (.int i) && PyData.leavesShort 1921 e && true)) := by rfl
    rw [z3, z, z2, h.leaf, he.leaf]
    rfl
  · have := h.dep
    have := he.dep
    simp only [PyData.depth, PyData.depthKv]
    omega
  · have h1 := hx.bulk
    have h2 := h.bulk
    have h3 := he.bulk
    simp only [PyData.bulk, PyData.bulkKv] at h1 ⊢
    omega
theorem ValL.ints : ∀ ns : List Int, (∀ x ∈ ns, x.natAbs < 2 ^ 300) → ValL (ns.map PyData.int) 0 ns.length
  | [], _ => ValL.nil
  | n :: ns, h => (ValL.cons (Val.int (h n List.mem_cons_self)) (ValL.ints ns fun x hx => h x (List.mem_cons_of_mem _ hx))).up (Nat.le_refl 0) (by rw [List.length_cons]; omega)
theorem ValL.app : ∀ {ds es : List PyData} {n m : Nat}, ValL ds p n → ValL es p m → ValL (ds ++ es) p (n + m)
  | [], es, n, m, _, h => h.up (Nat.le_refl p) (by omega)
  | d :: ds, es, n, m, a, b => by
    have sh := a.sh
    have lf := a.leaf
    have dp := a.dep
    have bk := a.bulk
    simp only [PyData.showableAll, Bool.and_eq_true] at sh
    simp only [PyData.leavesShortAll, Bool.and_eq_true] at lf
    simp only [PyData.depthAll, Nat.max_le] at dp
    simp only [PyData.bulkAll] at bk
    have t : ValL (ds ++ es) p (PyData.bulkAll ds + m) := ValL.app ⟨sh.2, lf.2, dp.2, Nat.le_refl _, fun x hx => a.own x (List.mem_cons_of_mem _ hx)⟩ b
    refine ⟨?_, ?_, ?_, ?_, ?_⟩
    · show PyData.showableAll (d :: (ds ++ es)) = true
      simp only [PyData.showableAll, sh.1, t.sh, Bool.and_self]
    · show PyData.leavesShortAll 1921 (d :: (ds ++ es)) = true
      simp only [PyData.leavesShortAll, lf.1, t.leaf, Bool.and_self]
    · show PyData.depthAll (d :: (ds ++ es)) ≤ p
      simp only [PyData.depthAll]
      exact Nat.max_le.mpr ⟨dp.1, t.dep⟩
    · show PyData.bulkAll (d :: (ds ++ es)) ≤ n + m
      have := t.bulk
      simp only [PyData.bulkAll]
      omega
    · intro x hx
      rcases List.mem_append.mp hx with h | h
      · exact a.own x h
      · exact b.own x h
theorem Val.len (h : Val d p n) (hn : n ≤ 8000) : d.shown.length ≤ sizeLine := by
  have h1 := PyData.shown_le_bulk 1921 (by decide) d h.leaf
  have h2 := h.bulk
  have h3 : sizeLine = 16777216 := by decide
  have h4 : (1921 + 2) * d.bulk ≤ 1923 * 8000 := Nat.mul_le_mul (Nat.le_refl _) (by omega)
  omega
variable {H : Hp} {a : Addr} {xs : List V} {Q : VK}
/-- repr of such a tuple -/
theorem r_reprX (ha : H a = some (.tup xs)) (hd : DxA H xs ds) (h : ValL ds p n) (hp : p ≤ 30) (hn : n ≤ 8000) (q : Q (.str (PyData.tuple ds).shown) H) : rReprX [.ref a] H Q :=
  ⟨a, xs, ds, rfl, ha, hd, h.sh, by have := h.tup.dep; omega, h.tup.len hn, q⟩
end
end Hr
namespace Hr
open PySem PySem.Spec PyProof.Rows L2 Evl LamX
/-- what G' has beyond G -/
def nw (G G' : Hp) : Hp := fun b => if (G b).isSome = true then none else G' b
section
variable {G G' G2 H : Hp} {d D : Addr} {o : HO}
theorem nw_in : Ex (nw G G') G' := fun b o h => by
  unfold nw at h
  split at h
  · cases h
  · exact h
theorem nw_at {b : Addr} (h : G b = none) (e : G' b = some o) : nw G G' b = some o := by
  unfold nw
  rw [h]
  exact e
theorem nw_up (e : Ex G' G2) : Ex (nw G G') (nw G G2) := fun b o h => by
  unfold nw at h ⊢
  split at h
  · cases h
  · rename_i z
    rw [if_neg z]
    exact e _ _ h
theorem nw_sub (e : ∀ b, (G b).isSome = true → (G' b).isSome = true) : Ex (nw G' G2) (nw G G2) := fun b o h => by
  unfold nw at h ⊢
  split at h
  · cases h
  · rename_i z
    rw [if_neg fun y => z (e b y)]
    exact h
theorem nw_ex (e : Ex G G') : Ex (nw G' G2) (nw G G2) := nw_sub fun b h => by
  obtain ⟨u, hu⟩ := Option.isSome_iff_exists.mp h
  rw [e b u hu]
  rfl
theorem nw_mut (h : (G D).isSome = true) : Ex (nw G G') (nw G (upd G' D o)) := fun b u e => by
  unfold nw at e ⊢
  split at e
  · cases e
  · rename_i z
    rw [if_neg z]
    have : b ≠ D := fun y => z (y ▸ h)
    rw [upd_ne this]
    exact e
theorem small_100 {n : Nat} (h : n ≤ 100) : n < sizeLine := Nat.lt_of_le_of_lt h (by decide)
/-- a list of drawn values -/
theorem lc_vals {n : Nat} {σ : L2.St} {te : TE} {g : TG} {vs : List Nat} {Q : VK} {p B : Nat} {R : PyData → Prop} (k : Dk G d H) (hn : n ≤ 100)
    (hs : ∀ (i : Nat) (H2 Gi : Hp), i < n → Dk Gi d H2 → Ex G Gi → ∃ σ2, (∀ k : L2.St → Hp → Prop, k σ2 H2 → g (.int (0 + (i : Int))) (wipe σ vs) H2 k) ∧ wipe σ2 vs = wipe σ vs ∧
      ∀ Q3 : VK, (∀ v pd Gj H', Ex Gi Gj → Dk Gj d H' → Dx (nw Gi Gj) v pd → Val pd p B → R pd → Q3 v H') → te σ2 H2 Q3)
    (q : ∀ D ys ds Gj H', Ex G Gj → Dk Gj d H' → G D = none → Gj D = some (.lst ys) → DxA (nw G Gj) ys ds → ValL ds p (n * (B + 1)) → ys.length = n → (∀ x ∈ ds, R x) → Q (.ref D) H') :
    tLc (fun _ H' R => R (Itr 0 n) H') g tYes te vs σ H Q := by
  intro D hD
  have hG : G D = none := k.free hD
  have sD : ((upd G D (.lst [])) D).isSome = true := by rw [upd_same]; rfl
  refine lc_it (walk_range (lo := 0) (n := n)) (fun i H2 => ∃ Gi ys ds, Gi D = some (.lst ys) ∧ Dk Gi d H2 ∧ Ex G Gi ∧ (∀ b, ((upd G D (.lst [])) b).isSome = true → (Gi b).isSome = true) ∧ DxA (nw (upd G D (.lst [])) Gi) ys ds ∧ ValL ds p (i * (B + 1)) ∧ ys.length = i ∧ ∀ x ∈ ds, R x)
    ⟨_, [], [], upd_same, k.made hD, Ex.new hG, fun b h => h, .nil, ValL.nil.up (Nat.zero_le _) (Nat.zero_le _), rfl, fun x hx => by simp at hx⟩ (fun _ _ _ _ => trivial) (fun i x H2 H3 hi inv y => ?_) (fun H2 inv => ?_)
  · obtain ⟨Gi, ys, ds, hd, kk, eG, sup, dA, vL, len, hR⟩ := inv
    obtain ⟨rfl, rfl⟩ := y
    obtain ⟨σ2, hk, hw, he⟩ := hs i _ Gi hi kk eG
    refine hk _ ⟨hw, ?_⟩
    show te σ2 _ _
    refine he _ fun v pd Gj H' e' k' dx vl vR => ⟨ys, k'.get (e' _ _ hd), small_100 (by omega), upd Gj D (.lst (ys ++ [v])), ys ++ [v], ds ++ [pd], upd_same, k'.set (e' _ _ hd), Ex.mut (eG.trans e') hG, fun b h => ?_, ?_, ?_, ?_, ?_⟩
    · by_cases hb : b = D
      · rw [hb, upd_same]
        rfl
      · rw [upd_ne hb]
        obtain ⟨u, hu⟩ := Option.isSome_iff_exists.mp (sup b h)
        rw [e' b u hu]
        rfl
    · exact ((dA.more (nw_up e')).app (.cons (dx.more (nw_sub sup)) .nil)).more (nw_mut sD)
    · have z := vL.app (ValL.cons vl (ValL.nil.up (Nat.zero_le p) (Nat.le_refl 0)))
      exact z.up (Nat.le_refl p) (by rw [Nat.succ_mul]; omega)
    · rw [List.length_append, len]
      rfl
    · intro x hx
      rcases List.mem_append.mp hx with h | h
      · exact hR x h
      · rw [List.mem_singleton.mp h]
        exact vR
  · obtain ⟨Gi, ys, ds, hd, kk, eG, sup, dA, vL, len, hR⟩ := inv
    exact q D ys ds Gi H2 eG kk hG hd (dA.more (nw_ex (Ex.new hG))) vL len hR
end
end Hr
namespace Hr
open PySem PySem.Spec PyProof.Rows L2 Evl LamX
/-- data that repr can tell, whatever its ints are -/
structure ShL (ds : List PyData) (p n : Nat) : Prop where
  sh : PyData.showableAll ds = true
  leaf : PyData.leavesShortAll 1921 ds = true
  dep : PyData.depthAll ds ≤ p
  bulk : PyData.bulkAll ds ≤ n
section
variable {d : PyData} {ds : List PyData} {p q n m : Nat}
theorem ShL.nil : ShL [] p 0 := ⟨rfl, rfl, Nat.zero_le _, Nat.le_refl 0⟩
theorem ShL.cons (h1 : d.showable = true) (h2 : d.leavesShort 1921 = true) (h3 : d.depth ≤ p) (h4 : d.bulk ≤ n) (t : ShL ds p m) : ShL (d :: ds) p (n + 1 + m) := by
  refine ⟨?_, ?_, ?_, ?_⟩
  · simp only [PyData.showableAll, h1, t.sh, Bool.and_self]
  · simp only [PyData.leavesShortAll, h2, t.leaf, Bool.and_self]
  · simp only [PyData.depthAll]
    exact Nat.max_le.mpr ⟨h3, t.dep⟩
  · simp only [PyData.bulkAll]
    have := t.bulk
    omega
theorem ShL.val (h : Val d p n) (t : ShL ds p m) : ShL (d :: ds) p (n + 1 + m) := ShL.cons h.sh h.leaf h.dep h.bulk t
theorem ShL.ints : ∀ ns : List Int, (∀ x ∈ ns, x.natAbs < 2 ^ 400) → ShL (ns.map PyData.int) 0 ns.length
  | [], _ => ShL.nil
  | n :: ns, h => by
    have hl : n.natAbs.log2 < 1920 := by
      have := PySem.Flt.log2_lt_of (by decide) (h n List.mem_cons_self)
      omega
    have ih := ShL.ints ns fun x hx => h x (List.mem_cons_of_mem _ hx)
    have z := ShL.cons (d := .int n) (p := 0) (n := 0) (decide_eq_true hl) (by simp only [PyData.leavesShort, decide_eq_true_eq]; exact int_text_len_1921 hl) (Nat.le_refl 0) (Nat.le_refl 0) ih
    exact ⟨z.sh, z.leaf, z.dep, by have := z.bulk; rw [List.length_cons]; simp only [List.map_cons] at this ⊢; omega⟩
theorem ShL.tup {es : List PyData} (h : ShL ds p n) (t : ShL es (p + 1) m) : ShL (.tuple ds :: es) (p + 1) (n + 1 + m) := by
  refine ShL.cons ?_ ?_ ?_ ?_ t
  · simpa only [PyData.showable] using h.sh
  · simpa only [PyData.leavesShort] using h.leaf
  · have := h.dep
    simp only [PyData.depth]
    omega
  · simpa only [PyData.bulk] using h.bulk
variable {H : Hp} {a : Addr} {xs : List V} {Q : VK}
theorem r_reprS (ha : H a = some (.tup xs)) (hd : DxA H xs ds) (h : ShL ds p n) (hp : p ≤ 30) (hn : n ≤ 8000) (q : Q (.str (PyData.tuple ds).shown) H) : rReprX [.ref a] H Q := by
  refine ⟨a, xs, ds, rfl, ha, hd, h.sh, ?_, ?_, q⟩
  · have := h.dep
    simp only [PyData.depth]
    omega
  · have h0 : (PyData.tuple ds).leavesShort 1921 = true := by simpa only [PyData.leavesShort] using h.leaf
    have h1 := PyData.shown_le_bulk 1921 (by decide) _ h0
    have h2 : (PyData.tuple ds).bulk ≤ n := by simpa only [PyData.bulk] using h.bulk
    have h3 : sizeLine = 16777216 := by decide
    have h4 : (1921 + 2) * (PyData.tuple ds).bulk ≤ 1923 * 8000 := Nat.mul_le_mul (Nat.le_refl _) (by omega)
    omega
end
end Hr

set_option exponentiation.threshold 3000
/-! repr of a list, or a tuple, of any values. -/
namespace Hr
open PySem PySem.Spec PyProof.Rows L2 Evl LamX
def rReprZ : List V → Hp → VK → Prop := fun vs H Q => ∃ (a : Addr) (xs : List V) (ds : List PyData), vs = [.ref a] ∧ DxA H xs ds ∧ PyData.showableAll ds = true ∧ PyData.depthAll ds + 1 ≤ 40 ∧
  ((H a = some (.tup xs) ∧ (PyData.tuple ds).shown.length ≤ sizeLine ∧ Q (.str (PyData.tuple ds).shown) H) ∨ (H a = some (.lst xs) ∧ xs ≠ [] ∧ (PyData.list ds).shown.length ≤ sizeLine ∧ Q (.str (PyData.list ds).shown) H))
theorem cr_reprZ {X : Cx} (gg : X.A.guards = some []) (hu : X.A.units + 64 < cLine) : CallR X (.builtin "repr") rReprZ := by
  intro pins s σ H vs us Q I r h
  obtain ⟨a, xs, ds, rfl, hd, hs, hdep, ⟨ha, hz, q⟩ | ⟨ha, hne, hz, q⟩⟩ := h
  · exact cr_reprX gg hu pins s σ H _ us Q I r ⟨a, xs, ds, rfl, ha, hd, hs, by simp only [PyData.depth]; omega, hz, q⟩
  · obtain ⟨u, rfl, r1⟩ := vals1 r
    cases r1
    obtain ⟨its, rv, ⟨o, n, ho, hc, hx, hdt⟩, _⟩ := I.list (SqL.of ha)
    have hz' : (listText (PyData.shownAll ds)).length ≤ sizeLine := by simpa only [PyData.shown] using hz
    obtain ⟨as, bs, q1, q2, q3⟩ := DxA.told I hd rv hs fun x hx => Nat.le_trans (listText_mem_le hx) hz'
    have rd := Reads.list ho hc hdt (by simpa using q1)
    have na := not_mem_of_deeper rd (show PyData.depthAll ds < (PyData.list ds).depth by simp only [PyData.depth]; omega) q2
    have e : (PyData.list ds).shown = listText (PyData.shownAll ds) := by simp only [PyData.shown]
    rw [e] at q
    cases its with
    | nil =>
      have e0 := rv.length
      exact absurd (List.eq_nil_of_length_eq_zero e0) hne
    | cons y l =>
      refine call_repr_slot (T := "list") (by omega) ⟨o, ho, hc⟩ F.slot_list_repr.toG ?_
      exact call_list_reprK (h₀ := s.heap) ho hc hdt na (by simpa using q3.length_eq) (fun i z e => q3.item i z (by simpa using e)) (A := X.A.in1) gg (fun b _ => Clear.nil b) (by show X.A.units + 1 + (PyData.depthAll ds + 1) < cLine; omega) (fun _ _ z => z)
        (fun h' t tk hk => ⟨_, _, rfl, .str _, H, I.kept (t' := tk) hk, ⟨t, rfl⟩, q⟩) hz'
/-- data that repr can tell, ints to 1900 bits -/
theorem ShL.wide : ∀ ns : List Int, (∀ x ∈ ns, x.natAbs < 2 ^ 1900) → ShL (ns.map PyData.int) 0 ns.length
  | [], _ => ShL.nil
  | n :: ns, h => by
    have hl : n.natAbs.log2 < 1920 := by
      have := PySem.Flt.log2_lt_of (by decide) (h n List.mem_cons_self)
      omega
    have ih := ShL.wide ns fun x hx => h x (List.mem_cons_of_mem _ hx)
    have z := ShL.cons (d := .int n) (p := 0) (n := 0) (decide_eq_true hl) (by simp only [PyData.leavesShort, decide_eq_true_eq]; exact int_text_len_1921 hl) (Nat.le_refl 0) (Nat.le_refl 0) ih
    exact ⟨z.sh, z.leaf, z.dep, by have := z.bulk; rw [List.length_cons]; simp only [List.map_cons] at this ⊢; omega⟩
theorem ShL.up {ds : List PyData} {p q n m : Nat} (h : ShL ds p n) (hp : p ≤ q) (hn : n ≤ m) : ShL ds q m := ⟨h.sh, h.leaf, Nat.le_trans h.dep hp, Nat.le_trans h.bulk hn⟩
section
variable {H : Hp} {a : Addr} {xs : List V} {ds : List PyData} {p n : Nat} {Q : VK}
theorem ShL.lenT (h : ShL ds p n) (hn : n ≤ 8000) : (PyData.tuple ds).shown.length ≤ sizeLine := by
  have h0 : (PyData.tuple ds).leavesShort 1921 = true := by simpa only [PyData.leavesShort] using h.leaf
  have h1 := PyData.shown_le_bulk 1921 (by decide) _ h0
  have h2 : (PyData.tuple ds).bulk ≤ n := by simpa only [PyData.bulk] using h.bulk
  have h3 : sizeLine = 16777216 := by decide
  have h4 : (1921 + 2) * (PyData.tuple ds).bulk ≤ 1923 * 8000 := Nat.mul_le_mul (Nat.le_refl _) (by omega)
  omega
theorem ShL.lenL (h : ShL ds p n) (hn : n ≤ 8000) : (PyData.list ds).shown.length ≤ sizeLine := by
  have h0 : (PyData.list ds).leavesShort 1921 = true := by simpa only [PyData.leavesShort] using h.leaf
  have h1 := PyData.shown_le_bulk 1921 (by decide) _ h0
  have h2 : (PyData.list ds).bulk ≤ n := by simpa only [PyData.bulk] using h.bulk
  have h3 : sizeLine = 16777216 := by decide
  have h4 : (1921 + 2) * (PyData.list ds).bulk ≤ 1923 * 8000 := Nat.mul_le_mul (Nat.le_refl _) (by omega)
  omega
theorem r_reprT (ha : H a = some (.tup xs)) (hd : DxA H xs ds) (h : ShL ds p n) (hp : p ≤ 30) (hn : n ≤ 8000) (q : Q (.str (PyData.tuple ds).shown) H) : rReprZ [.ref a] H Q :=
  ⟨a, xs, ds, rfl, hd, h.sh, by have := h.dep; omega, .inl ⟨ha, h.lenT hn, q⟩⟩
theorem r_reprL (ha : H a = some (.lst xs)) (hne : xs ≠ []) (hd : DxA H xs ds) (h : ShL ds p n) (hp : p ≤ 30) (hn : n ≤ 8000) (q : Q (.str (PyData.list ds).shown) H) : rReprZ [.ref a] H Q :=
  ⟨a, xs, ds, rfl, hd, h.sh, by have := h.dep; omega, .inr ⟨ha, hne, h.lenL hn, q⟩⟩
end
end Hr

set_option exponentiation.threshold 3000
namespace K81
open PySem PySem.Spec PyProof.Rows L2 Hr HrM Evl HrE_thing LamX RZ
/-- what is told of a call with two values -/
def Wh (g : Nat → Nat → Int) (dd ee : PyData) (ds : List PyData) : Prop :=
  (fromD 0 dd = false ∧ ds = [.str "BadNumber", dd, .bool true]) ∨
  (fromD 0 dd = true ∧ fromD 2 ee = false ∧ ds = [.str "BadSize", ee, .bool true]) ∨
  (∃ n m : Int, dd = .int n ∧ ee = .int m ∧ 0 ≤ n ∧ 2 ≤ m ∧ n ≤ m ∧ ds = [.str "BadNumber", dd, .bool true]) ∨
  (∃ r k : Nat, dd = .int ((r + k + 1 : Nat) : Int) ∧ ee = .int (k : Int) ∧ 2 ≤ k ∧ k ≤ 16 ∧ r < 2 ^ 110 ∧ ds = [.str "told", .tuple ((csL k (g r)).map .int)])
theorem told_ls {tl : XK → Hp → VK → Prop} {TL : List (Addr × Str)} {CA CB : Addr} {H H1 : Hp} {Q : VK} {v u : V} {dd ee : PyData} {ds : List PyData} {g : Nat → Nat → Int} (hw : Wh g dd ee ds) (dx : Dx H v dd) (dy : Dx H u ee)
    (htl : ∀ E H2 Q2, sp_ls CA CB g [v, u] H2 Q2 E → tl E H2 Q2) (e : ExtN H H1) (hT : Tabs TL H1)
    (q : ∀ l ys H', ExtN H H' → Tabs TL H' → H' l = some (.tup ys) → DxA H' ys ds → Q (.ref l) H') : TTold CA CB "BadNumber" "BadSize" tl H1 Q := by
  unfold TTold
  have bad : ∀ (w : V) (x : Str) (dw : PyData), Dx H1 w dw → ds = [.str x, dw, .bool true] → ∀ H2, Ex H1 H2 → ∀ l, H2 l = none → Q (.ref l) (upd H2 l (.tup [.str x, w, .bl true])) := fun w x dw hd hds H2 e2 l nl => by
    have e3 := e2.trans (Ex.new (o := .tup [.str x, w, .bl true]) nl)
    refine q l _ _ (e.trans (.of e3)) (hT.ext e3) upd_same ?_
    rw [hds]
    exact .cons (.str _) (.cons (hd.more e3) (.cons (.bl _) .nil))
  have dx1 := dx.moreN e
  have dy1 := dy.moreN e
  refine htl _ H1 _ ⟨v, u, dd, ee, rfl, dx1, dy1, fun h dh H2 nd e2 hd => ⟨dh, v, rfl, hd, .inl ⟨rfl, fun l nl => ?_⟩⟩, fun h h2 dh H2 nd e2 hd => ⟨dh, u, rfl, hd, .inr ⟨rfl, fun l nl => ?_⟩⟩, fun n m en em hn hm => ⟨fun hle dh H2 nd e2 hd => ⟨dh, v, rfl, hd, .inl ⟨rfl, fun l nl => ?_⟩⟩, fun hlt => ?_⟩⟩
  · rcases hw with ⟨_, hds⟩ | ⟨z, _⟩ | ⟨n, m, rfl, _, hn, _⟩ | ⟨r, k, rfl, _⟩
    · exact bad v "BadNumber" dd dx1 hds H2 e2 l nl
    · rw [h] at z; cases z
    · have : fromD 0 (.int n) = true := decide_eq_true hn
      rw [h] at this; cases this
    · have : fromD 0 (.int ((r + k + 1 : Nat) : Int)) = true := fromD_nat _
      rw [h] at this; cases this
  · rcases hw with ⟨z, _⟩ | ⟨_, _, hds⟩ | ⟨n, m, _, rfl, _, hm, _⟩ | ⟨r, k, _, rfl, h2k, _⟩
    · rw [h] at z; cases z
    · exact bad u "BadSize" ee dy1 hds H2 e2 l nl
    · have : fromD 2 (.int m) = true := decide_eq_true hm
      rw [h2] at this; cases this
    · have : fromD 2 (.int (k : Int)) = true := decide_eq_true (by omega)
      rw [h2] at this; cases this
  · subst en em
    rcases hw with ⟨z, _⟩ | ⟨_, z, _⟩ | ⟨n', m', en, em, _, _, _, hds⟩ | ⟨r, k, en, em, _⟩
    · have : fromD 0 (.int n) = true := decide_eq_true hn
      rw [z] at this; cases this
    · have : fromD 2 (.int m) = true := decide_eq_true hm
      rw [z] at this; cases this
    · exact bad v "BadNumber" _ dx1 hds H2 e2 l nl
    · injection en with en
      injection em with em
      omega
  · subst en em
    rcases hw with ⟨z, _⟩ | ⟨_, z, _⟩ | ⟨n', m', en, em, _, _, h3, _⟩ | ⟨r, k, en, em, h2k, h16, hr, hds⟩
    · have : fromD 0 (.int n) = true := decide_eq_true hn
      rw [z] at this; cases this
    · have : fromD 2 (.int m) = true := decide_eq_true hm
      rw [z] at this; cases this
    · injection en with en
      injection em with em
      omega
    · injection en with en
      injection em with em
      refine ⟨r, k, en, em, h16, hr, fun l H' nl e' hl => ⟨by show 2 ≤ sizeLine; decide, fun l2 nl2 => ?_⟩⟩
      have e2 := e'.trans (Ex.new (o := .tup [.str "told", .ref l]) nl2)
      refine q l2 _ _ (e.trans (.of e2)) (hT.ext e2) upd_same ?_
      rw [hds]
      exact .cons (.str _) (.cons (.tup ((Ex.new nl2) _ _ hl) (DxA.ints _)) .nil)
/-- values whose repr is short -/
def Shw (d : PyData) : Prop := d.showable = true ∧ d.leavesShort 1921 = true ∧ d.depth ≤ 5 ∧ d.bulk ≤ 200
theorem w_told : (PyData.str "told").showable = true ∧ (PyData.str "told").leavesShort 1921 = true ∧ (PyData.str "told").bulk ≤ 10 := by decide +kernel
theorem w_bn : (PyData.str "BadNumber").showable = true ∧ (PyData.str "BadNumber").leavesShort 1921 = true ∧ (PyData.str "BadNumber").bulk ≤ 10 := by decide +kernel
theorem w_bs : (PyData.str "BadSize").showable = true ∧ (PyData.str "BadSize").leavesShort 1921 = true ∧ (PyData.str "BadSize").bulk ≤ 10 := by decide +kernel
theorem sh_bad {d : PyData} {x : Str} (hx : (PyData.str x).showable = true ∧ (PyData.str x).leavesShort 1921 = true ∧ (PyData.str x).bulk ≤ 10) (h : Shw d) : ShL [.str x, d, .bool true] 10 400 := by
  have z := ShL.cons (p := 10) hx.1 hx.2.1 (Nat.zero_le _) hx.2.2 (ShL.cons h.1 h.2.1 (Nat.le_trans h.2.2.1 (by decide)) h.2.2.2 (ShL.cons (d := .bool true) (n := 0) rfl rfl (Nat.zero_le _) (Nat.le_refl 0) ShL.nil))
  exact ⟨z.sh, z.leaf, z.dep, Nat.le_trans z.bulk (by decide)⟩
theorem cs_small {d : Nat} {g : Nat → Int} (hd : d ≤ 16) (h : ∀ x ∈ hsL d g, x.natAbs < 2 ^ 900) : ∀ x ∈ csL d g, x.natAbs < 2 ^ 1900 := by
  intro x hx
  obtain ⟨j, hj, rfl⟩ := List.mem_map.mp hx
  have := List.mem_range.mp hj
  exact pow_lt (mvA_abs (.inl rfl) (b := 900) (by omega) (by omega) fun i hi => h _ (List.mem_map.mpr ⟨i, List.mem_range.mpr (by omega), rfl⟩)) (by decide)
theorem sh_told {d : Nat} {g : Nat → Int} (hd : d ≤ 16) (h : ∀ x ∈ hsL d g, x.natAbs < 2 ^ 900) : ShL [.str "told", .tuple ((csL d g).map .int)] 10 400 := by
  have z := ShL.cons (p := 1) w_told.1 w_told.2.1 (Nat.zero_le _) w_told.2.2 (ShL.tup (ShL.wide (csL d g) (cs_small hd h)) ShL.nil)
  exact ⟨z.sh, z.leaf, Nat.le_trans z.dep (by decide), Nat.le_trans z.bulk (by rw [cs_len]; omega)⟩
theorem wh_sh {g : Nat → Nat → Int} {dd ee : PyData} {ds : List PyData} (hg : ∀ r k, r < 2 ^ 110 → k ≤ 16 → ∀ x ∈ hsL k (g r), x.natAbs < 2 ^ 900) (h : Wh g dd ee ds) (h1 : Shw dd) (h2 : Shw ee) : ShL ds 10 400 := by
  rcases h with ⟨_, rfl⟩ | ⟨_, _, rfl⟩ | ⟨n, m, _, _, _, _, _, rfl⟩ | ⟨r, k, _, _, _, hk, hr, rfl⟩
  · exact sh_bad w_bn h1
  · exact sh_bad w_bs h2
  · exact sh_bad w_bn h1
  · exact sh_told hk (hg r k hr hk)
theorem tupN {H H' : Hp} (e : ExtN H H') {a : Addr} {xs : List V} (h : H a = some (.tup xs)) : H' a = some (.tup xs) := e _ _ h fun _ z => by cases z
/-- two values that may be asked -/
def Asked (dd ee : PyData) : Prop := ∀ n m : Int, dd = .int n → ee = .int m → 0 ≤ n → 2 ≤ m → m < n → m ≤ 16 ∧ n < 2 ^ 110
theorem asked_wh {dd ee : PyData} (h : Asked dd ee) (g : Nat → Nat → Int) : ∃ ds, Wh g dd ee ds := by
  cases h0 : fromD 0 dd with
  | false => exact ⟨_, .inl ⟨h0, rfl⟩⟩
  | true =>
    cases h2 : fromD 2 ee with
    | false => exact ⟨_, .inr (.inl ⟨h0, h2, rfl⟩)⟩
    | true =>
      obtain ⟨n, rfl, hn⟩ : ∃ n : Int, dd = .int n ∧ 0 ≤ n := by
        cases dd with
        | int n => exact ⟨n, rfl, of_decide_eq_true h0⟩
        | _ => cases h0
      obtain ⟨m, rfl, hm⟩ : ∃ n : Int, ee = .int n ∧ 2 ≤ n := by
        cases ee with
        | int n => exact ⟨n, rfl, of_decide_eq_true h2⟩
        | _ => cases h2
      by_cases hle : n ≤ m
      · exact ⟨_, .inr (.inr (.inl ⟨n, m, rfl, rfl, hn, hm, hle, rfl⟩))⟩
      · obtain ⟨h16, hb⟩ := h n m rfl rfl hn hm (by omega)
        exact ⟨_, .inr (.inr (.inr ⟨(n - m - 1).toNat, m.toNat, congrArg PyData.int (by omega), congrArg PyData.int (by omega), by omega, by omega, by omega, rfl⟩))⟩
/-- told counts, in a list that is being filled -/
def ToldC (H : Hp) (v : V) (d : Nat) (g : Nat → Int) : Prop := ∃ t c, v = .ref t ∧ H t = some (.tup [.str "told", .ref c]) ∧ H c = some (.tup (iV (csL d g)))
theorem ToldC.ext {H H' : Hp} {v : V} {d : Nat} {g : Nat → Int} (h : ToldC H v d g) (e : ∀ b xs, H b = some (.tup xs) → H' b = some (.tup xs)) : ToldC H' v d g := let ⟨t, c, a, b, f⟩ := h; ⟨t, c, a, e _ _ b, e _ _ f⟩
theorem ToldC.dx {H : Hp} {v : V} {d : Nat} {g : Nat → Int} (h : ToldC H v d g) : Dx H v (.tuple [.str "told", .tuple ((csL d g).map .int)]) := by
  obtain ⟨t, c, rfl, h1, h2⟩ := h
  exact .tup h1 (.cons (.str _) (.cons (.tup h2 (DxA.ints _)) .nil))
theorem tups_upd {H : Hp} {L : Addr} {xs : List V} {o : HO} (h : H L = some (.lst xs)) : ∀ b ys, H b = some (.tup ys) → (upd H L o) b = some (.tup ys) := fun b ys hb => by
  rw [upd_ne (fun z => by subst z; rw [h] at hb; cases hb)]
  exact hb
section
variable {P : Program} {w : World} {K : PySem.W.Frag} {mg : Str → Option Value} {base : Heap}
def sp_right (TL : List (Addr × Str)) : Sp := fun vs H Q _ => ∃ (v u : V) (dd ee : PyData), vs = [v, u] ∧ Dx H v dd ∧ Dx H u ee ∧ Shw dd ∧ Shw ee ∧ Asked dd ee ∧ Tabs TL H ∧ ∀ H', ExtN H H' → Tabs TL H' → Q (.bl true) H'
theorem ok_is_right (T : Txt K mg) (TB : TabB base mg T.c_l_is_right T.P_l_is_right) : FnG P w K mg base CX0 9 T.f_l_is_right T.d_l_is_right ["n", "d"] (sp_right (tabs T)) := by
  have F_least_sphere := ok_least_sphere (P := P) (w := w) (base := base) T
  have F_most_sphere := ok_most_sphere (P := P) (w := w) (base := base) T
  have F_l_whole := ok_whole (P := P) (w := w) (base := base) T
  have F_l_g_rows := ok_g_rows (P := P) (w := w) (base := base) T
  have F_l_counts := ok_lcounts (P := P) (w := w) (base := base) T
  have F_l_symmetric := ok_symmetric (P := P) (w := w) (base := base) T
  have kb_most_sphere_d_n := sw2_binds (p1 := "n") (p2 := "d") T.U_most_sphere fun _ _ _ _ _ _ _ _ => rfl
  refine okGc T.U_l_is_right sc_l_is_right (fun vs H Q E h => ?_) (fun cdv A outer s H vs Q E hcd hr gg h => ?_)
  · obtain ⟨_, _, _, _, rfl, _⟩ := h
    rfl
  · obtain ⟨v, u, dd, ee, rfl, dx, dy, s1, s2, ask, hT, q⟩ := h
    have hr' := hr
    have hm := hm_right T
    have hu := hu_right T
    have hcode : cdv = .ref T.c_l_is_right := hcd.symm.trans T.cd_l_is_right
    refine ⟨_, (pss_cons (ps_set (i := 2) sc_l_is_right.nd rfl (.inl rfl) (pe_told T hm hu TB hcode hr' (by rfl) (lamS_by (sc := defScope s_l_is_right) (by decide +kernel)) rfl (fun _ _ _ _ _ => rfl) (fun A outer s H E f c' hr2 => (pe_call F_least_sphere (hr2.mono (by decide)) (by rfl) T.g_least_sphere T.k_least_sphere T.b_least_sphere .nil (passOn (takes_of rfl rfl rfl rfl)) (pa_cons (pe_var (i := 0) rfl (.inr (.inr rfl)) (by decide) (by decide)) (pa_cons (pe_var (i := 1) rfl (.inr (.inr rfl)) (by decide) (by decide)) pa_nil))))))
  (pss_cons (ps_set (i := 3) sc_l_is_right.nd rfl (.inl rfl) (pe_told T hm hu TB hcode hr' (by rfl) (lamS_by (sc := defScope s_l_is_right) (by decide +kernel)) rfl (fun _ _ _ _ _ => rfl) (fun A outer s H E f c' hr2 => (pe_callK0 F_most_sphere (hr2.mono (by decide)) (by rfl) T.g_most_sphere T.k_most_sphere kb_most_sphere_d_n (passOn (takes_of rfl rfl rfl rfl)) (pk_cons (pe_var (i := 1) rfl (.inr (.inr rfl)) (by decide) (by decide)) (pk_cons (pe_var (i := 0) rfl (.inr (.inr rfl)) (by decide) (by decide)) pk_nil))))))
  (pss_cut (ps_if (pt_not (pt_val (pe_call F_l_whole (hr.mono (by decide)) (by rfl) T.g_l_whole T.k_l_whole T.b_l_whole .nil pass0 (pa_cons (pv 0) (pa_cons pe_int pa_nil))))) (pss_one (ps_set (i := 4) sc_l_is_right.nd rfl (.inl rfl) (pe_op op_rep (pe_lst (pa_cons (pe_tup (pa_cons pe_str (pa_cons (pv 0) (pa_cons pe_bl pa_nil)))) pa_nil)) pe_int))) (pss_one (ps_if (pt_not (pt_val (pe_call F_l_whole (hr.mono (by decide)) (by rfl) T.g_l_whole T.k_l_whole T.b_l_whole .nil pass0 (pa_cons (pv 1) (pa_cons pe_int pa_nil))))) (pss_one (ps_set (i := 4) sc_l_is_right.nd rfl (.inl rfl) (pe_op op_rep (pe_lst (pa_cons (pe_tup (pa_cons pe_str (pa_cons (pv 1) (pa_cons pe_bl pa_nil)))) pa_nil)) pe_int))) (pss_one (ps_if (pt_cmpR op_le (pv 0) (pv 1) (nomark _)) (pss_one (ps_set (i := 4) sc_l_is_right.nd rfl (.inl rfl) (pe_op op_rep (pe_lst (pa_cons (pe_tup (pa_cons pe_str (pa_cons (pv 0) (pa_cons pe_bl pa_nil)))) pa_nil)) pe_int))) (pss_one (ps_setLc (i := 4) (own := [("g", 5)]) (g := gName 5) (tt := tYes) (by rfl) sc_l_is_right.nd rfl rfl (sw_true rfl rfl rfl (by decide +kernel)) (pi_tup (pe_call F_l_g_rows (hr.mono (by decide)) (by rfl) T.g_l_g_rows T.k_l_g_rows T.b_l_g_rows .nil pass0 (pa_cons (pv 0) (pa_cons (pv 1) pa_nil)))) (blkOk_by (own := [("g", 5)]) (N := ["n", "d", "near", "far", "due", "g"]) (sc := defScope s_l_is_right) (by decide +kernel)) (fun _ _ _ _ _ => pg_name (i := 5) sc_l_is_right.nd rfl (Or.inl rfl)) (fun _ _ _ _ _ => pts_nil) (fun _ _ _ _ _ => (pe_tup (pa_cons pe_str (pa_cons (pe_call F_l_counts (hr.mono (by decide)) (by rfl) T.g_l_counts T.k_l_counts T.b_l_counts .nil pass0 (pa_cons (pe_call F_l_symmetric (hr.mono (by decide)) (by rfl) T.g_l_symmetric T.k_l_symmetric T.b_l_symmetric .nil pass0 (pa_cons (pv 5) (pa_cons (pv 1) pa_nil))) pa_nil)) pa_nil)))))))))))
  (pss_one (ps_ret (pe_cmpR op_eq (pe_callB (cr_reprZ gg hr.units) (by rfl) T.n_repr (by decide +kernel) (pa_cons (pe_lst (pa_cons (pv 2) (pa_cons (pv 3) pa_nil))) pa_nil)) (pe_callB (cr_reprZ gg hr.units) (by rfl) T.n_repr (by decide +kernel) (pa_cons (pv 4) pa_nil)) (nomark _))))))), ?_⟩
    obtain ⟨d1, w1⟩ := asked_wh ask gLo
    obtain ⟨d2, w2⟩ := asked_wh ask gHi
    have sh1 := wh_sh (fun r k hr _ => hs_small_lo hr) w1 s1 s2
    have sh2 := wh_sh (fun r k hr hk => hs_small_hi hr hk) w2 s1 s2
    refine ⟨hT, fun H1 e1 hT1 => told_ls w1 dx dy (fun E H3 Q3 h => ⟨_, rfl, _, rfl, h⟩) e1 hT1 fun l1 ys1 H2 e2 hT2 hl1 dA1 => ?_⟩
    refine ⟨hT2, fun H3 e3 hT3 => told_ls w2 (dx.moreN e2) (dy.moreN e2) (fun E H4 Q4 h => ⟨_, rfl, _, rfl, h⟩) e3 hT3 fun l2 ys2 H4 e4 hT4 hl2 dA2 => ?_⟩
    have e24 := e2.trans e4
    have hl1' := tupN e4 hl1
    have dA1' := dA1.moreN e4
    have dx4 := dx.moreN e24
    have dy4 := dy.moreN e24
    clear e1 hT1 e3 hT3 hT2 hl1 dA1
    refine ⟨fun σ' H' => ∃ D xs y5, σ' = [some v, some u, some (.ref l1), some (.ref l2), some (.ref D), y5] ∧ Ex H4 H' ∧ H' D = some (.lst xs) ∧ xs ≠ [] ∧ DxA H' xs [.tuple d1, .tuple d2], ?_, ?_⟩
    · have bad : ∀ (i : Nat) (z : V) (x : Str) (dz : PyData) (k : VK), ([some v, some u, some (.ref l1), some (.ref l2), none, none] : L2.St)[i]? = some (some z) → Dx H4 z dz → d1 = [.str x, dz, .bool true] → d2 = [.str x, dz, .bool true] →
          (∀ D xs H', Ex H4 H' → H' D = some (.lst xs) → xs ≠ [] → DxA H' xs [.tuple d1, .tuple d2] → k (.ref D) H') →
          tOp rRep (tLst (tCons (tTup (tCons (tC (.str x)) (tCons (tVar i) (tCons (tC (.bl true)) tNil)))) tNil)) (tC (.int 2)) [some v, some u, some (.ref l1), some (.ref l2), none, none] H4 k := by
        rintro i z x dz k hi hz rfl rfl hk
        refine ⟨z, hi, small3, fun t nt => ⟨by show 1 ≤ sizeLine; decide, fun g ng => ⟨g, 2, [.ref t], rfl, rfl, upd_same, by decide, by decide, by show 1 * 2 ≤ sizeLine; decide, fun g2 ng2 => ?_⟩⟩⟩
        have e5 := ((Ex.new (o := .tup [.str x, z, .bl true]) nt).trans (Ex.new (o := .lst [.ref t]) ng)).trans (Ex.new (o := .lst [.ref t, .ref t]) ng2)
        have ht := (Ex.new (o := .lst [.ref t, .ref t]) ng2) _ _ ((Ex.new (o := .lst [.ref t]) ng) _ _ (upd_same (H := H4) (a := t) (o := .tup [.str x, z, .bl true])))
        have one : Dx _ (.ref t) (.tuple [.str x, dz, .bool true]) := .tup ht (.cons (.str _) (.cons (hz.more e5) (.cons (.bl _) .nil)))
        exact hk g2 _ _ e5 upd_same (by simp) (.cons one (.cons one .nil))
      refine ⟨_, rfl, v, dd, 0, rfl, dx4, _, rfl, ?_⟩
      rcases w1 with ⟨h0, hd1⟩ | ⟨h0, h2, hd1⟩ | ⟨n, m, rfl, rfl, hn, hm2, hle, hd1⟩ | ⟨r, k, rfl, rfl, h2k, h16, hrs, hd1⟩
      · rw [h0]
        refine iteT (bad 0 v "BadNumber" dd _ rfl dx4 hd1 ?_ fun D xs H' e hD hne hA => ⟨D, xs, none, rfl, e, hD, hne, hA⟩)
        rcases w2 with ⟨_, k⟩ | ⟨z, _⟩ | ⟨n, _, rfl, _, hn, _⟩ | ⟨r, k, rfl, _⟩
        · exact k
        · rw [h0] at z; cases z
        · have : fromD 0 (.int n) = true := decide_eq_true hn
          rw [h0] at this; cases this
        · have := fromD_nat (r + k + 1)
          rw [h0] at this; cases this
      · rw [h0]
        refine iteF ⟨_, rfl, u, ee, 2, rfl, dy4, _, rfl, ?_⟩
        rw [h2]
        refine iteT (bad 1 u "BadSize" ee _ rfl dy4 hd1 ?_ fun D xs H' e hD hne hA => ⟨D, xs, none, rfl, e, hD, hne, hA⟩)
        rcases w2 with ⟨z, _⟩ | ⟨_, _, k⟩ | ⟨n, m, _, rfl, _, hm, _⟩ | ⟨r, k, _, rfl, hk, _⟩
        · rw [h0] at z; cases z
        · exact k
        · have : fromD 2 (.int m) = true := decide_eq_true hm
          rw [h2] at this; cases this
        · have : fromD 2 (.int (k : Int)) = true := decide_eq_true (by omega)
          rw [h2] at this; cases this
      · have g0 : fromD 0 (.int n) = true := decide_eq_true hn
        have g2 : fromD 2 (.int m) = true := decide_eq_true hm2
        rw [g0]
        refine iteF ⟨_, rfl, u, _, 2, rfl, dy4, _, rfl, ?_⟩
        rw [g2]
        cases dx4
        cases dy4
        refine iteF ⟨_, rfl, _, rfl, _, _, rfl, rfl, _, rfl, ite_yes (decide_eq_true hle) (bad 0 (.int n) "BadNumber" (.int n) _ rfl (.int n) hd1 ?_ fun D xs H' e hD hne hA => ⟨D, xs, none, rfl, e, hD, hne, hA⟩)⟩
        rcases w2 with ⟨z, _⟩ | ⟨_, z, _⟩ | ⟨_, _, _, _, _, _, _, k⟩ | ⟨r, k, en, em, _⟩
        · rw [g0] at z; cases z
        · rw [g2] at z; cases z
        · exact k
        · injection en with en
          injection em with em
          omega
      · have g0 := fromD_nat (r + k + 1)
        have g2 : fromD 2 (.int (k : Int)) = true := decide_eq_true (by omega)
        have hd2 : d2 = [.str "told", .tuple ((csL k (gHi r)).map .int)] := by
          rcases w2 with ⟨z, _⟩ | ⟨_, z, _⟩ | ⟨n, m, en, em, _, _, h3, _⟩ | ⟨r2, k2, en, em, _, _, _, hd⟩
          · rw [g0] at z; cases z
          · rw [g2] at z; cases z
          · injection en with en
            injection em with em
            omega
          · injection en with en
            injection em with em
            have e1 : k2 = k := by omega
            have e2 : r2 = r := by omega
            rw [hd, e1, e2]
        rw [g0]
        refine iteF ⟨_, rfl, u, _, 2, rfl, dy4, _, rfl, ?_⟩
        rw [g2]
        cases dx4
        cases dy4
        refine iteF ⟨_, rfl, _, rfl, _, _, rfl, rfl, _, rfl, ite_no (decide_eq_false (by omega)) ?_⟩
        refine ⟨_, rfl, _, rfl, r, k, rfl, h2k, h16, hrs, fun t p q5 H5 nt e5 ht hp hq5 => ⟨t, rfl, ⟨_, SqT.of ht⟩, fun D nD => ?_⟩⟩
        have go : ∀ (i : Nat) (gi : Nat → Nat → Int) (a : Addr) (H6 : Hp) (Q6 : VK), (∀ x ∈ hsL k (gi r), x.natAbs < 2 ^ 900) → Ex H5 H6 → H6 a = some (.tup (iV (gsL (k / 2) (gi r)))) → (∀ v H7, Ex H6 H7 → ToldC H7 v k (gi r) → Q6 v H7) →
            tTup (tCons (tC (.str "told")) (tCons (tCall sp_lc [] E0 (tCons (tCall sp_sym [] E0 (tCons (tVar 5) (tCons (tVar 1) tNil))) tNil)) tNil)) [some (.int ((r + k + 1 : Nat) : Int)), some (.int (k : Int)), some (.ref l1), some (.ref l2), none, some (.ref a)] H6 Q6 := by
          intro i gi a H6 Q6 hsm e6 ha hk
          refine ⟨_, rfl, _, rfl, a, k, gi r, rfl, h2k, h16, ha, fun L H7 nL e7 hL => ⟨L, k, gi r, rfl, h2k, h16, hL, hsm, fun c H8 nc e8 hc => ⟨small2, fun t nt => ?_⟩⟩⟩
          exact hk _ _ ((e7.trans e8).trans (Ex.new nt)) ⟨t, c, rfl, upd_same, (Ex.new nt) _ _ hc⟩
        refine lc_it (walk_tup (a := t) (xs := [.ref p, .ref q5])) (fun i H' => ∃ acc, Ex H5 H' ∧ H' D = some (.lst acc) ∧ acc.length = i ∧ (∀ x, acc[0]? = some x → ToldC H' x k (gLo r)) ∧ (∀ x, acc[1]? = some x → ToldC H' x k (gHi r)))
          ⟨[], Ex.new nD, upd_same, rfl, fun x h => by simp at h, fun x h => by simp at h⟩ (fun i H' _ ⟨acc, e, _⟩ => SqT.of (e _ _ ht)) ?_ ?_
        · rintro i x H6 H7 hi ⟨acc, e6, hD, hal, hA0, hA1⟩ ⟨rfl, hx⟩
          refine ⟨rfl, ?_⟩
          dsimp only [tYes]
          rw [if_pos rfl]
          match i, hi, hal, hx with
          | 0, _, hal, hx =>
            cases hx
            refine go 0 gLo p H7 _ (hs_small_lo hrs) e6 (e6 _ _ hp) fun y H8 e8 hy => ?_
            have ea : acc = [] := List.length_eq_zero_iff.mp hal
            subst ea
            exact ⟨[], e8 _ _ hD, by show 0 < sizeLine; decide, [y], Ex.mut (e6.trans e8) nD, upd_same, rfl, fun x h => by cases h; exact hy.ext (tups_upd (e8 _ _ hD)), fun x h => by simp at h⟩
          | 1, _, hal, hx =>
            cases hx
            refine go 1 gHi q5 H7 _ (hs_small_hi hrs h16) e6 (e6 _ _ hq5) fun y H8 e8 hy => ?_
            obtain ⟨x0, rfl⟩ : ∃ x0, acc = [x0] := List.length_eq_one_iff.mp hal
            exact ⟨[x0], e8 _ _ hD, by show 1 < sizeLine; decide, [x0, y], Ex.mut (e6.trans e8) nD, upd_same, rfl, fun x h => by cases h; exact (hA0 _ rfl).ext fun b xs hb => tups_upd (e8 _ _ hD) b xs (e8 _ _ hb), fun x h => by cases h; exact hy.ext (tups_upd (e8 _ _ hD))⟩
          | i + 2, hi, _, _ => exact absurd hi (by show ¬ i + 2 < 2; omega)
        · rintro H6 ⟨acc, e6, hD, hal, hA0, hA1⟩
          have hal' : acc.length = 2 := hal
          obtain ⟨x0, x1, rfl⟩ : ∃ x0 x1, acc = [x0, x1] := by
            match acc, hal' with
            | [x0, x1], _ => exact ⟨x0, x1, rfl⟩
          refine ⟨D, _, _, rfl, e5.trans e6, hD, by simp, ?_⟩
          rw [hd1, hd2]
          exact .cons (hA0 _ rfl).dx (.cons (hA1 _ rfl).dx .nil)
    rintro σ' H5 ⟨D, xs, y5, rfl, e5, hD, hne, dA⟩
    have e25 : ExtN H H5 := e24.trans (.of e5)
    have hT5 := hT4.ext e5
    have sall : ShL [.tuple d1, .tuple d2] 11 1000 := by
      have z := ShL.tup (p := 10) (sh1) (ShL.tup (sh2) ShL.nil)
      exact ⟨z.sh, z.leaf, z.dep, Nat.le_trans z.bulk (by decide)⟩
    refine ⟨_, rfl, _, rfl, small2, fun N nN => ?_⟩
    have e6 := Ex.new (o := .lst [.ref l1, .ref l2]) nN
    refine r_nil ?_
    try dsimp only
    refine r_reprL upd_same (by simp) (.cons (.tup (e6 _ _ (e5 _ _ hl1')) (dA1'.more (e5.trans e6))) (.cons (.tup (e6 _ _ (e5 _ _ hl2)) (dA2.more (e5.trans e6))) .nil)) sall (by decide) (by decide) ?_
    refine ⟨_, rfl, ?_⟩
    refine r_nil ?_
    try dsimp only
    refine r_reprL (e6 _ _ hD) hne (dA.more e6) sall (by decide) (by decide) ?_
    refine ⟨rfl, ?_⟩
    exact q_bl (Q := Q) (decide_eq_true rfl) (q _ (e25.trans (.of e6)) (hT5.ext e6))
end
end K81

/-! max of a tuple of ints; tuples and lists of ints that are compared. -/
namespace Hr
open PySem PySem.Spec PyProof.Rows L2 Evl RZ
theorem foldl_max (n : Int) : ∀ ns : List Int, (ns.foldl max n ∈ n :: ns) ∧ (∀ y ∈ n :: ns, y ≤ ns.foldl max n) := by
  intro ns
  induction ns generalizing n with
  | nil => exact ⟨List.mem_singleton.mpr rfl, fun y hy => by cases List.mem_singleton.mp hy; exact Int.le_refl _⟩
  | cons k r ih =>
    obtain ⟨h1, h2⟩ := ih (max n k)
    rw [List.foldl_cons]
    refine ⟨?_, fun y hy => ?_⟩
    · rcases List.mem_cons.mp h1 with e | h
      · rw [e]
        by_cases z : k ≤ n
        · rw [Int.max_eq_left z]; exact List.mem_cons_self
        · rw [Int.max_eq_right (by omega)]; exact List.mem_cons_of_mem _ List.mem_cons_self
      · exact List.mem_cons_of_mem _ (List.mem_cons_of_mem _ h)
    · have h3 := h2 (max n k) List.mem_cons_self
      rcases List.mem_cons.mp hy with rfl | hy
      · omega
      · rcases List.mem_cons.mp hy with rfl | hy
        · omega
        · exact h2 y (List.mem_cons_of_mem _ hy)
section
variable {X : Cx}
def rMaxT (K : PySem.W.Frag) : List V → Hp → VK → Prop := fun vs H Q => ∃ (a : Addr) (ns : List Int), vs = [.ref a] ∧ SqT K H a (ns.map V.int) ∧ 0 < ns.length ∧ ∀ m, m ∈ ns → (∀ y, y ∈ ns → y ≤ m) → Q (.int m) H
theorem cr_maxT (hc : X.calm = true) (hu : X.A.units + 64 < cLine) : CallR X (.builtin "max") (rMaxT X.K) := by
  intro pins s σ H vs us Q I r h
  obtain ⟨a, ns, rfl, hs, hne, q⟩ := h
  obtain ⟨its, rv, hl, hz⟩ := I.tuple hs
  rw [Vals.ref1 r]
  obtain ⟨as, rd⟩ := Dp.readsAll I _ _ _ (dp_ints (K := X.K) (H := H) ns) rv
  cases ns with
  | nil => exact absurd hne (by decide)
  | cons n ns =>
    have rd' : ReadsAll s.heap its.toArray.toList (PyData.int n :: ns.map PyData.int) as := by
      rw [List.toList_toArray]
      exact rd
    have hd := Hr.depth_ints (n :: ns)
    refine PySem.W.max_tuple_data (I.ok.hd hc) (show s.heap.IsTuple a its.toArray from hl) rd' (alike_all_ints (n :: ns)) ?_ fun i v h' tk bs hv hr hk => ?_
    · have hd' : PyData.depthAll (PyData.int n :: ns.map PyData.int) ≤ 1 := hd
      omega
    · rw [PySem.W.maxD_ints] at hr
      obtain ⟨m1, m2⟩ := foldl_max n ns
      generalize ns.foldl max n = m at hr m1 m2
      cases hr with
      | int _ t => exact ⟨.int m, H, I.kept hk, ⟨_, rfl⟩, q m m1 m2⟩
end
theorem intsEqv : ∀ xs ys : List Int, PyData.eqvAll (xs.map PyData.int) (ys.map PyData.int) = decide (xs = ys)
  | [], [] => by simp [PyData.eqvAll]
  | [], y :: ys => by simp [PyData.eqvAll]
  | x :: xs, [] => by simp [PyData.eqvAll]
  | x :: xs, y :: ys => by
    have ih := intsEqv xs ys
    simp only [List.map_cons, PyData.eqvAll, PyData.eqv, ih, List.cons.injEq, Bool.decide_and]
    congr 1
theorem lstEqv (xs ys : List Int) : PyData.eqv (izD xs) (izD ys) = decide (xs = ys) := by
  unfold izD
  simp only [PyData.eqv]
  exact intsEqv xs ys
def izT (xs : List Int) : PyData := .tuple (xs.map PyData.int)
theorem izT_dp {K : PySem.W.Frag} {H : Hp} {a : Addr} {xs : List Int} (h : H a = some (.tup (xs.map V.int))) : Dp K H (.ref a) (izT xs) := .tup (SqT.of h) (ints_dp xs)
theorem izT_shaped (xs : List Int) : SeqAt.shaped (izT xs) = true := by
  unfold SeqAt.shaped izT
  have h1 := ints_lay xs
  have h2 := Hr.ints_depth xs
  simp only [PyData.canLay0, PyData.depth, Bool.and_eq_true, decide_eq_true_eq]
  exact ⟨h1, decide_eq_true (by omega)⟩
theorem tupEqv (xs ys : List Int) : PyData.eqv (izT xs) (izT ys) = decide (xs = ys) := by
  unfold izT
  simp only [PyData.eqv]
  exact intsEqv xs ys
end Hr

set_option exponentiation.threshold 3000
namespace K81
open PySem PySem.Spec PyProof.Rows L2 Hr HrM Evl HrE_thing LamX RZ
theorem w_fits : (PyData.str "fits").showable = true ∧ (PyData.str "fits").leavesShort 1921 = true ∧ (PyData.str "fits").bulk ≤ 10 := by decide +kernel
theorem gs_small {m : Nat} {g : Nat → Int} (f : FitG m g) : ∀ x ∈ gsL m g, x.natAbs < 2 ^ 1900 := by
  intro x hx
  obtain ⟨k, hk, rfl⟩ := List.mem_map.mp hx
  exact pow_lt (f.small k (by have := List.mem_range.mp hk; omega)) (by decide)
section
variable {P : Program} {w : World} {K : PySem.W.Frag} {mg : Str → Option Value} {base : Heap}
def sp_rr (TL : List (Addr × Str)) : Sp := fun vs H Q _ => ∃ (a b : Addr) (d : Nat) (g : Nat → Int), vs = [.ref a, .ref b] ∧ 2 ≤ d ∧ d ≤ 16 ∧ H a = some (.tup (iV (csL d g))) ∧ H b = some (.tup (iV (gsL (d / 2) g))) ∧ FitG (d / 2) g ∧ (∀ x ∈ csL d g, x.natAbs < 2 ^ 300) ∧ (∀ x ∈ hsL d g, x.natAbs < 2 ^ 900) ∧ Tabs TL H ∧ RetVk TL (.bl true) H Q
theorem ok_is_row_right (T : Txt K mg) (TB : TabB base mg T.c_greatest_top T.P_greatest_top) : FnG P w K mg base CX0 9 T.f_l_is_row_right T.d_l_is_row_right ["counts", "g"] (sp_rr (tabs T)) := by
  have F_judge_sphere := ok_judge_sphere (P := P) (w := w) (base := base) T TB
  have F_sphere_holds := ok_sphere_holds (P := P) (w := w) (base := base) T TB
  have F_l_symmetric := ok_symmetric (P := P) (w := w) (base := base) T
  have F_h_row := ok_h_row (P := P) (w := w) (base := base) T
  have F_counts_of_h := ok_counts_of_h (P := P) (w := w) (base := base) T
  refine okG T.U_l_is_row_right sc_l_is_row_right (fun vs H Q E h => ?_) (fun cdv A outer s H vs Q E hr gg h => ?_)
  · obtain ⟨_, _, _, _, rfl, _⟩ := h
    rfl
  · obtain ⟨a, b, d, g, rfl, d2, d16, ha, hb, fg, hsm, hss, hT, q⟩ := h
    refine ⟨_, (pss_cons (ps_if (PW.pt (pw_or (pt_cmpR op_ne (pe_callB (cr_reprZ gg hr.units) (by rfl) T.n_repr (by decide +kernel) (pa_cons (pe_call F_judge_sphere (hr.mono (by decide)) (by rfl) T.g_judge_sphere T.k_judge_sphere T.b_judge_sphere .nil pass0 (pa_cons (pv 0) pa_nil)) pa_nil)) (pe_callB (cr_reprZ gg hr.units) (by rfl) T.n_repr (by decide +kernel) (pa_cons (pe_tup (pa_cons pe_str (pa_cons (pv 1) pa_nil))) pa_nil)) (nomark _)) (pw_or1 (pt_cmpR op_notBl (pe_call F_sphere_holds (hr.mono (by decide)) (by rfl) T.g_sphere_holds T.k_sphere_holds T.b_sphere_holds .nil pass0 (pa_cons (pv 0) (pa_cons (pe_tup (pa_cons pe_str (pa_cons (pv 1) pa_nil))) pa_nil))) pe_bl (nomark _))))) (pss_one (ps_ret pe_bl)) pss_nil)
  (pss_cons (ps_set (i := 2) sc_l_is_row_right.nd rfl (.inl rfl) (pe_callTy call_tuple_of (by rfl) T.n_tuple (by decide +kernel) (pa_cons (pe_call F_l_symmetric (hr.mono (by decide)) (by rfl) T.g_l_symmetric T.k_l_symmetric T.b_l_symmetric .nil pass0 (pa_cons (pv 1) (pa_cons (pe_callB call_len_seq (by rfl) T.n_len PySem.boot_len (pa_cons (pv 0) pa_nil)) pa_nil))) pa_nil)))
  (pss_one (ps_ret (pe_cmpR op_eq (pe_callB (cr_reprZ gg hr.units) (by rfl) T.n_repr (by decide +kernel) (pa_cons (pe_tup (pa_cons (pe_call F_h_row (hr.mono (by decide)) (by rfl) T.g_h_row T.k_h_row T.b_h_row .nil pass0 (pa_cons (pv 0) pa_nil)) (pa_cons (pe_call F_counts_of_h (hr.mono (by decide)) (by rfl) T.g_counts_of_h T.k_counts_of_h T.b_counts_of_h .nil pass0 (pa_cons (pv 2) pa_nil)) pa_nil))) pa_nil)) (pe_callB (cr_reprZ gg hr.units) (by rfl) T.n_repr (by decide +kernel) (pa_cons (pe_tup (pa_cons (pv 2) (pa_cons (pv 0) pa_nil))) pa_nil)) (nomark _)))))), ?_⟩
    have hcl := cs_len d g
    have hgl := gs_len (d / 2) g
    have hhl := hs_len d g
    have m8 := fg.m8
    have hpos := cs_pos (d := d) fg.g0 fg.nn
    have shg : ShL [.str "fits", .tuple ((gsL (d / 2) g).map .int)] 10 400 := by
      have z := ShL.cons (p := 1) w_fits.1 w_fits.2.1 (Nat.zero_le _) w_fits.2.2 (ShL.tup (ShL.wide (gsL (d / 2) g) (gs_small fg)) ShL.nil)
      exact ⟨z.sh, z.leaf, Nat.le_trans z.dep (by decide), Nat.le_trans z.bulk (by omega)⟩
    refine ⟨_, rfl, a, d, g, rfl, d2, d16, ha, fg, hsm, hT, fun t u H1 e1 ht hu => ?_⟩
    refine r_nil ?_
    try dsimp only
    refine r_reprT ht (.cons (.str _) (.cons (.tup hu (DxA.ints _)) .nil)) shg (by decide) (by decide) ?_
    refine ⟨_, rfl, small2, fun t2 nt2 => ?_⟩
    have e2 := Ex.new (o := .tup [.str "fits", .ref b]) nt2
    refine r_nil ?_
    try dsimp only
    refine r_reprT upd_same (.cons (.str _) (.cons (.tup (e2 _ _ (e1.get hb)) (DxA.ints _)) .nil)) shg (by decide) (by decide) ?_
    refine ⟨rfl, _, rfl, ite_no (by rw [decide_eq_true rfl]; rfl) ?_⟩
    have e12 := e1.ex e2
    refine ⟨_, rfl, _, rfl, small2, fun t3 nt3 => ?_⟩
    have e3 := Ex.new (o := .tup [.str "fits", .ref b]) nt3
    have e13 := e12.ex e3
    refine ⟨a, t3, b, d, g, rfl, d2, d16, e13.get ha, fg, hsm, upd_same, e13.get hb, e13.t hT, fun H4 e4 => ?_⟩
    have e14 := e13.trans e4
    refine ⟨true, true, rfl, rfl, _, rfl, iteF ?_⟩
    dsimp only [tNext]
    have ha4 := e14.get ha
    have hb4 := e14.get hb
    refine ⟨_, rfl, _, rfl, a, _, rfl, .inr (SqT.of ha4), ?_⟩
    refine ⟨b, d, g, by rw [iV_len, hcl]; rfl, d2, d16, hb4, fun L H5 nL e5 hL => ?_⟩
    refine ⟨L, _, rfl, .inl ⟨SqL.of hL, fun h nh => ?_⟩⟩
    have e6 := Ex.new (o := .tup (iV (hsL d g))) nh
    have e56 := e5.trans e6
    have hh : (upd H5 h (.tup (iV (hsL d g)))) h = some (.tup (iV (hsL d g))) := upd_same
    have ha6 := e56 _ _ ha4
    generalize upd H5 h (.tup (iV (hsL d g))) = H6 at e56 hh ha6
    dsimp only [gName]
    have shh : ShL [.tuple ((hsL d g).map .int), .tuple ((csL d g).map .int)] 10 400 := by
      have z := ShL.tup (p := 0) (ShL.wide (hsL d g) fun x hx => pow_lt (hss x hx) (by decide)) (ShL.tup (p := 0) (ShL.wide (csL d g) fun x hx => pow_lt (hsm x hx) (by decide)) ShL.nil)
      exact ⟨z.sh, z.leaf, Nat.le_trans z.dep (by decide), Nat.le_trans z.bulk (by omega)⟩
    refine ⟨_, rfl, a, csL d g, rfl, ha6, by omega, by omega, hpos, getD_mem (by decide) hsm, fun l H7 nl e7 hl => ?_⟩
    rw [back_hs fg.g0] at hl
    have h00 : (hsL d g).getD 0 0 = 1 := by
      unfold hsL
      rw [rw_at (by omega)]
      unfold symR
      rw [Nat.zero_min]
      show 0 + g 0 = 1
      rw [fg.g0]
      rfl
    refine ⟨_, rfl, h, hsL d g, rfl, e7 _ _ hh, by omega, by omega, h00, getD_mem (by decide) hss, by rw [mv_hs1]; exact hpos, fun l2 H8 nl2 e8 hl2 => ?_⟩
    rw [mv_hs1] at hl2
    refine ⟨small2, fun t4 nt4 => ?_⟩
    have e9 := Ex.new (o := .tup [.ref l, .ref l2]) nt4
    refine r_nil ?_
    try dsimp only
    refine r_reprT upd_same (.cons (.tup (e9 _ _ (e8 _ _ hl)) (DxA.ints _)) (.cons (.tup (e9 _ _ hl2) (DxA.ints _)) .nil)) shh (by decide) (by decide) ?_
    have e79 := e7.trans (e8.trans e9)
    refine ⟨_, rfl, _, rfl, small2, fun t5 nt5 => ?_⟩
    have e10 := Ex.new (o := .tup [.ref h, .ref a]) nt5
    refine r_nil ?_
    try dsimp only
    refine r_reprT upd_same (.cons (.tup (e10 _ _ (e79 _ _ hh)) (DxA.ints _)) (.cons (.tup (e10 _ _ (e79 _ _ ha6)) (DxA.ints _)) .nil)) shh (by decide) (by decide) ?_
    refine ⟨rfl, ?_⟩
    exact q_bl (Q := Q) (decide_eq_true rfl) (q _ (e14.ex (e56.trans (e79.trans e10))))
end
end K81

/-! Any value, tuples tracked or frozen. -/
namespace Hr
open PySem PySem.Spec PyProof.Rows L2 Evl LamX
theorem _root_.L2.Rd.exN {H H' : Hp} {a : Addr} {xs : List V} (r : Rd H a (.tup xs)) (e : ExtN H H') : Rd H' a (.tup xs) := by
  rcases r with h | ⟨o, h⟩
  · exact .inl (e _ _ h fun _ z => by cases z)
  · exact .inr ⟨o, e _ _ h fun _ z => by cases z⟩
theorem _root_.L2.Rd.ex {H H' : Hp} {a : Addr} {xs : List V} (r : Rd H a (.tup xs)) (e : Ex H H') : Rd H' a (.tup xs) := r.exN (.of e)
mutual
inductive Df (H : Hp) : V → PyData → Prop
  | non : Df H .non .none
  | bl (b : Bool) : Df H (.bl b) (.bool b)
  | int (i : Int) : Df H (.int i) (.int i)
  | str (x : Str) : Df H (.str x) (.str x)
  | lst {a : Addr} {xs : List V} {ds : List PyData} : H a = some (.lst xs) → DfA H xs ds → Df H (.ref a) (.list ds)
  | tup {a : Addr} {xs : List V} {ds : List PyData} : Rd H a (.tup xs) → DfA H xs ds → Df H (.ref a) (.tuple ds)
  | dct {a : Addr} {kvs : List (Key × V)} {es : List (PyData × PyData)} : H a = some (.dK kvs) → DfK H kvs es → Df H (.ref a) (.dict es)
inductive DfA (H : Hp) : List V → List PyData → Prop
  | nil : DfA H [] []
  | cons {v : V} {vs : List V} {d : PyData} {ds : List PyData} : Df H v d → DfA H vs ds → DfA H (v :: vs) (d :: ds)
inductive DfK (H : Hp) : List (Key × V) → List (PyData × PyData) → Prop
  | nil : DfK H [] []
  | cons {k : Key} {v : V} {kvs : List (Key × V)} {d : PyData} {es : List (PyData × PyData)} : Df H v d → DfK H kvs es → DfK H ((k, v) :: kvs) ((kyD k, d) :: es)
end
section
variable {H H' : Hp}
mutual
theorem Df.moreN (e : ExtN H H') : ∀ {v : V} {d : PyData}, Df H v d → Df H' v d
  | _, _, .non => .non
  | _, _, .bl b => .bl b
  | _, _, .int i => .int i
  | _, _, .str x => .str x
  | _, _, .lst h t => .lst (e _ _ h (fun _ z => by cases z)) (DfA.moreN e t)
  | _, _, .tup h t => .tup (h.exN e) (DfA.moreN e t)
  | _, _, .dct h t => .dct (e _ _ h (fun _ z => by cases z)) (DfK.moreN e t)
theorem DfA.moreN (e : ExtN H H') : ∀ {v : List V} {d : List PyData}, DfA H v d → DfA H' v d
  | _, _, .nil => .nil
  | _, _, .cons h t => .cons (Df.moreN e h) (DfA.moreN e t)
theorem DfK.moreN (e : ExtN H H') : ∀ {v : List (Key × V)} {d : List (PyData × PyData)}, DfK H v d → DfK H' v d
  | _, _, .nil => .nil
  | _, _, .cons h t => .cons (Df.moreN e h) (DfK.moreN e t)
end
theorem Df.more (e : Ex H H') {v : V} {d : PyData} (h : Df H v d) : Df H' v d := h.moreN (.of e)
theorem DfA.more (e : Ex H H') {v : List V} {d : List PyData} (h : DfA H v d) : DfA H' v d := h.moreN (.of e)
theorem DfA.ints : ∀ ns : List Int, DfA H (ns.map V.int) (ns.map PyData.int)
  | [] => .nil
  | n :: ns => .cons (.int n) (DfA.ints ns)
theorem DfA.len : ∀ {vs : List V} {ds : List PyData}, DfA H vs ds → vs.length = ds.length
  | _, _, .nil => rfl
  | _, _, .cons _ t => by rw [List.length_cons, List.length_cons, t.len]
mutual
theorem Df.of {H : Hp} : ∀ {v : V} {d : PyData}, Dx H v d → Df H v d
  | _, _, .non => .non
  | _, _, .bl b => .bl b
  | _, _, .int i => .int i
  | _, _, .str x => .str x
  | _, _, .lst h t => .lst h (DfA.of t)
  | _, _, .tup h t => .tup (.inl h) (DfA.of t)
  | _, _, .dct h t => .dct h (DfK.of t)
theorem DfA.of {H : Hp} : ∀ {v : List V} {d : List PyData}, DxA H v d → DfA H v d
  | _, _, .nil => .nil
  | _, _, .cons h t => .cons (Df.of h) (DfA.of t)
theorem DfK.of {H : Hp} : ∀ {v : List (Key × V)} {d : List (PyData × PyData)}, DxK H v d → DfK H v d
  | _, _, .nil => .nil
  | _, _, .cons h t => .cons (Df.of h) (DfK.of t)
end
end
section
variable {X : Cx} {pins : List (Addr × Obj)} {σ : L2.St} {H : Hp} {s : Shared}
/-- the keys of a dict are read -/
theorem keys_readF {P : Program} {w : World} {h : Heap} : ∀ {kvs : List (Key × V)} {vs : List (Key × Value)} {ents : List DictEntry} {es : List (PyData × PyData)}, DfK H kvs es → KV kvs vs → PySem.Pairs (mixKind P w) ents vs →
    ∃ as, ReadsAll h (ents.map (·.key)) (es.map (·.1)) as ∧ PyData.hasDictAll (es.map (·.1)) = false ∧ Vals (kvs.map (·.2)) (ents.map (·.val))
  | _, _, _, _, .nil, .nil, .nil => ⟨[], .nil, by simp [PyData.hasDictAll], .nil⟩
  | _, _, _, _, .cons (k := k) hd t, .cons r rs, .cons (e := ent) h1 h2 ps => by
    obtain ⟨as, q1, q2, q3⟩ := keys_readF (h := h) t rs ps
    obtain ⟨e1, e2⟩ := r
    have h1' : keyIs k ent.key = true := by
      rw [show k = _ from e1]
      exact h1
    have rk : ∃ as1, Reads h ent.key (kyD k) as1 ∧ (kyD k).hasDict = false := by
      rcases keyIs_shape h1' with ⟨i, tk, e3, e4⟩ | ⟨x, tk, e3, e4⟩
      · rw [e3, e4]
        exact ⟨_, .int i tk, by simp [kyD, PyData.hasDict]⟩
      · rw [e3, e4]
        exact ⟨_, .str x tk, by simp [kyD, PyData.hasDict]⟩
    obtain ⟨as1, k1, k2⟩ := rk
    refine ⟨as1 ++ as, .cons k1 q1, ?_, .cons ?_ q3⟩
    · simp only [List.map_cons, PyData.hasDictAll, k2, q2, Bool.or_self]
    · show L2.RelV _ ent.val
      rw [h2]
      exact e2
mutual
theorem Df.told (I : Inv X pins σ H s) : ∀ {v : V} {d : PyData} {u : Value}, Df H v d → RelV v u → d.showable = true → d.shown.length ≤ sizeLine → Told X.prog X.w s.heap u d
  | _, _, _, .non, r, hs, hz => by
    cases r
    exact told_flat .none hs rfl hz
  | _, _, _, .bl b, r, hs, hz => by
    cases r
    exact told_flat (.bool b) hs rfl hz
  | _, _, _, .int i, r, hs, hz => by
    obtain ⟨t, rfl⟩ := r
    exact told_flat (.int i t) hs rfl hz
  | _, _, _, .str x, r, hs, hz => by
    obtain ⟨t, rfl⟩ := r
    exact told_flat (.str x t) hs rfl hz
  | _, _, _, .lst (ds := ds) h t, r, hs, hz => by
    cases r
    obtain ⟨its, rv, ⟨o, n, ho, hc, hx, hd⟩, _⟩ := I.list (SqL.of h)
    have hz' : (listText (PyData.shownAll ds)).length ≤ sizeLine := by simpa only [PyData.shown] using hz
    obtain ⟨as, bs, q1, q2, q3⟩ := DfA.told I t rv (by simpa [PyData.showable] using hs) fun x hx => Nat.le_trans (listText_mem_le hx) hz'
    have rd := Reads.list ho hc hd (by simpa using q1)
    have na := not_mem_of_deeper rd (show PyData.depthAll ds < (PyData.list ds).depth by simp only [PyData.depth]; omega) q2
    refine ⟨_, _ :: bs, rd, ReadAtMost.cons rd (Nat.le_refl _) (fun b hb => let ⟨x, y, z, l⟩ := q2 b hb; ⟨x, y, z, by simp only [PyData.depth]; omega⟩), ?_⟩
    simp only [PyData.shown]
    cases its with
    | nil =>
      have e' : ds = [] := by
        have e0 := q3.length_eq
        cases ds with
        | nil => rfl
        | cons d ds => simp [PyData.shownAll] at e0
      subst e'
      simp only [PyData.shownAll, listText_nil, PyData.depth]
      exact ReprK.listEmpty ho hc hd
    | cons x l =>
      simp only [PyData.depth]
      exact ReprK.list ho hc hd na (by simpa using q3.length_eq) fun i y e => q3.item i y (by simpa using e)
  | _, _, _, .tup (ds := ds) h t, r, hs, hz => by
    cases r
    obtain ⟨its, rv, ⟨o, ho, hc, n, hd⟩, _⟩ := I.tuple (.inl h)
    have hz' : (tupleText (PyData.shownAll ds)).length ≤ sizeLine := by simpa only [PyData.shown] using hz
    obtain ⟨as, bs, q1, q2, q3⟩ := DfA.told I t rv (by simpa [PyData.showable] using hs) fun x hx => Nat.le_trans (tupleText_mem_le hx) hz'
    have rd := Reads.tuple ho hc hd (by simpa using q1)
    have na := not_mem_of_deeper rd (show PyData.depthAll ds < (PyData.tuple ds).depth by simp only [PyData.depth]; omega) q2
    refine ⟨_, _ :: bs, rd, ReadAtMost.cons rd (Nat.le_refl _) (fun b hb => let ⟨x, y, z, l⟩ := q2 b hb; ⟨x, y, z, by simp only [PyData.depth]; omega⟩), ?_⟩
    simp only [PyData.shown, PyData.depth]
    exact ReprK.tuple ho hc hd na (by simpa using q3)
  | _, _, _, .dct (es := kds) h t, r, hs, hz => by
    cases r
    obtain ⟨_, sm, vs, kv, o, es, ep, ho, hx, hd, _, ps, _⟩ := dk_of I.hok h
    have hz' : (dictText (PyData.shownKv kds)).length ≤ sizeLine := by simpa only [PyData.shown] using hz
    obtain ⟨s1, s2⟩ := PyData.showableKv_split kds (by simpa [PyData.showable] using hs)
    obtain ⟨a1, k1, k2, k3⟩ := keys_readF (h := s.heap) t kv ps
    obtain ⟨b1, m1, r1⟩ := ReprAllK.of_readsAll (prog := X.prog) (w := X.w) k1 s1 (fun z => by rw [k2] at z; cases z) fun x hx => by
      obtain ⟨p, hp, hl⟩ := PyData.shownKv_key_le kds x hx
      exact Nat.le_trans hl (Nat.le_trans (dictText_mem_le hp) hz')
    obtain ⟨a2, b2, q1, m2, r2⟩ := DfK.told I t k3 s2 fun x hx => by
      obtain ⟨p, hp, hl⟩ := PyData.shownKv_val_le kds x hx
      exact Nat.le_trans hl (Nat.le_trans (dictText_mem_le hp) hz')
    have rd := Reads.dict ho hx.1 hd k1 q1
    have mm : ReadAtMost s.heap (PyData.depthKv kds) (b1 ++ b2) := (m1.mono (PyData.depthAll_keys_le kds)).append (m2.mono (PyData.depthAll_vals_le kds))
    have na := not_mem_of_deeper rd (show PyData.depthKv kds < (PyData.dict kds).depth by simp only [PyData.depth]; omega) mm
    refine ⟨_, _ :: (b1 ++ b2), rd, ReadAtMost.cons rd (Nat.le_refl _) (fun b hb => let ⟨x, y, z, l⟩ := mm b hb; ⟨x, y, z, by simp only [PyData.depth]; omega⟩), ?_⟩
    simp only [PyData.shown, PyData.depth, PyData.shownKv_eq]
    refine ReprK.dict ho hx.1 hd sm na (ReprEntriesK.of_two es.toList _ _ (r1.more_le (fun b z => List.mem_append_left _ z) ?_) (r2.more_le (fun b z => List.mem_append_right _ z) ?_))
    · exact PyData.depthAll_keys_le kds
    · exact PyData.depthAll_vals_le kds
theorem DfA.told (I : Inv X pins σ H s) : ∀ {vs : List V} {ds : List PyData} {us : List Value}, DfA H vs ds → Vals vs us → PyData.showableAll ds = true → (∀ t ∈ PyData.shownAll ds, t.length ≤ sizeLine) → ToldA X.prog X.w s.heap us ds
  | _, _, _, .nil, r, _, _ => by
    cases r
    exact told_nil
  | _, _, _, .cons h t, r, hs, hz => by
    cases r with
    | cons r rs =>
      simp only [PyData.showableAll, Bool.and_eq_true] at hs
      simp only [PyData.shownAll] at hz
      exact told_cons (Df.told I h r hs.1 (hz _ List.mem_cons_self)) (DfA.told I t rs hs.2 fun x hx => hz x (List.mem_cons_of_mem _ hx))
theorem DfK.told (I : Inv X pins σ H s) : ∀ {kvs : List (Key × V)} {es : List (PyData × PyData)} {us : List Value}, DfK H kvs es → Vals (kvs.map (·.2)) us → PyData.showableAll (es.map (·.2)) = true → (∀ t ∈ PyData.shownAll (es.map (·.2)), t.length ≤ sizeLine) →
    ToldA X.prog X.w s.heap us (es.map (·.2))
  | _, _, _, .nil, r, _, _ => by
    cases r
    exact told_nil
  | _, _, _, .cons h t, r, hs, hz => by
    cases r with
    | cons r rs =>
      simp only [List.map_cons, PyData.showableAll, Bool.and_eq_true] at hs
      simp only [List.map_cons, PyData.shownAll] at hz
      exact told_cons (Df.told I h r hs.1 (hz _ List.mem_cons_self)) (DfK.told I t rs hs.2 fun x hx => hz x (List.mem_cons_of_mem _ hx))
end
def rReprF : List V → Hp → VK → Prop := fun vs H Q => ∃ (a : Addr) (xs : List V) (ds : List PyData), vs = [.ref a] ∧ Rd H a (.tup xs) ∧ DfA H xs ds ∧ PyData.showableAll ds = true ∧ (PyData.tuple ds).depth ≤ 40 ∧ (PyData.tuple ds).shown.length ≤ sizeLine ∧ Q (.str (PyData.tuple ds).shown) H
theorem cr_reprF (gg : X.A.guards = some []) (hu : X.A.units + 64 < cLine) : CallR X (.builtin "repr") rReprF := by
  intro pins s σ H vs us Q I r h
  obtain ⟨a, xs, ds, rfl, ha, hd, hs, hdep, hz, q⟩ := h
  obtain ⟨u, rfl, r1⟩ := vals1 r
  cases r1
  obtain ⟨its, rv, ⟨o, ho, hc, n, hdt⟩, _⟩ := I.tuple (.inl ha)
  have hz' : (tupleText (PyData.shownAll ds)).length ≤ sizeLine := by simpa only [PyData.shown] using hz
  obtain ⟨as, bs, q1, q2, q3⟩ := DfA.told I hd rv hs fun x hx => Nat.le_trans (tupleText_mem_le hx) hz'
  have rd := Reads.tuple ho hc hdt (by simpa using q1)
  have na := not_mem_of_deeper rd (show PyData.depthAll ds < (PyData.tuple ds).depth by simp only [PyData.depth]; omega) q2
  have hdep' : PyData.depthAll ds + 1 ≤ 40 := by simpa only [PyData.depth] using hdep
  have e : (PyData.tuple ds).shown = tupleText (PyData.shownAll ds) := by simp only [PyData.shown]
  rw [e] at q
  refine call_repr_slot (T := "tuple") (by omega) ⟨o, ho, hc⟩ F.slot_tuple_repr ?_
  exact call_tuple_reprK (h₀ := s.heap) ho hc hdt na (by simpa using q3) (A := X.A.in1) gg (fun b _ => Clear.nil b) (by show X.A.units + 1 + (PyData.depthAll ds + 1) < cLine; omega) (fun _ _ z => z)
    (fun h' t tk hk => ⟨_, _, rfl, .str _, H, I.kept (t' := tk) hk, ⟨t, rfl⟩, q⟩) hz'
end
end Hr

/-! repr of any value: None, bools, ints, texts, lists without dicts, tuples. -/
namespace Hr
open PySem PySem.Spec PyProof.Rows L2 Evl LamX
mutual
theorem dxDp {K : PySem.W.Frag} {H : Hp} : ∀ {v : V} {d : PyData}, Df H v d → d.hasDict = false → Dp K H v d
  | _, _, .non, _ => .non
  | _, _, .bl b, _ => .bl b
  | _, _, .int i, _ => .int i
  | _, _, .str x, _ => .str x
  | _, _, .lst h t, z => .lst (SqL.of h) (dxADp t (by simpa only [PyData.hasDict] using z))
  | _, _, .tup h t, z => .tup (.inl h) (dxADp t (by simpa only [PyData.hasDict] using z))
  | _, _, .dct h t, z => by simp [PyData.hasDict] at z
theorem dxADp {K : PySem.W.Frag} {H : Hp} : ∀ {v : List V} {d : List PyData}, DfA H v d → PyData.hasDictAll d = false → DpAll K H v d
  | _, _, .nil, _ => .nil
  | _, _, .cons h t, z => by
    simp only [PyData.hasDictAll, Bool.or_eq_false_iff] at z
    exact .cons (dxDp h z.1) (dxADp t z.2)
end
/-- no dict, or a tuple -/
def TopD (d : PyData) : Prop := d.hasDict = false ∨ ∃ ds, d = .tuple ds
def rReprY : List V → Hp → VK → Prop := fun vs H Q => ∃ (v : V) (d : PyData), vs = [v] ∧ Df H v d ∧ TopD d ∧ d.showable = true ∧ d.depth ≤ 40 ∧ d.shown.length ≤ sizeLine ∧ Q (.str d.shown) H
section
variable {X : Cx}
theorem cr_reprY (gg : X.A.guards = some []) (hu : X.A.units + 64 < cLine) : CallR X (.builtin "repr") rReprY := by
  intro pins s σ H vs us Q I r h
  obtain ⟨v, d, rfl, hd, ht, hs, hdep, hz, q⟩ := h
  have tupC : ∀ ds, d = .tuple ds → wpAny (model X.prog X.w) X.A (call (.builtin "repr") us) _ _ s := fun ds e => by
    subst e
    cases hd with
    | tup ha hA => exact cr_reprF gg hu pins s σ H _ us Q I r ⟨_, _, ds, rfl, ha, hA, by simpa [PyData.showable] using hs, hdep, hz, q⟩
  rcases ht with ht | ⟨ds, e⟩
  · cases hd with
    | non =>
      obtain ⟨u, rfl, r1⟩ := vals1 r
      cases r1
      exact PySem.P.repr_of_none ⟨.str _, H, I.tok _, ⟨_, rfl⟩, q⟩
    | bl b =>
      obtain ⟨u, rfl, r1⟩ := vals1 r
      cases r1
      refine PySem.P.repr_of_bool ⟨.str _, H, I.tok _, ⟨_, rfl⟩, ?_⟩
      cases b <;> exact q
    | int i =>
      obtain ⟨u, rfl, t, rfl⟩ := vals1 r
      exact PySem.P.repr_of_int (by simpa [PyData.showable] using hs) ⟨.str _, H, I.tok _, ⟨_, rfl⟩, q⟩
    | str x =>
      obtain ⟨u, rfl, t, rfl⟩ := vals1 r
      exact PySem.P.repr_of_str (hsz := by simpa only [PyData.shown] using hz) ⟨.str _, H, I.tok _, ⟨_, rfl⟩, by simpa only [PyData.shown] using q⟩
    | lst ha hA => exact cr_repr gg hu pins s σ H _ us Q I r ⟨_, _, rfl, dxDp (.lst ha hA) ht, hs, ht, hdep, hz, q⟩
    | tup ha hA => exact tupC _ rfl
    | dct ha hA => simp [PyData.hasDict] at ht
  · exact tupC ds e
end
section
variable {H : Hp} {v : V} {d : PyData} {p n : Nat} {Q : VK}
theorem r_reprYF (hd : Df H v d) (ht : TopD d) (f : Fine d 8000) (q : Q (.str d.shown) H) : rReprY [v] H Q := ⟨v, d, rfl, hd, ht, f.show1, Nat.le_trans f.dep (by decide), f.len (Nat.le_refl _), q⟩
theorem r_reprY (hd : Df H v d) (ht : TopD d) (h : Val d p n) (hp : p ≤ 30) (hn : n ≤ 8000) (q : Q (.str d.shown) H) : rReprY [v] H Q := by
  refine ⟨v, d, rfl, hd, ht, h.sh, Nat.le_trans h.dep (by omega), ?_, q⟩
  have h1 := PyData.shown_le_bulk 1921 (by decide) d h.leaf
  have h2 := h.bulk
  have h3 : sizeLine = 16777216 := by decide
  have h4 : (1921 + 2) * d.bulk ≤ 1923 * 8000 := Nat.mul_le_mul (Nat.le_refl _) (by omega)
  omega
end
section
variable {X : Cx}
/-- t.index(k), t of ints -/
def rIdxT : V → List V → Hp → VK → Prop := fun x vs H Q => ∃ (a : Addr) (ns : List Int) (k : Int), x = .ref a ∧ vs = [.int k] ∧ Rd H a (.tup (ns.map V.int)) ∧ k ∈ ns ∧ Q (.int (ns.idxOf k : Nat)) H
theorem mt_tupIdx : MtR X "tuple.index" rIdxT := by
  intro pins s σ H x xs v us Q I rx rs h
  obtain ⟨p, ns, k, rfl, rfl, hq, hk, q⟩ := h
  cases rx
  obtain ⟨u, rfl, t, rfl⟩ := vals1 rs
  obtain ⟨its, r, pl, hz⟩ := I.tuple (.inl hq)
  obtain ⟨o, ho, hc, n, hd⟩ := pl
  exact PySem.SeqAt.tuple_index_ints ⟨o, ho, hc, n, hd⟩ (intsAre_of r) hk ⟨.int _, H, I.tok _, ⟨_, rfl⟩, q⟩
end
end Hr

/-! t + u of tuples, either of them may be empty. -/
namespace Hr
open PySem PySem.Spec PyProof.Rows L2 Evl PySem.SeqAt PySem.MeetsSeq PySem.MeetsSeq2 PySem.MeetsSeq3
def rCatA (K : PySem.W.Frag) : R2 := fun x y H Q => ∃ a b xs ys, x = .ref a ∧ y = .ref b ∧ SqT K H a xs ∧ SqT K H b ys ∧ xs.length + ys.length ≤ sizeLine ∧
  (xs = [] → Q (.ref b) H) ∧ (xs ≠ [] → ys = [] → Q (.ref a) H) ∧ (xs ≠ [] → ys ≠ [] → ∀ p, H p = none → Q (.ref p) (upd H p (.tup (xs ++ ys))))
theorem op_catA {X : Cx} {K : PySem.W.Frag} (hK : X.K = K := by rfl) : OpR X (binaryOp .Add) (rCatA K) := by
  subst hK
  intro pins s σ H x y v u Q I rx ry h
  obtain ⟨a, b, xs, ys, rfl, rfl, ha, hb, hz, q0, q1, q2⟩ := h
  by_cases hx : xs = []
  · cases rx
    cases ry
    obtain ⟨its, r1, p1, _⟩ := I.tuple ha
    obtain ⟨its2, r2, p2, _⟩ := I.tuple hb
    obtain ⟨⟨cls, dd, data, sl⟩, ho, hc, n, hd⟩ := id p1
    obtain ⟨⟨cls2, dd2, data2, sl2⟩, ho2, hc2, n2, hd2⟩ := id p2
    simp only at hc hd hc2 hd2
    subst hc hd hc2 hd2
    have he : its = [] := r1.nil_iff.mpr hx
    exact concat_meets ⟨_, ho, rfl⟩ ⟨_, ho2, rfl⟩ noFill_tuple_add seq_tuple_add PySem.F.slot_tuple_add PySem.F.entry_tuple_add (PySem.F.args_tuple_add_2 _ _)
      (tuple_addW0 a b its.toArray its2.toArray n n2 dd dd2 sl sl2 (by simp [he])) ⟨ho, ho2, ⟨.ref b, H, I, rfl, q0 hx⟩⟩
  · exact op_catT pins s σ H _ _ v u Q I rx ry ⟨a, b, xs, ys, rfl, rfl, ha, hb, hx, hz, q1 hx, q2 hx⟩
/-- what comes of it, by a tuple at p -/
theorem catA_tup {K : PySem.W.Frag} {H : Hp} {a b : Addr} {xs ys : List V} {Q : VK} (ha : H a = some (.tup xs)) (hb : H b = some (.tup ys)) (hz : xs.length + ys.length ≤ sizeLine)
    (q : ∀ p H2, Ex H H2 → H2 p = some (.tup (xs ++ ys)) → Q (.ref p) H2) : rCatA K (.ref a) (.ref b) H Q := by
  refine ⟨a, b, xs, ys, rfl, rfl, SqT.of ha, SqT.of hb, hz, fun h => q b H (Ex.refl H) (by rw [h]; exact hb), fun _ h => q a H (Ex.refl H) (by rw [h, List.append_nil]; exact ha), fun _ _ p np => q p _ (Ex.new np) upd_same⟩
end Hr

/-! What is evaluated beside a deck and tables; small values. -/
namespace Hr
open PySem PySem.Spec PyProof.Rows L2 Evl LamX
section
variable {T : List (Addr × Str)} {d : Addr} {G G' H H' : Hp} {σ : L2.St} {K : PySem.W.Frag}
/-- p holds the tuple zs at H', that is H, or H with p new -/
def CameR (H : Hp) (p : Addr) (zs : List V) (H' : Hp) (old : List Addr) : Prop := (H' = H ∧ p ∈ old ∧ Rd H p (.tup zs)) ∨ (H p = none ∧ H' = upd H p (.tup zs))
def rCatR : R2 := fun x y H Q => ∃ a b xs ys, x = .ref a ∧ y = .ref b ∧ Rd H a (.tup xs) ∧ Rd H b (.tup ys) ∧ xs.length + ys.length ≤ sizeLine ∧ ∀ p H', CameR H p (xs ++ ys) H' [a, b] → Q (.ref p) H'
theorem op_catR {X : Cx} : OpR X (binaryOp .Add) rCatR := by
  intro pins s σ H x y v u Q I rx ry h
  obtain ⟨a, b, xs, ys, ex, ey, ha, hb, hz, q⟩ := h
  refine L2.op_catA pins s σ H x y v u Q I rx ry ⟨a, b, xs, ys, ex, ey, .inl ha, .inl hb, hz, fun e => ?_, fun _ e => ?_, fun _ _ p np => ?_⟩
  · refine q b H (.inl ⟨rfl, by simp, ?_⟩)
    rw [e]
    exact hb
  · refine q a H (.inl ⟨rfl, by simp, ?_⟩)
    rw [e, List.append_nil]
    exact ha
  · exact q p _ (.inr ⟨np, rfl⟩)
def rSlR : V → Option Int → Option Int → Hp → VK → Prop := fun x lo hi H Q => ∃ a xs, x = .ref a ∧ Rd H a (.tup xs) ∧ ∀ p H', CameR H p (cutV xs lo hi) H' [a] → Q (.ref p) H'
theorem sl_tupR {X : Cx} : SlR X rSlR := by
  intro pins s σ H x v vl vu lo hi sl Q I rx hs pl pu h
  obtain ⟨a, xs, ex, ha, q⟩ := h
  refine sl_tupA pins s σ H x v vl vu lo hi sl Q I rx hs pl pu ⟨a, xs, ex, .inl ha, fun w => ?_, fun _ p np => q p _ (.inr ⟨np, rfl⟩)⟩
  refine q a H (.inl ⟨rfl, by simp, ?_⟩)
  have e : cutV xs lo hi = xs := by
    unfold cutV
    rw [w.1, w.2, List.drop_zero, Nat.sub_zero, List.take_length]
  rw [e]
  exact ha
theorem DkT.getR (k : DkT T G d H) {b : Addr} {xs : List V} (h : Rd G b (.tup xs)) : Rd H b (.tup xs) := h.ex k.k.ex
theorem DkT.cameR {p : Addr} {zs : List V} {old : List Addr} (k : DkT T G d H) (c : CameR H p zs H' old) (ho : ∀ a ∈ old, G a ≠ none) : ∃ G', Ex G G' ∧ Rd G' p (.tup zs) ∧ DkT T G' d H' := by
  rcases c with ⟨rfl, m, h⟩ | ⟨h, rfl⟩
  · refine ⟨G, Ex.refl G, ?_, k⟩
    cases e : G p with
    | none => exact absurd e (ho p m)
    | some o =>
      have z := k.get e
      rcases h with h | ⟨o2, h⟩
      · rw [h] at z
        exact .inl (by rw [e, z])
      · rw [h] at z
        exact .inr ⟨o2, by rw [e, z]⟩
  · exact ⟨_, k.gex h, .inl upd_same, k.made h⟩
theorem Rd.some {G : Hp} {a : Addr} {xs : List V} (h : Rd G a (.tup xs)) : G a ≠ none := by
  rcases h with h | ⟨o, h⟩ <;> rw [h] <;> exact Option.some_ne_none _
theorem DkT.came {p : Addr} {zs : List V} {old : List Addr} (k : DkT T G d H) (c : Came H p zs H' old) (ho : ∀ a ∈ old, G a ≠ none) : ∃ G', Ex G G' ∧ G' p = some (.tup zs) ∧ DkT T G' d H' := by
  rcases c with ⟨rfl, m, h⟩ | ⟨h, rfl⟩
  · refine ⟨G, Ex.refl G, ?_, k⟩
    cases e : G p with
    | none => exact absurd e (ho p m)
    | some o =>
      have := k.get e
      rw [h] at this
      exact this.symm
  · exact ⟨_, k.gex h, upd_same, k.made h⟩
/-- small values -/
def OKI (G : Hp) (x : V) : Prop := ∃ pd, Df G x pd ∧ Val pd 2 12
def TupV (k : Nat) (G : Hp) (v : V) : Prop := ∃ p xs, v = .ref p ∧ Rd G p (.tup xs) ∧ xs.length ≤ k ∧ ∀ x ∈ xs, OKI G x
def OKV (G : Hp) (v : V) : Prop := ∃ pd, Df G v pd ∧ Val pd 3 400 ∧ (itemsD pd).length ≤ 40 ∧ TopD pd
theorem OKI.more {x : V} (h : OKI G x) (e : Ex G G') : OKI G' x := let ⟨pd, a, b⟩ := h; ⟨pd, a.more e, b⟩
theorem TupV.more {k : Nat} {v : V} (h : TupV k G v) (e : Ex G G') : TupV k G' v := let ⟨p, xs, a, b, c, f⟩ := h; ⟨p, xs, a, b.ex e, c, fun x hx => (f x hx).more e⟩
theorem OKV.more {v : V} (h : OKV G v) (e : Ex G G') : OKV G' v := let ⟨pd, a, b⟩ := h; ⟨pd, a.more e, b⟩
theorem OKI.int {i : Int} (h : i.natAbs < 2 ^ 300) : OKI G (.int i) := ⟨.int i, .int i, (Val.int h).up (by decide) (by decide)⟩
theorem OKI.bl (b : Bool) : OKI G (.bl b) := ⟨.bool b, .bl b, (Val.bool b).up (by decide) (by decide)⟩
theorem OKI.non : OKI G .non := ⟨.none, .non, Val.none.up (by decide) (by decide)⟩
theorem items_ok : ∀ {xs : List V}, (∀ x ∈ xs, OKI G x) → ∃ ds, DfA G xs ds ∧ ValL ds 2 (13 * xs.length) ∧ ds.length = xs.length
  | [], _ => ⟨[], .nil, ValL.nil.up (by decide) (by decide), rfl⟩
  | x :: xs, h => by
    obtain ⟨ds, h1, h2, h3⟩ := items_ok fun y hy => h y (List.mem_cons_of_mem _ hy)
    obtain ⟨pd, p1, p2⟩ := h x List.mem_cons_self
    exact ⟨pd :: ds, .cons p1 h1, (ValL.cons p2 h2).up (Nat.le_refl _) (by rw [List.length_cons]; omega), by rw [List.length_cons, List.length_cons, h3]⟩
theorem TupV.ok {k : Nat} {v : V} (h : TupV k G v) (hk : k ≤ 30) : OKV G v := by
  obtain ⟨p, xs, rfl, a, b, c⟩ := h
  obtain ⟨ds, h1, h2, h3⟩ := items_ok c
  exact ⟨.tuple ds, .tup a h1, h2.tup.up (by decide) (by omega), by show ds.length ≤ 40; omega, .inr ⟨ds, rfl⟩⟩
theorem OKI.ok {x : V} (h : OKI G x) (hi : ∀ pd, Df G x pd → (itemsD pd).length ≤ 40 ∧ TopD pd) : OKV G x := by
  obtain ⟨pd, a, b⟩ := h
  exact ⟨pd, a, b.up (by decide) (by decide), hi pd a⟩
/-- evaluated beside a deck, something with R comes -/
def EvD (T : List (Addr × Str)) (d : Addr) (t : TE) (σ : L2.St) (G H : Hp) (R : Hp → V → Prop) : Prop := ∀ Q : VK, (∀ v G' H', Ex G G' → DkT T G' d H' → R G' v → Q v H') → t σ H Q
def EvDs (T : List (Addr × Str)) (d : Addr) (t : TA) (σ : L2.St) (G H : Hp) (R : Hp → V → Prop) (k : Nat) : Prop := ∀ Q : List V → Hp → Prop, (∀ vs G' H', Ex G G' → DkT T G' d H' → (∀ v ∈ vs, R G' v) → vs.length = k → Q vs H') → t σ H Q
/-- a part of a slice: an int, the heap as before -/
def EvO (t : TO) (σ : L2.St) (H : Hp) : Prop := ∀ Q : Option Int → Hp → Prop, (∀ o, Q o H) → t σ H Q
variable {R R2 : Hp → V → Prop} {t t1 t2 : TE} {ts : TA} {k m : Nat}
theorem EvD.mono (h : EvD T d t σ G H R) (f : ∀ G' v, Ex G G' → R G' v → R2 G' v) : EvD T d t σ G H R2 := fun Q q => h Q fun v G' H' e D r => q v G' H' e D (f G' v e r)
theorem evd_c {v : V} (D : DkT T G d H) (h : R G v) : EvD T d (tC v) σ G H R := fun Q q => q v G H (Ex.refl _) D h
theorem evd_var {i : Nat} {v : V} (D : DkT T G d H) (hi : σ[i]? = some (some v)) (h : R G v) : EvD T d (tVar i) σ G H R := fun Q q => ⟨v, hi, q v G H (Ex.refl _) D h⟩
theorem cut_mem {xs : List V} {lo hi : Option Int} : (cutV xs lo hi).length ≤ xs.length ∧ ∀ x ∈ cutV xs lo hi, x ∈ xs := by
  unfold cutV
  refine ⟨?_, fun x hx => List.mem_of_mem_drop (List.mem_of_mem_take hx)⟩
  rw [List.length_take, List.length_drop]
  omega
theorem evd_slice {tl th : TO} (h : EvD T d t σ G H (TupV k)) (hl : ∀ H', EvO tl σ H') (hh : ∀ H', EvO th σ H') : EvD T d (tSl rSlR t tl th) σ G H (TupV k) := fun Q q =>
  h _ fun v G1 H1 e1 D1 ⟨p, xs, ev, hp, hx, ho⟩ => hl H1 _ fun o => hh H1 _ fun u => ⟨p, xs, ev, D1.getR hp, fun r H2 c => by
    obtain ⟨G2, e2, h2, D2⟩ := D1.cameR c fun a ha => by rw [List.mem_singleton.mp ha]; exact Rd.some hp
    exact q _ G2 H2 (e1.trans e2) D2 ⟨r, _, rfl, h2, Nat.le_trans cut_mem.1 hx, fun x hx => (ho x (cut_mem.2 x hx)).more e2⟩⟩
theorem evd_cat (h1 : EvD T d t1 σ G H (TupV k)) (h2 : ∀ G1 H1, Ex G G1 → DkT T G1 d H1 → EvD T d t2 σ G1 H1 (TupV m)) (hk : k + m ≤ 1000) : EvD T d (tOp rCatR t1 t2) σ G H (TupV (k + m)) := fun Q q =>
  h1 _ fun v G1 H1 e1 D1 tv => h2 G1 H1 e1 D1 _ fun v2 G2 H2 e2 D2 ⟨b, ys, ev2, hb, hy, oy⟩ => by
    obtain ⟨a, xs, rfl, ha, hx, ox⟩ := tv.more e2
    subst ev2
    refine ⟨a, b, xs, ys, rfl, rfl, D2.getR ha, D2.getR hb, Nat.le_trans (show xs.length + ys.length ≤ 1000 by omega) (by decide), fun r H3 c => ?_⟩
    obtain ⟨G3, e3, h3, D3⟩ := D2.cameR c fun z hz => by
      simp only [List.mem_cons, List.not_mem_nil, or_false] at hz
      rcases hz with rfl | rfl
      · exact Rd.some ha
      · exact Rd.some hb
    refine q _ G3 H3 ((e1.trans e2).trans e3) D3 ⟨r, _, rfl, h3, by rw [List.length_append]; omega, fun x hx => ?_⟩
    rcases List.mem_append.mp hx with z | z
    · exact (ox x z).more e3
    · exact (oy x z).more e3
theorem evd_tup1 (h : EvD T d t σ G H OKI) : EvD T d (tTup (tCons t tNil)) σ G H (TupV 1) := fun Q q =>
  h _ fun v G1 H1 e1 D1 o => ⟨by show 1 ≤ sizeLine; decide, fun p np => q _ _ _ (e1.trans (D1.gex np)) (D1.made np) ⟨p, [v], rfl, .inl upd_same, Nat.le_refl 1, fun x hx => by
    rw [List.mem_singleton.mp hx]
    exact o.more (D1.gex np)⟩⟩
theorem evd_rev (hK : K = K) (h : EvD T d t σ G H (TupV k)) : EvD T d (tRevT K t) σ G H (TupV k) := fun Q q =>
  h _ fun v G1 H1 e1 D1 ⟨p, xs, ev, hp, hx, ho⟩ => ⟨p, xs, ev, .inl (D1.getR hp), fun r nr => q _ _ _ (e1.trans (D1.gex nr)) (D1.made nr) ⟨r, _, rfl, .inl upd_same, by rw [List.length_reverse]; exact hx, fun x hx => (ho x (List.mem_reverse.mp hx)).more (D1.gex nr)⟩⟩
theorem evds_nil (D : DkT T G d H) : EvDs T d tNil σ G H R 0 := fun Q q => q [] G H (Ex.refl _) D (fun v hv => by simp at hv) rfl
theorem evds_cons (mono : ∀ (G G' : Hp) (v : V), R G v → Ex G G' → R G' v) (h : EvD T d t σ G H R) (hs : ∀ G1 H1, Ex G G1 → DkT T G1 d H1 → EvDs T d ts σ G1 H1 R k) : EvDs T d (tCons t ts) σ G H R (k + 1) := fun Q q =>
  h _ fun v G1 H1 e1 D1 r => hs G1 H1 e1 D1 _ fun vs G2 H2 e2 D2 rs hl => q _ G2 H2 (e1.trans e2) D2 (fun x hx => by
    rcases List.mem_cons.mp hx with rfl | hx
    · exact mono _ _ _ r e2
    · exact rs x hx) (by rw [List.length_cons, hl])
/-- a list of such values -/
def LstV (R : Hp → V → Prop) (k : Nat) (G : Hp) (v : V) : Prop := ∃ p vs, v = .ref p ∧ G p = some (.lst vs) ∧ vs.length = k ∧ ∀ x ∈ vs, R G x
theorem LstV.more (mono : ∀ (G G' : Hp) (v : V), R G v → Ex G G' → R G' v) {v : V} (h : LstV R k G v) (e : Ex G G') : LstV R k G' v := let ⟨p, xs, a, b, c, f⟩ := h; ⟨p, xs, a, e _ _ b, c, fun x hx => mono _ _ _ (f x hx) e⟩
theorem evd_lst (mono : ∀ (G G' : Hp) (v : V), R G v → Ex G G' → R G' v) (h : EvDs T d ts σ G H R k) (hk : k ≤ 1000) : EvD T d (tLst ts) σ G H (LstV R k) := fun Q q =>
  h _ fun vs G1 H1 e1 D1 rs hl => ⟨Nat.le_trans (show vs.length ≤ 1000 by omega) (by decide), fun p np => q _ _ _ (e1.trans (D1.gex np)) (D1.made np) ⟨p, vs, rfl, upd_same, hl, fun x hx => mono _ _ _ (rs x hx) (D1.gex np)⟩⟩
theorem evd_catL (mono : ∀ (G G' : Hp) (v : V), R G v → Ex G G' → R G' v) (h1 : EvD T d t1 σ G H (LstV R k)) (h2 : ∀ G1 H1, Ex G G1 → DkT T G1 d H1 → EvD T d t2 σ G1 H1 (LstV R m)) (hk : k + m ≤ 1000) : EvD T d (tOp rCat t1 t2) σ G H (LstV R (k + m)) := fun Q q =>
  h1 _ fun v G1 H1 e1 D1 tv => h2 G1 H1 e1 D1 _ fun v2 G2 H2 e2 D2 ⟨b, ys, ev2, hb, hy, oy⟩ => by
    obtain ⟨a, xs, rfl, ha, hx, ox⟩ := tv.more mono e2
    subst ev2
    exact ⟨a, b, xs, ys, rfl, rfl, D2.get ha, D2.get hb, Nat.le_trans (show xs.length + ys.length ≤ 1000 by omega) (by decide), fun p np => q _ _ _ ((e1.trans e2).trans (D2.gex np)) (D2.made np) ⟨p, _, rfl, upd_same, by rw [List.length_append]; omega, fun x hx => by
      rcases List.mem_append.mp hx with z | z
      · exact mono _ _ _ (ox x z) (D2.gex np)
      · exact mono _ _ _ (oy x z) (D2.gex np)⟩⟩
end
/-- o.m(..), o a tuple or a list, the fragment named -/
theorem pe_bmK {X : Cx} {K : PySem.W.Frag} {Ty name id : String} {r : V → List V → Hp → VK → Prop} {o : Expr} {to : TE} {e : Expr} {es : List Expr} {t : TA} {apos cpos : Pos} (pa : PlainAttrs Ty) (slot : Slot Ty name id) (hty : typeOf (.builtin id) = pure (.type "method_descriptor")) (hm : MtR X id r) (ho : PE X o to) (ha : PA X (e :: es) t)
    (hK : X.K = K := by rfl)
    (hbase : attributeBase o name X.env (eval o X.env) = eval o X.env := by rfl)
    (hfew : ((backTo cpos (starEach (e :: es) X.env)).all (fun x => !x.1) && (backToKw cpos (keywordEach [] X.env)).all (fun x => x.1.isSome)
      && decide ((e :: es).length + ([] : List Keyword).length + (if ([] : List Keyword).isEmpty then 0 else 1) < 30)) = true := by rfl)
    (hline : (apos.endLine == cpos.line) = true := by rfl) (hs : starEach (e :: es) X.env = (false, eval e X.env) :: starEach es X.env := by rfl) (hplain : (backTo cpos (starEach es X.env)).any (·.1) = false := by rfl) :
    PE X (.Call (.Attribute o name apos) (e :: es) [] cpos) (tBM K Ty r to t) := by
  subst hK
  exact pe_bm pa slot hty hm ho ha hbase hfew hline hs hplain
/-- for x in (..): the tuple is made first -/
theorem r_forT {K : PySem.W.Frag} {ts : TA} {g : TG} {tb : TS} {D : Ends} {σ : L2.St} {H : Hp}
    (h : ts σ H fun xs H1 => xs.length ≤ sizeLine ∧ ∀ p, H1 p = none → (∃ a, V.ref p = .ref a ∧ (∃ ys, SqT K (upd H1 p (.tup xs)) a ys) ∧ ∃ W : Nat → Nat → L2.St → Hp → Prop, (∃ m, W 0 m σ (upd H1 p (.tup xs))) ∧ ∀ i m σ H, W i m σ H →
      ((Itt K a).stop i H ∧ D.nx σ H) ∨ ((Itt K a).go i H ∧ ∃ N : L2.St → Hp → Prop, (∀ σ' H', N σ' H' → ∃ m', m' < m ∧ W (i + 1) m' σ' H') ∧ ∀ x H', (Itt K a).yld i H x H' → g x σ H' fun σ2 H2 => tb { D with nx := N, ct := N, bk := D.nx } σ2 H2))) :
    tFor (iTup K (tTup ts)) g tb D σ H := h
/-- tuple(a list): the new tuple is told as it stands -/
def rTupF (K : PySem.W.Frag) : List V → Hp → VK → Prop := fun xs H Q => ∃ p ys, xs = [.ref p] ∧ SqL K H p ys ∧ ∀ l o, H l = none → o.dict = none → Q (.ref l) (upd H l (.frz o (.tup ys)))
theorem cr_tupF {X : Cx} : CallR X (.type "tuple") (rTupF X.K) := by
  intro pins s σ H xs us Q I r h
  obtain ⟨p, ys, rfl, hq, q⟩ := h
  obtain ⟨u, rfl, rx⟩ := vals1 r
  cases rx
  obtain ⟨its, r', pl, hz⟩ := I.list hq
  have hlen := r'.length
  refine call_tuple_list pl.isList (fun h' kp => ?_) (by simp only [List.size_toArray] <;> omega)
  have I1 : Inv X pins σ H { s with heap := h' } := I.kept (t' := s.toks) kp
  have I2 : Inv X pins σ (upd H h'.objs.size (.frz { cls := .type "tuple", data := .seq its.toArray } (.tup ys))) { s with heap := h'.push { cls := .type "tuple", data := .seq its.toArray } } :=
    I1.laid (t' := s.toks) (fun b o e => Heap.get?_push_of_some _ e) (Nat.le_refl _) (show ObjOk X.prog X.w _ _ _ (.frz _ (.tup ys)) from ⟨Heap.get?_push_size _ rfl, hz, its, r', IsTup.new _ _⟩)
  exact ⟨.ref h'.objs.size, _, I2, rfl, q _ _ (I1.hok.fresh (Nat.le_refl _)) rfl⟩
/-- o.m(..), o a frozen tuple -/
def tBMF (r : V → List V → Hp → VK → Prop) (to : TE) (t : TA) : TE := fun σ H Q => to σ H fun x H1 => (∃ a o xs, x = .ref a ∧ H1 a = some (.frz o (.tup xs)) ∧ o.dict = none) ∧ t σ H1 fun xs H2 => r x xs H2 Q
theorem pe_bmF {X : Cx} {name id : String} {r : V → List V → Hp → VK → Prop} {o : Expr} {to : TE} {e : Expr} {es : List Expr} {t : TA} {apos cpos : Pos} (slot : Slot "tuple" name id) (hty : typeOf (.builtin id) = pure (.type "method_descriptor")) (hm : MtR X id r) (ho : PE X o to) (ha : PA X (e :: es) t)
    (hbase : attributeBase o name X.env (eval o X.env) = eval o X.env := by rfl)
    (hfew : ((backTo cpos (starEach (e :: es) X.env)).all (fun x => !x.1) && (backToKw cpos (keywordEach [] X.env)).all (fun x => x.1.isSome)
      && decide ((e :: es).length + ([] : List Keyword).length + (if ([] : List Keyword).isEmpty then 0 else 1) < 30)) = true := by rfl)
    (hline : (apos.endLine == cpos.line) = true := by rfl) (hs : starEach (e :: es) X.env = (false, eval e X.env) :: starEach es X.env := by rfl) (hplain : (backTo cpos (starEach es X.env)).any (·.1) = false := by rfl) :
    PE X (.Call (.Attribute o name apos) (e :: es) [] cpos) (tBMF r to t) := by
  refine ⟨fun pins s σ H Q I h => ?_⟩
  refine wpAny_Call_method_late hbase hfew hline rfl (thn (ho.run pins s σ H _ I h) fun v s1 ⟨x, H1, I1, r1, ty, q1⟩ => ?_)
  obtain ⟨a, ob, ys, rfl, hf, hd⟩ := ty
  cases r1
  obtain ⟨hob, hz, its, rv, tp⟩ : ObjOk X.prog X.w H1 s1.heap a (.frz ob (.tup ys)) := I1.hok a _ hf
  obtain ⟨o2, ho2, hc2, rest⟩ := tp
  refine ⟨"tuple", id, PySem.F.plainAttrs_tuple, slot, hty, ⟨o2, ho2, hc2⟩, fun b e => by cases e; exact ⟨ob, hob, hd⟩, ?_⟩
  have hA := ha.run cpos pins s1 σ H1 _ I1 q1
  rw [hs] at hA ⊢
  refine Calls.callWith_builtin (by show (false || (backTo cpos (starEach es X.env)).any (·.1)) = false; rw [hplain] <;> rfl) (Calls.evalArgs_plain ?_)
  exact thn hA fun us s2 ⟨vs, H2, I2, r2, q2⟩ => hm pins s2 σ H2 (.ref a) vs _ us Q I2 rfl r2 q2
end Hr

/-! two arguments by name, in their order. -/
namespace Hr
open PySem PySem.Spec PyProof.Rows L2
def sw0 {α : Type} (us ws : List α) : List α := match us, ws with
  | [], [a, b] => [a, b]
  | _, _ => []
theorem sw0_rel {vs : List V} {us : List Value} {zs : List V} {ws : List Value} (r : Vals vs us) (q : Vals zs ws) : Vals (sw0 vs zs) (sw0 us ws) := by
  cases r with
  | cons _ _ => exact .nil
  | nil =>
    cases q with
    | nil => exact .nil
    | cons q1 q =>
      cases q with
      | nil => exact .nil
      | cons q2 q =>
        cases q with
        | nil => exact .cons q1 (.cons q2 .nil)
        | cons _ _ => exact .nil
theorem sw0_binds {K : PySem.W.Frag} {x qual : Str} {st : Stmt} {f : Addr} {fd : FuncData} {p1 p2 : Str} (F : Fun K x qual st f fd)
    (h : ∀ (kV doc pm : Value) (an : Option Addr) (cdv ct a b : Value), bindArgs (PySem.W.fnOf x qual (defArgs st) (defBody st) (defScope st) .none kV doc pm an cdv ct) ⟨[], [(p1, a), (p2, b)]⟩ = pure [(p1, a), (p2, b)]) :
    KBinds K fd [p1, p2] [p1, p2] sw0 sw0 := by
  obtain ⟨oc, od, kV, doc, pm, an, cdv, ct, osl, rfl, lk, hcd⟩ := F.ex
  refine ⟨fun s us ws _ hl => ?_, sw0_rel⟩
  match us, ws, hl with
  | [], [a, b], _ => exact .of_eq (h kV doc pm an cdv ct a b)
  | _ :: _, _, hl => exact absurd hl (by intro z; cases z)
  | [], [], hl => exact absurd hl (by intro z; cases z)
  | [], [_], hl => exact absurd hl (by intro z; cases z)
  | [], _ :: _ :: _ :: _, hl => exact absurd hl (by intro z; cases z)
end Hr

set_option exponentiation.threshold 3000
namespace K81
open PySem PySem.Spec PyProof.Rows L2 Hr HrM Evl HrE_thing LamX RZ
theorem r_forT2 {K : PySem.W.Frag} {ts : TA} {g : TG} {tb : TS} {D : Ends} {σ : L2.St} {H : Hp} (h : ts σ H fun xs H1 => xs.length ≤ sizeLine ∧ ∀ p, H1 p = none → tFor (fun _ H R => R (Itt K p) H) g tb D σ (upd H1 p (.tup xs))) : True := trivial
theorem fit_lo {r k : Nat} (hk : k ≤ 16) (hr : r < 2 ^ 110) : FitG (k / 2) (gLo r) := by
  refine ⟨by omega, rfl, gLo_nn r, fun i _ => ?_, fun i h1 h2 => ?_⟩
  · have : (2 : Nat) ^ 110 < 2 ^ 1800 := Nat.pow_lt_pow_right (by decide) (by decide)
    match i with
    | 0 => show (1 : Int).natAbs < _; omega
    | 1 => show ((r : Int)).natAbs < _; omega
    | i + 2 => show (0 : Int).natAbs < _; omega
  · obtain ⟨j, rfl⟩ : ∃ j, i = j + 1 := ⟨i - 1, by omega⟩
    show (0 : Int) ≤ _
    exact Int.natCast_nonneg _
theorem Uf_one {a k : Nat} (h1 : 1 ≤ k) (h : k ≤ a) : Uf 1 k (ch a k) = ch (a + 1) (k + 1) := by
  have c : Cas k [a] := (Cas.nil k).snoc (by simpa using h1) (by simpa using h) fun a h => nomatch h
  have v : val k [a] = ch a k := by
    show ch a k + 0 = _
    omega
  unfold Uf
  rw [← cc_eq h1 c v]
  show ch (a + 1) (k + 1) + 0 = _
  omega
theorem fit_hi {r k : Nat} (hk : k ≤ 16) (hr : r < 2 ^ 110) : FitG (k / 2) (gHi r) := by
  refine ⟨by omega, rfl, gHi_nn r, fun i hi => ?_, fun i h1 h2 => ?_⟩
  · unfold gHi
    rw [Int.natAbs_natCast]
    match i with
    | 0 => exact Nat.lt_of_lt_of_le (show (1 : Nat) < 2 by decide) (Nat.le_trans (by decide) (Nat.pow_le_pow_right (n := 2) (show 0 < 2 by decide) (show 1 ≤ 1800 by decide)))
    | i + 1 =>
      show ch (r + i) (i + 1) < _
      refine Nat.lt_of_le_of_lt (ch_le_pow _ _) ?_
      have h1 : r + i < 2 ^ 111 := by
        have : (2 : Nat) ^ 111 = 2 * 2 ^ 110 := Nat.pow_succ'
        have : (8 : Nat) < 2 ^ 110 := by decide
        omega
      refine Nat.lt_of_le_of_lt (Nat.pow_le_pow_left (Nat.le_of_lt h1) (i + 1)) ?_
      rw [← Nat.pow_mul]
      exact Nat.pow_lt_pow_right (by decide) (by omega)
  · obtain ⟨j, rfl⟩ : ∃ j, i = j + 1 := ⟨i - 1, by omega⟩
    unfold gHi
    rw [Int.toNat_natCast]
    by_cases h0 : r = 0
    · subst h0
      rw [gHiN_zero (by omega)]
      exact Int.natCast_nonneg _
    · show ((ch (r + (j + 1)) (j + 1 + 1) : Nat) : Int) ≤ ((Uf 1 (j + 1) (ch (r + j) (j + 1)) : Nat) : Int)
      rw [Uf_one (by omega) (by omega)]
      exact Int.le_refl _
theorem cs_at {d : Nat} {g : Nat → Int} {j : Nat} (h : j < d) : (csL d g).getD j 0 = mvA 1 d (symR g d) (j + 1) := rw_at h
theorem cs_ix {d : Nat} {g : Nat → Int} {j : Nat} (h : j < d) : (iV (csL d g))[j]? = some (.int (mvA 1 d (symR g d) (j + 1))) := by rw [iV_ix (by rw [cs_len]; exact h), cs_at h]
theorem sym0 {d : Nat} {g : Nat → Int} : mvA 1 d (symR g d) 0 = g 0 := by
  rw [mvA_zero]
  unfold symR
  rw [Nat.zero_min]
  show 0 + g 0 = g 0
  omega
theorem cs_eq {r k : Nat} (hk : 2 ≤ k) : csL k (gLo r) = csL k (gHi r) ↔ (r = 0 ∨ k < 4) := by
  rw [← ends_equal hk]
  constructor
  · intro h j hj
    cases j with
    | zero => rw [sym0, sym0]; rfl
    | succ j =>
      rw [← cs_at (by omega), ← cs_at (by omega), h]
  · intro h
    exact rw_congr fun i hi => h (i + 1) (by omega)
theorem cs_steps {r k : Nat} (hk : 2 ≤ k) : rw' k (fun j => (csL k (gLo (r + 1))).getD j 0 - (csL k (gLo r)).getD j 0) = rw' (k - 1) (fun j => ((ch k j : Nat) : Int)) ++ [(k : Int) - 1] := by
  obtain ⟨m, rfl⟩ : ∃ m, k = m + 1 := ⟨k - 1, by omega⟩
  unfold rw'
  rw [List.range_succ, List.map_append, Nat.add_sub_cancel]
  congr 1
  · refine List.map_congr_left fun j hj => ?_
    have hj := List.mem_range.mp hj
    rw [cs_at (by omega), cs_at (by omega), least_more r (m + 1) (j + 1) hk (by omega) (by omega), if_neg (by omega)]
    rfl
  · rw [List.map_singleton, cs_at (by omega), cs_at (by omega), least_more r (m + 1) (m + 1) hk (by omega) (by omega), if_pos rfl]
theorem low_two (r : Nat) : csL 2 (gLo r) = [(r : Int) + 3, (r : Int) + 3] := by
  obtain ⟨⟨a, b⟩, _⟩ := low3 r
  show [mvA 1 2 (symR (gLo r) 2) 1, mvA 1 2 (symR (gLo r) 2) 2] = _
  rw [a, b]
theorem low_three (r : Nat) : csL 3 (gLo r) = [(r : Int) + 4, 3 * ((r : Int) + 4) - 6, 2 * ((r : Int) + 4) - 4] := by
  obtain ⟨_, a, b, c⟩ := low3 r
  show [mvA 1 3 (symR (gLo r) 3) 1, mvA 1 3 (symR (gLo r) 3) 2, mvA 1 3 (symR (gLo r) 3) 3] = _
  rw [a, b, c]
theorem ends_ok {CN CS : Addr} {r k : Nat} {H : Hp} {E : XK} {q : Int → Int → Prop} (h2 : 2 ≤ k) (h : q ((r + k + 1 : Nat) : Int) (k : Int)) : EndsOf CN CS (.int ((r + k + 1 : Nat) : Int)) (.int (k : Int)) (.int ((r + k + 1 : Nat) : Int)) (.int (k : Int)) H E q := by
  have g0 := fromD_nat (r + k + 1)
  have g2 : fromD 2 (.int (k : Int)) = true := decide_eq_true (by omega)
  refine ⟨fun z => ?_, fun _ z => ?_, fun n m en em _ _ => ?_⟩
  · rw [g0] at z; cases z
  · rw [g2] at z; cases z
  · injection en with en
    injection em with em
    subst en em
    exact ⟨fun z => by omega, fun _ => h⟩
end K81

set_option exponentiation.threshold 3000
namespace K81
open PySem PySem.Spec PyProof.Rows L2 Hr HrM Evl HrE_thing LamX RZ
theorem r_asgT {ts : TA} {g : TG} {D : Ends} {σ : L2.St} {H : Hp} (h : ts σ H fun xs H1 => xs.length ≤ sizeLine ∧ ∀ p, H1 p = none → tAsg (fun _ H Q => Q (.ref p) (upd H p (.tup xs))) g D σ H1) : tAsg (tTup ts) g D σ H := h
theorem small4 {a b c d : V} : ([a, b, c, d] : List V).length ≤ sizeLine := by show 4 ≤ sizeLine; decide
theorem lt_300 {x : Int} (h : x < 10 ^ 30) (h0 : 1 ≤ x) : x.natAbs < 2 ^ 300 := by
  have h1 : (10 : Int) ^ 30 ≤ 2 ^ 100 := by decide +kernel
  have h2 : x.natAbs < 2 ^ 100 := by
    have : ((2 ^ 100 : Nat) : Int) = (2 : Int) ^ 100 := by norm_cast
    omega
  exact pow_lt h2 (by decide)
theorem q_of {Q : VK} {x y : V} {H : Hp} (h : x = y) (q : Q y H) : Q x H := by rw [h]; exact q
theorem r_orV {t1 t2 : TE} {σ : L2.St} {H : Hp} {Q : VK} {c1 c2 : Bool} (h1 : ∀ Q1 : VK, Q1 (.bl c1) H → t1 σ H Q1) (h2 : ∀ Q1 : VK, Q1 (.bl c2) H → t2 σ H Q1) (q : Q (.bl (c1 || c2)) H) : tOrV t1 t2 σ H Q :=
  h1 _ ⟨c1, rfl, by
    cases c1 with
    | true => exact iteT q
    | false => exact iteF (h2 _ q)⟩
theorem int_dec {a b : Int} {c : Bool} (h : (a = b) ↔ c = true) : V.bl (decide (V.int a = V.int b)) = .bl c := by
  congr 1
  cases c with
  | true => exact decide_eq_true (congrArg V.int (h.mpr rfl))
  | false => exact decide_eq_false fun z => by injection z with z; have := h.mp z; cases this
section
variable {P : Program} {w : World} {K : PySem.W.Frag} {mg : Str → Option Value} {base : Heap}
def sp_er (TL : List (Addr × Str)) : Sp := fun vs H Q _ => ∃ (r k : Nat), vs = [.int ((r + k + 1 : Nat) : Int), .int (k : Int)] ∧ 2 ≤ k ∧ k ≤ 16 ∧ r + 1 < 2 ^ 110 ∧ Tabs TL H ∧ RetVk TL (.bl true) H Q
theorem ok_are_ends_right (T : Txt K mg) (TB : TabB base mg T.c_greatest_top T.P_greatest_top) : FnG P w K mg base CX0 10 T.f_l_are_ends_right T.d_l_are_ends_right ["n", "d"] (sp_er (tabs T)) := by
  have F_least_sphere := ok_least_sphere (P := P) (w := w) (base := base) T
  have F_most_sphere := ok_most_sphere (P := P) (w := w) (base := base) T
  have F_l_g_rows := ok_g_rows (P := P) (w := w) (base := base) T
  have F_l_choose := ok_choose (P := P) (w := w) (base := base) T
  have F_l_is_row_right := ok_is_row_right (P := P) (w := w) (base := base) T TB
  have kb_least_sphere_n_d := sw0_binds (p1 := "n") (p2 := "d") T.U_least_sphere fun _ _ _ _ _ _ _ _ => rfl
  refine okG T.U_l_are_ends_right sc_l_are_ends_right (fun vs H Q E h => ?_) (fun cdv A outer s H vs Q E hr gg h => ?_)
  · obtain ⟨_, _, rfl, _⟩ := h
    rfl
  · obtain ⟨r, k, rfl, k2, k16, hrs, hT, q⟩ := h
    refine ⟨_, (pss_cons (ps_asg (pe_tup (pa_cons (pe_callK0 F_least_sphere (hr.mono (by decide)) (by rfl) T.g_least_sphere T.k_least_sphere kb_least_sphere_n_d (passOn (E := fun _ _ _ => False) LamX.takes0) (pk_cons (pv 0) (pk_cons (pv 1) pk_nil))) (pa_cons (pe_call F_most_sphere (hr.mono (by decide)) (by rfl) T.g_most_sphere T.k_most_sphere T.b_most_sphere .nil (passOn (E := fun _ _ _ => False) LamX.takes0) (pa_cons (pv 0) (pa_cons (pv 1) pa_nil))) (pa_cons (pe_call F_least_sphere (hr.mono (by decide)) (by rfl) T.g_least_sphere T.k_least_sphere T.b_least_sphere .nil (passOn (E := fun _ _ _ => False) LamX.takes0) (pa_cons (pe_op op_add (pv 0) pe_int) (pa_cons (pv 1) pa_nil))) (pa_cons (pe_call F_l_g_rows (hr.mono (by decide)) (by rfl) T.g_l_g_rows T.k_l_g_rows T.b_l_g_rows .nil pass0 (pa_cons (pv 0) (pa_cons (pv 1) pa_nil))) pa_nil))))) (pg_tup (by rfl) (pgs_cons (pg_name (i := 2) sc_l_are_ends_right.nd rfl (.inl rfl)) (pgs_cons (pg_name (i := 3) sc_l_are_ends_right.nd rfl (.inr rfl)) (pgs_cons (pg_name (i := 4) sc_l_are_ends_right.nd rfl (.inl rfl)) (pgs_cons (pg_name (i := 5) sc_l_are_ends_right.nd rfl (.inl rfl)) pgs_nil))))))
  (pss_cons (ps_for PassesOwn.never rfl (pi_tup (pe_tup (pa_cons (pe_tup (pa_cons (pv 2) (pa_cons (pe_ix ix_tup (pv 5) pe_int (fun _ _ => rfl)) pa_nil))) (pa_cons (pe_tup (pa_cons (pv 3) (pa_cons (pe_ix ix_tup (pv 5) pe_int (fun _ _ => rfl)) pa_nil))) pa_nil)))) (pg_tup (by rfl) (pgs_cons (pg_name (i := 6) sc_l_are_ends_right.nd rfl (.inl rfl)) (pgs_cons (pg_name (i := 7) sc_l_are_ends_right.nd rfl (.inl rfl)) pgs_nil))) (pss_one (ps_if (PW.pt (pw_and (pt_cmpR op_lt (pe_callB (cr_maxT rfl hr.units) (by rfl) T.n_max (by decide +kernel) (pa_cons (pv 6) pa_nil)) (pe_op op_pow pe_int pe_int) (nomark _)) (pw_and1 (pt_not (pt_val (pe_callG F_l_is_row_right (hr.mono (by decide)) gg (by rfl) T.g_l_is_row_right T.k_l_is_row_right T.b_l_is_row_right .nil pass0 (pa_cons (pv 6) (pa_cons (pv 7) pa_nil)))))))) (pss_one (ps_ret pe_bl)) pss_nil)))
  (pss_cons (ps_if (PW.pt (pw_or (pt_cmpR op_ne (pe_cmpR (op_eqD hr.units) (pv 2) (pv 3) (nomark _)) (pe_or (pe_cmpR op_eq (pv 0) (pe_op op_add (pv 1) pe_int) (nomark _)) (pe_one (pe_cmpR op_lt (pv 1) pe_int (nomark _)))) (nomark _)) (pw_or1 (pt_cmpR (op_neD hr.units) (pe_lc (own := [("k", 9)]) (g := gName 9) (tt := _) rfl sc_l_are_ends_right.nd (pi_range2 rfl T.n_range (pa_cons pe_int (pa_cons (pe_op op_add (pe_op op_fdivN (pv 1) pe_int) pe_int) pa_nil))) (blkOk_by (own := [("k", 9)]) (N := ["n", "d", "low", "high", "more", "rows", "counts", "g", "steps", "k", "x", "y"]) (sc := defScope s_l_are_ends_right) (by decide +kernel)) (fun _ _ _ _ _ => pg_name (i := 9) sc_l_are_ends_right.nd rfl (Or.inl rfl)) (fun _ _ _ _ _ => pts_one (pt_cmpR op_ne (pe_ix (r := rIxT K) ix_tup (pv 3) (pe_op op_sub (pv 9) pe_int) (fun _ _ => rfl)) (pe_call F_l_choose (hr.mono (by decide)) (by rfl) T.g_l_choose T.k_l_choose T.b_l_choose .nil pass0 (pa_cons (pv 0) (pa_cons (pv 9) pa_nil))) (nomark _))) (fun _ _ _ _ _ => (pv 9))) (pe_lst pa_nil) (nomark _))))) (pss_one (ps_ret pe_bl)) pss_nil)
  (pss_cons (ps_set (i := 8) sc_l_are_ends_right.nd rfl (.inl rfl) (pe_op op_cat (pe_lc (own := [("k", 9)]) (g := gName 9) (tt := tYes) rfl sc_l_are_ends_right.nd (pi_range2 rfl T.n_range (pa_cons pe_int (pa_cons (pv 1) pa_nil))) (blkOk_by (own := [("k", 9)]) (N := ["n", "d", "low", "high", "more", "rows", "counts", "g", "steps", "k", "x", "y"]) (sc := defScope s_l_are_ends_right) (by decide +kernel)) (fun _ _ _ _ _ => pg_name (i := 9) sc_l_are_ends_right.nd rfl (Or.inl rfl)) (fun _ _ _ _ _ => pts_nil) (fun _ _ _ _ _ => (pe_call F_l_choose (hr.mono (by decide)) (by rfl) T.g_l_choose T.k_l_choose T.b_l_choose .nil pass0 (pa_cons (pv 1) (pa_cons (pe_op op_sub (pv 9) pe_int) pa_nil))))) (pe_lst (pa_cons (pe_op op_sub (pv 1) pe_int) pa_nil))))
  (pss_cons (ps_if (pt_cmpR (op_neD hr.units) (pe_lc (own := [("x", 10), ("y", 11)]) (g := gTup K 2 (gCons (gName 10) (gCons (gName 11) (gNil)))) (tt := tYes) rfl sc_l_are_ends_right.nd (pi_zipA (by rfl) T.n_zip (pa_cons (pv 2) (pa_cons (pv 4) pa_nil))) (blkOk_by (own := [("x", 10), ("y", 11)]) (N := ["n", "d", "low", "high", "more", "rows", "counts", "g", "steps", "k", "x", "y"]) (sc := defScope s_l_are_ends_right) (by decide +kernel)) (fun _ _ _ _ _ => pg_tup rfl (pgs_cons (pg_name (i := 10) sc_l_are_ends_right.nd rfl (Or.inl rfl)) (pgs_cons (pg_name (i := 11) sc_l_are_ends_right.nd rfl (Or.inl rfl)) pgs_nil))) (fun _ _ _ _ _ => pts_nil) (fun _ _ _ _ _ => (pe_op op_sub (pv 11) (pv 10)))) (pv 8) (nomark _)) (pss_one (ps_ret pe_bl)) pss_nil)
  (pss_one (ps_ret (pe_or (pe_cmpR op_gt (pv 1) pe_int (nomark _)) (pe_one (pe_cmpR (op_eqD hr.units) (pv 2) (pe_ix ix_tup (pe_tup (pa_cons (pe_tup (pa_cons (pv 0) (pa_cons (pv 0) pa_nil))) (pa_cons (pe_tup (pa_cons (pv 0) (pa_cons (pe_op op_sub (pe_op op_mul pe_int (pv 0)) pe_int) (pa_cons (pe_op op_sub (pe_op op_mul pe_int (pv 0)) pe_int) pa_nil)))) pa_nil))) (pe_op op_sub (pv 1) pe_int) (fun _ _ => rfl)) (nomark _))))))))))), ?_⟩
    have hr0 : r < 2 ^ 110 := by omega
    refine r_seq (r_asgT (r_arg ?_))
    refine ⟨_, rfl, _, rfl, .int _, .int _, _, _, rfl, .int _, .int _, ends_ok k2 ⟨r, k, rfl, rfl, k16, hr0, fun l H1 nl e1 hl => ?_⟩⟩
    refine ⟨_, rfl, _, rfl, .int _, .int _, _, _, rfl, .int _, .int _, ends_ok k2 ⟨r, k, rfl, rfl, k16, hr0, fun h H2 nh e2 hh => ?_⟩⟩
    refine ⟨_, rfl, _, _, rfl, rfl, _, rfl, .int ((r + 1 + k + 1 : Nat) : Int), .int _, _, _, by show ([V.int (((r + k + 1 : Nat) : Int) + 1), V.int (k : Int)] : List V) = _; rw [show ((r + k + 1 : Nat) : Int) + 1 = ((r + 1 + k + 1 : Nat) : Int) by omega], .int _, .int _, ends_ok k2 ⟨r + 1, k, rfl, rfl, k16, hrs, fun mo H3 nm e3 hm => ?_⟩⟩
    refine ⟨_, rfl, _, rfl, r, k, rfl, k2, k16, hr0, fun ro p1 p2 H4 nro e4 hro hp1 hp2 => ?_⟩
    refine ⟨small4, fun t nt => ?_⟩
    have e5 := Ex.new (o := .tup [.ref l, .ref h, .ref mo, .ref ro]) nt
    have E5 := e1.trans (e2.trans (e3.trans (e4.trans e5)))
    refine ⟨t, _, rfl, SqT.of upd_same, rfl, _, _, rfl, _, _, rfl, _, _, rfl, _, _, rfl, rfl, ?_⟩
    have hl5 := e5 _ _ (e4 _ _ (e3 _ _ (e2 _ _ hl)))
    have hh5 := e5 _ _ (e4 _ _ (e3 _ _ hh))
    have hm5 := e5 _ _ (e4 _ _ hm)
    have hro5 := e5 _ _ hro
    have hp15 := e5 _ _ hp1
    have hp25 := e5 _ _ hp2
    generalize upd H4 t (.tup [.ref l, .ref h, .ref mo, .ref ro]) = H5 at E5 hl5 hh5 hm5 hro5 hp15 hp25
    clear e1 e2 e3 e4 e5 hl hh hm hro hp1 hp2
    have hcl : ∀ g, (csL k g).length = k := cs_len k
    dsimp only
    refine r_seq (r_forT (r_arg ?_))
    refine ⟨_, rfl, _, rfl, ro, _, ((0 : Nat) : Int), .ref p1, rfl, rfl, SqT.of hro5, atI_nat rfl, small2, fun t1 nt1 => ?_⟩
    have e1 := Ex.new (o := .tup [.ref l, .ref p1]) nt1
    refine ⟨_, rfl, _, rfl, ro, _, ((1 : Nat) : Int), .ref p2, rfl, rfl, SqT.of (e1 _ _ hro5), atI_nat rfl, small2, fun t2 nt2 => ?_⟩
    have e2 := Ex.new (o := .tup [.ref h, .ref p2]) nt2
    refine ⟨small2, fun U nU => ?_⟩
    have e3 := Ex.new (o := .tup [.ref t1, .ref t2]) nU
    have ht1 := e3 _ _ (e2 _ _ (upd_same (H := H5) (a := t1) (o := .tup [.ref l, .ref p1])))
    have ht2 := e3 _ _ (upd_same (H := upd H5 t1 (.tup [.ref l, .ref p1])) (a := t2) (o := .tup [.ref h, .ref p2]))
    have E6 : Ex H5 _ := e1.trans (e2.trans e3)
    refine ⟨U, rfl, ⟨_, SqT.of upd_same⟩, ?_⟩
    have hU : (upd (upd (upd H5 t1 (.tup [.ref l, .ref p1])) t2 (.tup [.ref h, .ref p2])) U (.tup [.ref t1, .ref t2])) U = some (.tup [.ref t1, .ref t2]) := upd_same
    generalize upd (upd (upd H5 t1 (.tup [.ref l, .ref p1])) t2 (.tup [.ref h, .ref p2])) U (.tup [.ref t1, .ref t2]) = H6 at E6 ht1 ht2 hU
    refine for_tup (a := U) (xs := [.ref t1, .ref t2]) (fun j σ' H' => ∃ y6 y7, σ' = [some (.int ((r + k + 1 : Nat) : Int)), some (.int (k : Int)), some (.ref l), some (.ref h), some (.ref mo), some (.ref ro), y6, y7, none, none, none, none] ∧ Ek (tabs T) H6 H') ⟨none, none, rfl, Ek.refl _⟩ ?_ ?_ ?_
    · rintro j σ' H' _ ⟨y6, y7, rfl, e⟩
      exact SqT.of (e.get hU)
    · rintro j x σ' H' hx ⟨y6, y7, rfl, e⟩
      obtain ⟨t, c, b, g, rfl, ht, hc, hb, fg, hss⟩ : ∃ (t c b : Addr) (g : Nat → Int), x = .ref t ∧ H6 t = some (.tup [.ref c, .ref b]) ∧ H6 c = some (.tup (iV (csL k g))) ∧ H6 b = some (.tup (iV (gsL (k / 2) g))) ∧ FitG (k / 2) g ∧ (∀ x ∈ hsL k g, x.natAbs < 2 ^ 900) := by
        match j, hx with
        | 0, hx => exact ⟨t1, l, p1, gLo r, (Option.some.inj hx).symm, ht1, E6 _ _ hl5, E6 _ _ hp15, fit_lo k16 hr0, hs_small_lo hr0⟩
        | 1, hx => exact ⟨t2, h, p2, gHi r, (Option.some.inj hx).symm, ht2, E6 _ _ hh5, E6 _ _ hp25, fit_hi k16 hr0, hs_small_hi hr0 k16⟩
        | j + 2, hx => simp at hx
      refine ⟨t, _, rfl, SqT.of (e.get ht), rfl, _, _, rfl, _, _, rfl, rfl, ?_⟩
      have hpos := cs_pos (d := k) fg.g0 fg.nn
      refine ⟨_, rfl, c, csL k g, rfl, SqT.of (e.get hc), by rw [hcl]; omega, fun m hm1 hm2 => ?_⟩
      refine ⟨_, _, rfl, rfl, ⟨by decide, by decide, by decide⟩, _, _, rfl, rfl, _, rfl, ite2 (fun e9 => ?_) (fun e9 => ?_)⟩
      · have hlt := of_decide_eq_true e9
        have hlt' : m < 10 ^ 30 := hlt
        refine ⟨_, rfl, _, rfl, c, b, k, g, rfl, k2, k16, e.get hc, e.get hb, fg, fun x hx => lt_300 (Int.lt_of_le_of_lt (hm2 x hx) hlt') (hpos x hx), hss, e.t (hT.ext (E5.trans E6)), fun H7 e7 => ⟨_, rfl, iteF ?_⟩⟩
        exact ⟨_, _, rfl, e.trans e7⟩
      · exact ⟨_, _, rfl, e⟩
    rintro σ' H7 ⟨y6, y7, rfl, e7⟩
    have e57 : Ek (tabs T) H5 H7 := (Ek.of E6).trans e7
    have hl7 := e57.get hl5
    have hh7 := e57.get hh5
    have hm7 := e57.get hm5
    clear hl5 hh5 hm5 hro5 hp15 hp25 ht1 ht2 hU e7 E6 e1 e2 e3
    -- low == high
    refine ⟨_, rfl, _, rfl, izT (csL k (gLo r)), izT (csL k (gHi r)), izT_dp hl7, izT_dp hh7, izT_shaped _, izT_shaped _, ?_⟩
    rw [tupEqv]
    have hb : decide (csL k (gLo r) = csL k (gHi r)) = (decide (r = 0) || decide (k < 4)) := by
      rw [← Bool.decide_or]
      exact decide_eq_decide.mpr (cs_eq k2)
    rw [hb]
    generalize hbb : (decide (r = 0) || decide (k < 4)) = b at *
    refine r_orV (c1 := decide (r = 0)) (c2 := decide (k < 4)) (fun Q1 q1 => ⟨_, rfl, _, rfl, _, _, rfl, rfl, rfl, ?_⟩) (fun Q1 q1 => ⟨_, rfl, _, _, rfl, rfl, ?_⟩) ?_
    · refine q_of (int_dec ?_) q1
      rw [decide_eq_true_eq]
      omega
    · refine q_bl (Q := Q1) (decide_eq_decide.mpr (by omega)) q1
    rw [hbb]
    refine ⟨rfl, _, rfl, ?_⟩
    rw [decide_eq_true (show V.bl b = V.bl b from rfl)]
    refine iteF ?_
    -- all sets
    have ek : ((k : Int)).fdiv 2 = ((k / 2 : Nat) : Int) := by
      rw [Int.fdiv_eq_ediv_of_nonneg _ (by decide)]
      omega
    refine r_test (r_op ?_)
    refine el_lcR (H := H7) (lo := 1) (hi := ((k / 2 : Nat) : Int) + 1) ?_ (by omega) (fun _ => false) (fun _ => .non) (by omega) ?_ H7 (Ex.refl _) _ ?_
    · intro H8 e8 Q8 q8
      refine ⟨_, rfl, _, _, rfl, rfl, ⟨by decide, by decide⟩, _, _, rfl, rfl, ?_⟩
      have z := q8 H8 (Ex.refl _)
      rw [← ek] at z
      exact z
    · intro i H8 e8 hi
      have e0 : (1 : Int) + (i : Int) = ((i + 1 : Nat) : Int) := by omega
      rw [e0]
      refine ⟨[some (.int ((r + k + 1 : Nat) : Int)), some (.int (k : Int)), some (.ref l), some (.ref h), some (.ref mo), some (.ref ro), y6, y7, none, some (.int ((i + 1 : Nat) : Int)), none, none], fun k hk => hk, rfl, ?_, fun h => nomatch h⟩
      intro H9 e9 Q9 q9
      have hh9 := e9 _ _ (e8 _ _ hh7)
      have hb : r + k + 1 < 2 ^ 120 := by
        have : (2 : Nat) ^ 120 = 1024 * 2 ^ 110 := Nat.pow_add 2 10 110
        have : (17 : Nat) < 2 ^ 110 := by decide
        omega
      refine ⟨_, rfl, _, rfl, _, _, rfl, rfl, h, _, _, _, rfl, rfl, SqT.of hh9, atI_is (n := i) (by omega) (cs_ix (by omega)), _, rfl, _, rfl, r + k + 1, i + 1, rfl, hb, by omega, rfl, _, rfl, ?_⟩
      rw [most_all r k (i + 1) (by omega), decide_eq_true rfl]
      exact q9 H9 (Ex.refl _)
    intro L H8 nL e8 hL
    rw [given_none _ _ _ fun _ _ => rfl] at hL
    refine ⟨Nat.zero_le _, fun o no => ⟨izD [], izD [], izD_dp (xs := []) (SqL.of ((Ex.new no) _ _ hL)), izD_dp (xs := []) (SqL.of upd_same), izD_shaped _, izD_shaped _, _, rfl, ?_⟩⟩
    rw [izD_eqv_nil]
    refine iteF ?_
    dsimp only [tNext]
    have e9 := e8.trans (Ex.new (o := .lst []) no)
    have e59 := e57.ex e9
    have hl9 := e9 _ _ hl7
    have hm9 := e9 _ _ hm7
    generalize upd H8 o (.lst []) = H9 at e9 e59 hl9 hm9
    clear hL hl7 hm7 hh7 e57 nL e8
    -- steps
    refine r_seq (r_set (r_op ?_))
    refine el_lcR (H := H9) (lo := 1) (hi := (k : Int)) ?_ (by omega) (fun _ => true) (fun i => .int ((ch k i : Nat) : Int)) (by omega) ?_ H9 (Ex.refl _) _ ?_
    · intro H8 e8 Q8 q8
      exact ⟨_, rfl, q8 H8 (Ex.refl _)⟩
    · intro i H8 e8 hi
      have e0 : (1 : Int) + (i : Int) = ((i + 1 : Nat) : Int) := by omega
      rw [e0]
      refine ⟨[some (.int ((r + k + 1 : Nat) : Int)), some (.int (k : Int)), some (.ref l), some (.ref h), some (.ref mo), some (.ref ro), y6, y7, none, some (.int ((i + 1 : Nat) : Int)), none, none], fun k hk => hk, rfl, et_yes, fun _ => ?_⟩
      intro H9 e9 Q9 q9
      exact ⟨_, rfl, _, rfl, _, _, rfl, rfl, k, i, by show ([V.int (k : Int), V.int (((i + 1 : Nat) : Int) - 1)] : List V) = _; rw [show ((i + 1 : Nat) : Int) - 1 = (i : Int) by omega], Nat.lt_of_le_of_lt (show k ≤ 16 by omega) (by decide), by omega, q9 H9 (Ex.refl _)⟩
    intro S H10 nS e10 hS
    rw [given_rw, show ((k : Int) - 1).toNat = k - 1 by omega] at hS
    refine ⟨_, rfl, _, _, rfl, rfl, by show 1 ≤ sizeLine; decide, fun W nW => ?_⟩
    have e11 := e10.trans (Ex.new (o := .lst [.int ((k : Int) - 1)]) nW)
    refine ⟨S, W, _, _, rfl, rfl, (Ex.new nW) _ _ hS, upd_same, ?_, fun Y nY => ?_⟩
    · rw [iV_len, rw_len]
      exact Nat.le_trans (show k - 1 + 1 ≤ 20 by omega) (by decide)
    have ev : iV (rw' (k - 1) fun i => ((ch k i : Nat) : Int)) ++ [V.int ((k : Int) - 1)] = iV (rw' (k - 1) (fun i => ((ch k i : Nat) : Int)) ++ [(k : Int) - 1]) := by
      unfold iV
      rw [List.map_append]
      rfl
    rw [ev, ← cs_steps (r := r) k2]
    generalize hst : rw' k (fun j => (csL k (gLo (r + 1))).getD j 0 - (csL k (gLo r)).getD j 0) = st
    have e12 := e11.trans (Ex.new (o := .lst (iV st)) nY)
    have e512 := e59.ex e12
    have hY : (upd (upd H10 W (.lst [.int ((k : Int) - 1)])) Y (.lst (iV st))) Y = some (.lst (iV st)) := upd_same
    have hl12 := e12 _ _ hl9
    have hm12 := e12 _ _ hm9
    generalize upd (upd H10 W (.lst [.int ((k : Int) - 1)])) Y (.lst (iV st)) = H12 at e12 e512 hY hl12 hm12
    clear hS nY nW nS e10 e11 ev hl9 hm9 e59
    dsimp only [gName]
    refine r_seq (r_if (r_test (r_op ?_)))
    refine el_lcZ (K := K) (xs := iV (csL k (gLo r))) (ys := iV (csL k (gLo (r + 1)))) (fun H1 e1 Q1 q1 => ⟨_, rfl, _, rfl, q1 l mo H1 (Ex.refl H1) (e1 _ _ hl12) (e1 _ _ hm12)⟩) (fun _ => true) (fun j => .int ((csL k (gLo (r + 1))).getD j 0 - (csL k (gLo r)).getD j 0)) (by rw [iV_len, iV_len, hcl, hcl]; omega) ?_ H12 (Ex.refl _) _ ?_
    · intro i x y TT H2 e2 hx hy hTT
      obtain ⟨rfl, _⟩ := iV_at hx
      obtain ⟨rfl, _⟩ := iV_at hy
      refine ⟨[some (.int ((r + k + 1 : Nat) : Int)), some (.int (k : Int)), some (.ref l), some (.ref h), some (.ref mo), some (.ref ro), y6, y7, some (.ref Y), none, some (.int ((csL k (gLo r)).getD i 0)), some (.int ((csL k (gLo (r + 1))).getD i 0))], fun k hk => two_get (K := K) (i := 10) (j := 11) hTT hk, rfl, et_yes, fun _ => ?_⟩
      intro H3 e3 Q3 q3
      exact ⟨_, rfl, _, rfl, _, _, rfl, rfl, q3 H3 (Ex.refl _)⟩
    intro D H13 nD e13 hD
    rw [given_rw, iV_len, iV_len, hcl, hcl, Nat.min_self, hst] at hD
    refine ⟨_, rfl, izD st, izD st, izD_dp (SqL.of hD), izD_dp (SqL.of (e13 _ _ hY)), izD_shaped _, izD_shaped _, _, rfl, ?_⟩
    rw [lstEqv, decide_eq_true rfl]
    refine iteF ?_
    dsimp only [tNext]
    have e513 := e512.ex e13
    have hl13 := e13 _ _ hl12
    clear hD hY hl12 hm12 e13 e512 e12
    by_cases h3 : 3 < k
    · refine r_ret ⟨_, rfl, _, _, rfl, rfl, true, congrArg V.bl (decide_eq_true (by omega)), iteT ?_⟩
      exact q H13 ((Ek.of E5).trans e513)
    · refine r_ret ⟨_, rfl, _, _, rfl, rfl, false, congrArg V.bl (decide_eq_false (by omega)), iteF ?_⟩
      refine ⟨_, rfl, _, rfl, _, rfl, small2, fun a na => ?_⟩
      have e1 := Ex.new (o := .tup [.int ((r + k + 1 : Nat) : Int), .int ((r + k + 1 : Nat) : Int)]) na
      refine ⟨_, rfl, _, rfl, _, _, rfl, rfl, .inl ⟨by decide, by decide⟩, _, _, rfl, rfl, _, rfl, _, _, rfl, rfl, .inl ⟨by decide, by decide⟩, _, _, rfl, rfl, small3, fun b2 nb => ?_⟩
      have e2 := Ex.new (o := .tup [.int ((r + k + 1 : Nat) : Int), .int (3 * ((r + k + 1 : Nat) : Int) - 6), .int (2 * ((r + k + 1 : Nat) : Int) - 4)]) nb
      refine ⟨small2, fun c nc => ?_⟩
      have e3 := Ex.new (o := .tup [.ref a, .ref b2]) nc
      have hl16 := e3 _ _ (e2 _ _ (e1 _ _ hl13))
      have e516 := e513.ex (e1.trans (e2.trans e3))
      have ha := e3 _ _ (e2 _ _ (upd_same (H := H13) (a := a) (o := .tup [.int ((r + k + 1 : Nat) : Int), .int ((r + k + 1 : Nat) : Int)])))
      have hb2 := e3 _ _ (upd_same (H := upd H13 a (.tup [.int ((r + k + 1 : Nat) : Int), .int ((r + k + 1 : Nat) : Int)])) (a := b2) (o := .tup [.int ((r + k + 1 : Nat) : Int), .int (3 * ((r + k + 1 : Nat) : Int) - 6), .int (2 * ((r + k + 1 : Nat) : Int) - 4)]))
      have hk : k = 2 ∨ k = 3 := by omega
      rcases hk with rfl | rfl
      · refine ⟨_, rfl, _, _, rfl, rfl, c, _, _, .ref a, rfl, rfl, SqT.of upd_same, atI_is (n := 0) (by decide) rfl, ?_⟩
        refine ⟨izT (csL 2 (gLo r)), izT [((r + 2 + 1 : Nat) : Int), ((r + 2 + 1 : Nat) : Int)], izT_dp hl16, izT_dp ha, izT_shaped _, izT_shaped _, ?_⟩
        rw [tupEqv, low_two]
        refine q_bl (Q := Q) (decide_eq_true ?_) (q _ ((Ek.of E5).trans e516))
        rw [show ((r + 2 + 1 : Nat) : Int) = (r : Int) + 3 by omega]
      · refine ⟨_, rfl, _, _, rfl, rfl, c, _, _, .ref b2, rfl, rfl, SqT.of upd_same, atI_is (n := 1) (by decide) rfl, ?_⟩
        refine ⟨izT (csL 3 (gLo r)), izT [((r + 3 + 1 : Nat) : Int), 3 * ((r + 3 + 1 : Nat) : Int) - 6, 2 * ((r + 3 + 1 : Nat) : Int) - 4], izT_dp hl16, izT_dp hb2, izT_shaped _, izT_shaped _, ?_⟩
        rw [tupEqv, low_three]
        refine q_bl (Q := Q) (decide_eq_true ?_) (q _ ((Ek.of E5).trans e516))
        rw [show ((r + 3 + 1 : Nat) : Int) = (r : Int) + 4 by omega]
end
end K81

set_option exponentiation.threshold 3000
namespace K81
open PySem PySem.Spec PyProof.Rows L2 Hr HrM Evl HrE_thing LamX RZ
section
variable {T : List (Addr × Str)} {d : Addr} {G H : Hp} {σ : L2.St} {R : Hp → V → Prop}
theorem evd_pickI {k i : Nat} {tl : TE} {E1 : XK} (h0 : σ[i]? = some (some (.ref d))) (h : EvD T d tl σ G H (LstV R k)) (h1 : 1 ≤ k) (h2 : k ≤ 1000) : EvD T d (tCall (sp_pickT T) [] E1 (tCons (tVar i) (tCons tl tNil))) σ G H R := fun Q q =>
  ⟨_, h0, h _ fun v G1 H1 e1 D1 ⟨p, vs, ev, hp, hl, ho⟩ => by
    subst ev
    exact ⟨G1, d, p, vs, rfl, D1, hp, by omega, by omega, fun i v H' hv D' => q v G1 H' e1 D' (ho v (List.mem_of_getElem? hv))⟩⟩
/-- a natural number in bounds -/
def NatV (lo hi : Nat) : Hp → V → Prop := fun _ v => ∃ x : Nat, v = .int (x : Int) ∧ lo ≤ x ∧ x ≤ hi
theorem nat_more (lo hi : Nat) (G G' : Hp) (v : V) (h : NatV lo hi G v) (e : Ex G G') : NatV lo hi G' v := h
theorem evd_nat {x : Int} {lo hi : Nat} (D : DkT T G d H) (h : ∃ n : Nat, x = (n : Int) ∧ lo ≤ n ∧ n ≤ hi) : EvD T d (tC (.int x)) σ G H (NatV lo hi) := evd_c D (let ⟨n, a, b, c⟩ := h; ⟨n, congrArg V.int a, b, c⟩)
theorem evd_draw {m : Nat} {E1 : XK} (h1 : σ[1]? = some (some (.ref d))) (D : DkT T G d H) (hm : 1 ≤ m) (hm2 : m ≤ 1000000000) : EvD T d (tCall (sp_drawT T) [] E1 (tCons (tVar 1) (tCons (tC (.int (m : Int))) tNil))) σ G H (NatV 0 (m - 1)) := fun Q q =>
  ⟨_, h1, G, d, _, rfl, by omega, by omega, D, fun r H' r0 r1 D' => q _ G H' (Ex.refl _) D' ⟨r.toNat, by rw [Int.toNat_of_nonneg r0], by omega, by omega⟩⟩
theorem evd_drawP {a b m : Nat} {E1 : XK} (h1 : σ[1]? = some (some (.ref d))) (D : DkT T G d H) (hc : CPow (a : Int) (b : Int)) (e : ((a : Int) ^ ((b : Int)).toNat) = (m : Int)) (hm : 1 ≤ m) (hm2 : m ≤ 1000000000) : EvD T d (tCall (sp_drawT T) [] E1 (tCons (tVar 1) (tCons (tOp (rI CPow fun i j => V.int (i ^ j.toNat)) (tC (.int (a : Int))) (tC (.int (b : Int)))) tNil))) σ G H (NatV 0 (m - 1)) := fun Q q =>
  ⟨_, h1, _, _, rfl, rfl, hc, G, d, (m : Int), by show ([V.ref d, V.int ((a : Int) ^ ((b : Int)).toNat)] : List V) = _; rw [e], by omega, by omega, D, fun r H' r0 r1 D' => q _ G H' (Ex.refl _) D' ⟨r.toNat, by rw [Int.toNat_of_nonneg r0], by omega, by omega⟩⟩
theorem evd_add {t1 t2 : TE} {a b c e lo hi : Nat} (h1 : EvD T d t1 σ G H (NatV a b)) (h2 : ∀ G1 H1, Ex G G1 → DkT T G1 d H1 → EvD T d t2 σ G1 H1 (NatV c e)) (h3 : lo ≤ a + c) (h4 : b + e ≤ hi) : EvD T d (tOp (rI0 fun i j => V.int (i + j)) t1 t2) σ G H (NatV lo hi) := fun Q q =>
  h1 _ fun v G1 H1 e1 D1 ⟨x, ex, x1, x2⟩ => h2 G1 H1 e1 D1 _ fun u G2 H2 e2 D2 ⟨y, ey, y1, y2⟩ => by
    subst ex ey
    refine ⟨_, _, rfl, rfl, q _ G2 H2 (e1.trans e2) D2 ⟨x + y, ?_, by omega, by omega⟩⟩
    rw [Int.natCast_add]
theorem evd_pow {a b m lo hi : Nat} (D : DkT T G d H) (hc : CPow (a : Int) (b : Int)) (e : ((a : Int) ^ ((b : Int)).toNat) = (m : Int)) (h1 : lo ≤ m) (h2 : m ≤ hi) : EvD T d (tOp (rI CPow fun i j => V.int (i ^ j.toNat)) (tC (.int (a : Int))) (tC (.int (b : Int)))) σ G H (NatV lo hi) := fun Q q =>
  ⟨_, _, rfl, rfl, hc, q _ G H (Ex.refl _) D ⟨m, congrArg V.int e, h1, h2⟩⟩
/-- odd values: of any kind, their ints at most b -/
def OddV (b : Int) : Hp → V → Prop := fun G v => ∃ pd, Dx G v pd ∧ Shw pd ∧ ∀ n : Int, pd = .int n → n ≤ b
theorem odd_more (b : Int) (G G' : Hp) (v : V) (h : OddV b G v) (e : Ex G G') : OddV b G' v := let ⟨pd, a, c, f⟩ := h; ⟨pd, a.more e, c, f⟩
theorem shw_int {i : Int} (h : i.natAbs < 2 ^ 1900) : Shw (.int i) := by
  have hl : i.natAbs.log2 < 1920 := by
    have := PySem.Flt.log2_lt_of (by decide) h
    omega
  refine ⟨decide_eq_true hl, ?_, Nat.zero_le _, Nat.zero_le _⟩
  simp only [PyData.leavesShort, decide_eq_true_eq]
  exact int_text_len_1921 hl
theorem evd_oddI {i b : Int} (D : DkT T G d H) (h : i ≤ b) (hs : i.natAbs < 2 ^ 1900) : EvD T d (tC (.int i)) σ G H (OddV b) := evd_c D ⟨.int i, .int i, shw_int hs, fun n e => by injection e with e; omega⟩
theorem evd_oddB {x : Bool} {b : Int} (D : DkT T G d H) : EvD T d (tC (.bl x)) σ G H (OddV b) := evd_c D ⟨.bool x, .bl x, ⟨rfl, rfl, Nat.zero_le _, Nat.zero_le _⟩, fun n e => nomatch e⟩
theorem evd_oddN {b : Int} (D : DkT T G d H) : EvD T d (tC .non) σ G H (OddV b) := evd_c D ⟨.none, .non, ⟨rfl, rfl, Nat.zero_le _, Nat.zero_le _⟩, fun n e => nomatch e⟩
theorem evd_oddS {x : Str} {b : Int} (D : DkT T G d H) (h : (PyData.str x).showable = true ∧ (PyData.str x).leavesShort 1921 = true ∧ (PyData.str x).bulk ≤ 10) : EvD T d (tC (.str x)) σ G H (OddV b) := evd_c D ⟨.str x, .str x, ⟨h.1, h.2.1, Nat.zero_le _, Nat.le_trans h.2.2 (by decide)⟩, fun n e => nomatch e⟩
theorem shw_one {i : Int} (h : i.natAbs < 2 ^ 1900) : ShL [.int i] 1 1 := by
  have s := shw_int h
  have z := ShL.cons (p := 1) (n := 0) (d := .int i) s.1 s.2.1 (Nat.zero_le _) (Nat.zero_le _) ShL.nil
  exact ⟨z.sh, z.leaf, z.dep, Nat.le_trans z.bulk (by decide)⟩
theorem shw_tup {ds : List PyData} {p n : Nat} (h : ShL ds p n) (hp : p ≤ 4) (hn : n ≤ 200) : Shw (.tuple ds) := by
  refine ⟨?_, ?_, ?_, ?_⟩
  · simpa only [PyData.showable] using h.sh
  · simpa only [PyData.leavesShort] using h.leaf
  · have := h.dep; simp only [PyData.depth]; omega
  · have := h.bulk; simp only [PyData.bulk]; omega
theorem shw_lst {ds : List PyData} {p n : Nat} (h : ShL ds p n) (hp : p ≤ 4) (hn : n ≤ 200) : Shw (.list ds) := by
  refine ⟨?_, ?_, ?_, ?_⟩
  · simpa only [PyData.showable] using h.sh
  · simpa only [PyData.leavesShort] using h.leaf
  · have := h.dep; simp only [PyData.depth]; omega
  · have := h.bulk; simp only [PyData.bulk]; omega
theorem evd_oddT {i b : Int} (D : DkT T G d H) (hs : i.natAbs < 2 ^ 1900) : EvD T d (tTup (tCons (tC (.int i)) tNil)) σ G H (OddV b) := fun Q q =>
  ⟨by show 1 ≤ sizeLine; decide, fun p np => q _ _ _ (D.gex np) (D.made np) ⟨.tuple [.int i], .tup upd_same (.cons (.int i) .nil), shw_tup (shw_one hs) (by decide) (by decide), fun n e => nomatch e⟩⟩
theorem evd_oddL {i : Nat} {x b : Int} (D : DkT T G d H) (hi : σ[i]? = some (some (.int x))) (hs : x.natAbs < 2 ^ 1900) : EvD T d (tLst (tCons (tVar i) tNil)) σ G H (OddV b) := fun Q q =>
  ⟨_, hi, by show 1 ≤ sizeLine; decide, fun p np => q _ _ _ (D.gex np) (D.made np) ⟨.list [.int x], .lst upd_same (.cons (.int x) .nil), shw_lst (shw_one hs) (by decide) (by decide), fun n e => nomatch e⟩⟩
theorem evd_oddE {b : Int} (D : DkT T G d H) : EvD T d (tTup tNil) σ G H (OddV b) := fun Q q =>
  ⟨by show 0 ≤ sizeLine; decide, fun p np => q _ _ _ (D.gex np) (D.made np) ⟨.tuple [], .tup upd_same .nil, shw_tup (ShL.nil (p := 0)) (by decide) (by decide), fun n e => nomatch e⟩⟩
theorem evd_oddD {b : Int} (D : DkT T G d H) : EvD T d tDNewK σ G H (OddV b) := fun Q q =>
  fun p np => q _ _ _ (D.gex np) (D.made np) ⟨.dict [], .dct upd_same .nil, ⟨rfl, rfl, by decide, by decide⟩, fun n e => nomatch e⟩
theorem evd_oddU {f : Int → V} {i j b : Int} (D : DkT T G d H) (e : f i = .int j) (h : j ≤ b) (hs : j.natAbs < 2 ^ 1900) : EvD T d (tUn (rU f) (tC (.int i))) σ G H (OddV b) := fun Q q =>
  ⟨_, rfl, by rw [e]; exact q _ G H (Ex.refl _) D ⟨.int j, .int j, shw_int hs, fun n e => by injection e with e; omega⟩⟩
theorem evd_oddUV {f : Int → V} {i : Nat} {x j b : Int} (D : DkT T G d H) (hi : σ[i]? = some (some (.int x))) (e : f x = .int j) (h : j ≤ b) (hs : j.natAbs < 2 ^ 1900) : EvD T d (tUn (rU f) (tVar i)) σ G H (OddV b) := fun Q q =>
  ⟨_, hi, _, rfl, by rw [e]; exact q _ G H (Ex.refl _) D ⟨.int j, .int j, shw_int hs, fun n e => by injection e with e; omega⟩⟩
theorem evd_oddV {i : Nat} {x b : Int} (D : DkT T G d H) (hi : σ[i]? = some (some (.int x))) (h : x ≤ b) (hs : x.natAbs < 2 ^ 1900) : EvD T d (tVar i) σ G H (OddV b) := evd_var D hi ⟨.int x, .int x, shw_int hs, fun n e => by injection e with e; omega⟩
theorem evd_oddM {i : Nat} {x y b : Int} (D : DkT T G d H) (hi : σ[i]? = some (some (.int x))) (h : x - y ≤ b) (hs : (x - y).natAbs < 2 ^ 1900) : EvD T d (tOp (rI0 fun i j => V.int (i - j)) (tVar i) (tC (.int y))) σ G H (OddV b) := fun Q q =>
  ⟨_, hi, _, _, rfl, rfl, q _ G H (Ex.refl _) D ⟨.int (x - y), .int _, shw_int hs, fun n e => by injection e with e; omega⟩⟩
end
end K81

set_option exponentiation.threshold 3000
namespace K81
open PySem PySem.Spec PyProof.Rows L2 Hr HrM Evl HrE_thing LamX RZ
theorem w_7 : (PyData.str "7").showable = true ∧ (PyData.str "7").leavesShort 1921 = true ∧ (PyData.str "7").bulk ≤ 10 := by decide +kernel
theorem w_3 : (PyData.str "3").showable = true ∧ (PyData.str "3").leavesShort 1921 = true ∧ (PyData.str "3").bulk ≤ 10 := by decide +kernel
def sp_law (K : PySem.W.Frag) (P1 P2 : Addr) : Sp := fun vs H Q _ => ∃ (a : Addr) (ns : List Int), vs = [.ref a] ∧ SqL K H a (ns.map V.int) ∧ ns.length ≤ 63 ∧ (∀ p ∈ lamT P1 P2, H p.1 = some (.tbl #[])) ∧ ∀ H', Q (.bl true) H'
theorem sm_n {n : Nat} (h : n < 2 ^ 105) : ((n : Int)).natAbs < 2 ^ 1900 := by
  rw [Int.natAbs_natCast]
  exact pow_lt h (by decide)
section
variable {P : Program} {w : World} {K : PySem.W.Frag} {mg : Str → Option Value} {base : Heap}
theorem ok_law (T : Txt K mg) (TB1 : TabB base mg T.c_greatest_top T.P_greatest_top) (TB2 : TabB base mg T.c_l_is_right T.P_l_is_right) : FnG P w K mg base CX0 11 T.f_law T.d_law ["script"] (sp_law K T.P_greatest_top T.P_l_is_right) := by
  have F_l_deck := ok_deck (P := P) (w := w) (base := base) T
  have F_l_draw := (ok_draw (P := P) (w := w) (base := base) T).imp (drawT (T := tabs T))
  have F_l_pick := (ok_pick (P := P) (w := w) (base := base) T).imp (pickT (T := tabs T))
  have F_l_is_right := ok_is_right (P := P) (w := w) (base := base) T TB2
  have F_l_are_ends_right := ok_are_ends_right (P := P) (w := w) (base := base) T TB1
  refine okG T.U_law sc_law (fun vs H Q E h => ?_) (fun cdv A outer s H vs Q E hr gg h => ?_)
  · obtain ⟨_, _, rfl, _⟩ := h
    rfl
  · obtain ⟨a, sc, rfl, hS, hl, hP, q⟩ := h
    refine ⟨_, (pss_cons (ps_set (i := 1) sc_law.nd rfl (.inl rfl) (pe_call F_l_deck (hr.mono (by decide)) (by rfl) T.g_l_deck T.k_l_deck T.b_l_deck .nil pass0 (pa_cons (pv 0) pa_nil)))
  (pss_cons (ps_for PassesOwn.never rfl (pi_range1 rfl T.n_range (pa_cons pe_int pa_nil)) (pg_name (i := 2) sc_law.nd rfl (.inl rfl)) (pss_cons (ps_set (i := 3) sc_law.nd rfl (.inl rfl) (pe_call F_l_pick (hr.mono (by decide)) (by rfl) T.g_l_pick T.k_l_pick T.b_l_pick .nil pass0 (pa_cons (pv 1) (pa_cons (pe_lst (pa_cons pe_int (pa_cons pe_int (pa_cons pe_int (pa_cons pe_int (pa_cons pe_int (pa_cons pe_int (pa_cons pe_int (pa_cons (pe_op op_add pe_int (pe_call F_l_draw (hr.mono (by decide)) (by rfl) T.g_l_draw T.k_l_draw T.b_l_draw .nil pass0 (pa_cons (pv 1) (pa_cons pe_int pa_nil)))) (pa_cons pe_int pa_nil)))))))))) pa_nil))))
  (pss_cons (ps_set (i := 4) sc_law.nd rfl (.inl rfl) (pe_op op_add (pe_op op_add (pv 3) pe_int) (pe_call F_l_pick (hr.mono (by decide)) (by rfl) T.g_l_pick T.k_l_pick T.b_l_pick .nil pass0 (pa_cons (pv 1) (pa_cons (pe_lst (pa_cons pe_int (pa_cons pe_int (pa_cons pe_int (pa_cons (pe_call F_l_draw (hr.mono (by decide)) (by rfl) T.g_l_draw T.k_l_draw T.b_l_draw .nil pass0 (pa_cons (pv 1) (pa_cons pe_int pa_nil))) (pa_cons (pe_call F_l_draw (hr.mono (by decide)) (by rfl) T.g_l_draw T.k_l_draw T.b_l_draw .nil pass0 (pa_cons (pv 1) (pa_cons pe_int pa_nil))) (pa_cons (pe_call F_l_draw (hr.mono (by decide)) (by rfl) T.g_l_draw T.k_l_draw T.b_l_draw .nil pass0 (pa_cons (pv 1) (pa_cons (pe_op op_pow pe_int pe_int) pa_nil))) pa_nil))))))) pa_nil)))))
  (pss_cut (ps_if (pt_cmpR op_eq (pe_call F_l_draw (hr.mono (by decide)) (by rfl) T.g_l_draw T.k_l_draw T.b_l_draw .nil pass0 (pa_cons (pv 1) (pa_cons pe_int pa_nil))) pe_int (nomark _)) (pss_one (ps_set (i := 4) sc_law.nd rfl (.inl rfl) (pe_call F_l_pick (hr.mono (by decide)) (by rfl) T.g_l_pick T.k_l_pick T.b_l_pick .nil pass0 (pa_cons (pv 1) (pa_cons (pe_lst (pa_cons (pe_op op_sub (pe_op op_pow pe_int pe_int) pe_int) (pa_cons (pe_op op_add (pe_op op_pow pe_int pe_int) (pe_call F_l_draw (hr.mono (by decide)) (by rfl) T.g_l_draw T.k_l_draw T.b_l_draw .nil pass0 (pa_cons (pv 1) (pa_cons pe_int pa_nil)))) (pa_cons (pe_op op_add (pe_op op_pow pe_int pe_int) (pe_call F_l_draw (hr.mono (by decide)) (by rfl) T.g_l_draw T.k_l_draw T.b_l_draw .nil pass0 (pa_cons (pv 1) (pa_cons (pe_op op_pow pe_int pe_int) pa_nil)))) pa_nil)))) pa_nil))))) pss_nil)
  (pss_cons (ps_if (PW.pt (pw_or (pt_not (pt_val (pe_callG F_l_is_right (hr.mono (by decide)) gg (by rfl) T.g_l_is_right T.k_l_is_right T.b_l_is_right .nil pass0 (pa_cons (pv 4) (pa_cons (pv 3) pa_nil))))) (pw_or1 (pt_not (pt_val (pe_callG F_l_are_ends_right (hr.mono (by decide)) gg (by rfl) T.g_l_are_ends_right T.k_l_are_ends_right T.b_l_are_ends_right .nil pass0 (pa_cons (pv 4) (pa_cons (pv 3) pa_nil)))))))) (pss_one (ps_ret pe_bl)) pss_nil)
  (pss_cons (ps_set (i := 5) sc_law.nd rfl (.inl rfl) (pe_lst (pa_cons (pe_un un_neg pe_int) (pa_cons pe_bl (pa_cons pe_bl (pa_cons pe_non (pa_cons pe_str (pa_cons (pe_tup (pa_cons pe_int pa_nil)) (pa_cons (pe_lst (pa_cons (pv 4) pa_nil)) (pa_cons pe_dnewK (pa_cons pe_int (pa_cons pe_int (pa_cons (pv 3) (pa_cons (pe_op op_sub (pv 3) pe_int) (pa_cons (pe_tup pa_nil) (pa_cons (pe_un un_neg (pv 4)) pa_nil))))))))))))))))
  (pss_cons (ps_set (i := 6) sc_law.nd rfl (.inl rfl) (pe_lst (pa_cons pe_int (pa_cons pe_int (pa_cons (pe_un un_neg pe_int) (pa_cons pe_bl (pa_cons pe_non (pa_cons pe_str (pa_cons (pe_tup (pa_cons pe_int pa_nil)) (pa_cons (pe_lst (pa_cons (pv 3) pa_nil)) (pa_cons pe_dnewK (pa_cons (pe_tup pa_nil) (pa_cons pe_bl pa_nil)))))))))))))
  (pss_cons (ps_par rfl sc_law.nd (i := 7) (j := 8) rfl rfl (by decide) rfl rfl (pa_cons (pe_call F_l_pick (hr.mono (by decide)) (by rfl) T.g_l_pick T.k_l_pick T.b_l_pick .nil pass0 (pa_cons (pv 1) (pa_cons (pv 5) pa_nil))) (pa_cons (pe_call F_l_pick (hr.mono (by decide)) (by rfl) T.g_l_pick T.k_l_pick T.b_l_pick .nil pass0 (pa_cons (pv 1) (pa_cons (pv 6) pa_nil))) pa_nil)) (by rfl))
  (pss_one (ps_if (PW.pt (pw_or (pt_not (pt_val (pe_callG F_l_is_right (hr.mono (by decide)) gg (by rfl) T.g_l_is_right T.k_l_is_right T.b_l_is_right .nil pass0 (pa_cons (pv 7) (pa_cons (pv 3) pa_nil))))) (pw_or (pt_not (pt_val (pe_callG F_l_is_right (hr.mono (by decide)) gg (by rfl) T.g_l_is_right T.k_l_is_right T.b_l_is_right .nil pass0 (pa_cons (pv 4) (pa_cons (pv 8) pa_nil))))) (pw_or1 (pt_not (pt_val (pe_callG F_l_is_right (hr.mono (by decide)) gg (by rfl) T.g_l_is_right T.k_l_is_right T.b_l_is_right .nil pass0 (pa_cons (pv 7) (pa_cons (pv 8) pa_nil))))))))) (pss_one (ps_ret pe_bl)) pss_nil))))))))))
  (pss_one (ps_ret pe_bl)))), ?_⟩
    have hT0 : Tabs (tabs T) H := Tabs.nil hP
    refine ⟨_, rfl, a, sc, rfl, hS, hl, fun d H1 k1 => ?_⟩
    refine ⟨3, rfl, by decide, by decide, ?_⟩
    refine for_range (lo := 0) (n := 3) (fun i σ' H' => ∃ (y2 y3 y4 y5 y6 y7 y8 : Option V) (G : Hp), σ' = [some (.ref a), some (.ref d), y2, y3, y4, y5, y6, y7, y8] ∧ DkT (tabs T) G d H') ⟨none, none, none, none, none, none, none, nt H, rfl, DkT.start k1 hT0⟩ ?_ ?_
    · rintro i σ' H2 hi ⟨y2, y3, y4, y5, y6, y7, y8, G, rfl, D⟩
      dsimp only [gName]
      -- d
      refine r_seq (r_set ?_)
      refine evd_pickI (T := tabs T) (G := G) (d := d) (R := NatV 2 16) (k := 9) rfl (evd_lst (nat_more 2 16)
        (evds_cons (nat_more 2 16) (evd_nat D ⟨2, rfl, by decide, by decide⟩) fun G1 H1 _ D1 =>
        evds_cons (nat_more 2 16) (evd_nat D1 ⟨3, rfl, by decide, by decide⟩) fun G1 H1 _ D1 =>
        evds_cons (nat_more 2 16) (evd_nat D1 ⟨4, rfl, by decide, by decide⟩) fun G1 H1 _ D1 =>
        evds_cons (nat_more 2 16) (evd_nat D1 ⟨5, rfl, by decide, by decide⟩) fun G1 H1 _ D1 =>
        evds_cons (nat_more 2 16) (evd_nat D1 ⟨6, rfl, by decide, by decide⟩) fun G1 H1 _ D1 =>
        evds_cons (nat_more 2 16) (evd_nat D1 ⟨7, rfl, by decide, by decide⟩) fun G1 H1 _ D1 =>
        evds_cons (nat_more 2 16) (evd_nat D1 ⟨8, rfl, by decide, by decide⟩) fun G1 H1 _ D1 =>
        evds_cons (nat_more 2 16) (evd_add (a := 2) (b := 2) (evd_nat D1 ⟨2, rfl, by decide, by decide⟩) (fun G1 H1 _ D1 => evd_draw (m := 15) rfl D1 (by decide) (by decide)) (by decide) (by decide)) fun G1 H1 _ D1 =>
        evds_cons (nat_more 2 16) (evd_nat D1 ⟨16, rfl, by decide, by decide⟩) fun G1 H1 _ D1 =>
        evds_nil D1) (by decide)) (by decide) (by decide) _ fun v3 G3 H3 e3 D3 ⟨k, ek, k2, k16⟩ => ?_
      subst ek
      clear D e3
      dsimp only [gName]
      -- n
      refine r_seq (r_set ?_)
      refine ⟨_, rfl, _, _, rfl, rfl, ?_⟩
      refine evd_pickI (T := tabs T) (G := G3) (d := d) (R := NatV 0 1000000) (k := 6) rfl (evd_lst (nat_more 0 1000000)
        (evds_cons (nat_more 0 1000000) (evd_nat D3 ⟨0, rfl, by decide, by decide⟩) fun G1 H1 _ D1 =>
        evds_cons (nat_more 0 1000000) (evd_nat D1 ⟨1, rfl, by decide, by decide⟩) fun G1 H1 _ D1 =>
        evds_cons (nat_more 0 1000000) (evd_nat D1 ⟨2, rfl, by decide, by decide⟩) fun G1 H1 _ D1 =>
        evds_cons (nat_more 0 1000000) ((evd_draw (m := 9) rfl D1 (by decide) (by decide)).mono fun _ _ _ ⟨x, a, b, c⟩ => ⟨x, a, b, by omega⟩) fun G1 H1 _ D1 =>
        evds_cons (nat_more 0 1000000) ((evd_draw (m := 1000) rfl D1 (by decide) (by decide)).mono fun _ _ _ ⟨x, a, b, c⟩ => ⟨x, a, b, by omega⟩) fun G1 H1 _ D1 =>
        evds_cons (nat_more 0 1000000) ((evd_drawP (a := 10) (b := 6) (m := 1000000) rfl D1 ⟨by decide, by decide, by decide⟩ (by decide +kernel) (by decide) (by decide)).mono fun _ _ _ ⟨x, a, b, c⟩ => ⟨x, a, b, by omega⟩) fun G1 H1 _ D1 =>
        evds_nil D1) (by decide)) (by decide) (by decide) _ fun v4 G4 H4 e4 D4 ⟨x, ex, x0, x6⟩ => ?_
      subst ex
      refine ⟨_, _, rfl, rfl, ?_⟩
      dsimp only [gName]
      clear D3 e4
      -- great n
      refine ⟨fun σ' H' => ∃ (r : Nat) (G' : Hp), r < 2 ^ 104 ∧ σ' = [some (.ref a), some (.ref d), some (.int (0 + (i : Int))), some (.int (k : Int)), some (.int ((r + k + 1 : Nat) : Int)), y5, y6, y7, y8] ∧ DkT (tabs T) G' d H', ?_, ?_⟩
      · refine evd_draw (T := tabs T) (G := G4) (d := d) (m := 3) rfl D4 (by decide) (by decide) _ fun v5 G5 H5 e5 D5 ⟨z, ez, _, _⟩ => ?_
        subst ez
        refine ⟨rfl, _, rfl, ?_⟩
        by_cases hz : z = 0
        · subst hz
          refine ite_yes (decide_eq_true rfl) ?_
          refine evd_pickI (T := tabs T) (G := G5) (d := d) (R := NatV (10 ^ 15) (10 ^ 30)) (k := 3) rfl (evd_lst (nat_more _ _)
            (evds_cons (nat_more _ _) (fun Q q => ⟨_, _, rfl, rfl, ⟨by decide, by decide, by decide⟩, _, _, rfl, rfl, q _ G5 H5 (Ex.refl _) D5 ⟨10 ^ 30 - 2, by exact congrArg V.int (by decide +kernel), by decide +kernel, by decide +kernel⟩⟩) fun G1 H1 _ D1 =>
            evds_cons (nat_more _ _) (evd_add (a := 10 ^ 29) (b := 10 ^ 29) (evd_pow (a := 10) (b := 29) (m := 10 ^ 29) D1 ⟨by decide, by decide, by decide⟩ (by decide +kernel) (Nat.le_refl _) (Nat.le_refl _)) (fun G1 H1 _ D1 => evd_draw (m := 1000) rfl D1 (by decide) (by decide)) (by decide +kernel) (by decide +kernel)) fun G1 H1 _ D1 =>
            evds_cons (nat_more _ _) (evd_add (a := 10 ^ 15) (b := 10 ^ 15) (evd_pow (a := 10) (b := 15) (m := 10 ^ 15) D1 ⟨by decide, by decide, by decide⟩ (by decide +kernel) (Nat.le_refl _) (Nat.le_refl _)) (fun G1 H1 _ D1 => evd_drawP (a := 10) (b := 9) (m := 1000000000) rfl D1 ⟨by decide, by decide, by decide⟩ (by decide +kernel) (by decide) (by decide)) (by decide +kernel) (by decide +kernel)) fun G1 H1 _ D1 =>
            evds_nil D1) (by decide)) (by decide) (by decide) _ fun v6 G6 H6 e6 D6 ⟨n, en, n15, n30⟩ => ?_
          subst en
          have h15 : (17 : Nat) ≤ 10 ^ 15 := by decide +kernel
          have h30 : (10 : Nat) ^ 30 < 2 ^ 104 := by decide +kernel
          exact ⟨n - k - 1, G6, by omega, by rw [show n - k - 1 + k + 1 = n by omega]; rfl, D6⟩
        · refine ite_no (decide_eq_false fun h => hz (by injection h with h; omega)) ?_
          have hb : 1000000 < 2 ^ 104 := by decide +kernel
          refine ⟨x, G5, by omega, ?_, D5⟩
          rw [show ((x + k + 1 : Nat) : Int) = (k : Int) + 1 + (x : Int) by omega]
          rfl
      clear D4
      rintro σ' H5 ⟨r, G5, hr105, rfl, D5⟩
      have hbig : (2 : Nat) ^ 105 = 2 * 2 ^ 104 := Nat.pow_succ'
      have hbig2 : (2 : Nat) ^ 110 = 64 * 2 ^ 104 := Nat.pow_add 2 6 104
      have h17 : (17 : Nat) < 2 ^ 104 := by decide +kernel
      have hn105 : r + k + 1 < 2 ^ 105 := by omega
      have hns := sm_n hn105
      have hks : ((k : Int)).natAbs < 2 ^ 1900 := sm_n (by omega)
      have ask1 : Asked (.int ((r + k + 1 : Nat) : Int)) (.int (k : Int)) := fun n m en em _ _ _ => by
        injection en with en
        injection em with em
        exact ⟨by omega, by
          rw [← en]
          have : ((r + k + 1 : Nat) : Int) < ((2 ^ 110 : Nat) : Int) := by omega
          have e : ((2 ^ 110 : Nat) : Int) = (2 : Int) ^ 110 := by norm_cast
          rw [← e]
          exact this⟩
      refine ⟨_, rfl, _, rfl, .int _, .int _, _, _, rfl, .int _, .int _, shw_int hns, shw_int hks, ask1, D5.t, fun H6 e6 t6 => ⟨_, rfl, iteF ?_⟩⟩
      have D6 := D5.moreK ⟨e6, fun _ => t6⟩
      refine ⟨_, rfl, _, rfl, r, k, rfl, k2, k16, by omega, D6.t, fun H7 e7 => ⟨_, rfl, iteF ?_⟩⟩
      have D7 := D6.moreK e7
      dsimp only [tNext]
      clear D5 D6 e6 t6 e7
      generalize hnn : ((r + k + 1 : Nat) : Int) = nn at hns
      have nn0 : 0 ≤ nn := by omega
      have h1s : ∀ z : Int, z.natAbs ≤ 100 → z.natAbs < 2 ^ 1900 := fun z h => Nat.lt_of_le_of_lt h (Nat.lt_of_lt_of_le (show 100 < 2 ^ 7 by decide) (Nat.pow_le_pow_right (by decide) (by decide)))
      refine r_seq (r_set ?_)
      refine evd_lst (T := tabs T) (d := d) (G := G5) (odd_more (k : Int)) (k := 14)
        (evds_cons (odd_more _) (evd_oddU (f := fun i => .int (-i)) (i := 1) (j := -1) D7 rfl (by omega) (h1s _ (by decide))) fun G1 H1 _ D1 =>
        evds_cons (odd_more _) (evd_oddB D1) fun G1 H1 _ D1 =>
        evds_cons (odd_more _) (evd_oddB D1) fun G1 H1 _ D1 =>
        evds_cons (odd_more _) (evd_oddN D1) fun G1 H1 _ D1 =>
        evds_cons (odd_more _) (evd_oddS D1 w_7) fun G1 H1 _ D1 =>
        evds_cons (odd_more _) (evd_oddT (i := 7) D1 (h1s _ (by decide))) fun G1 H1 _ D1 =>
        evds_cons (odd_more _) (evd_oddL (i := 4) (x := nn) D1 rfl hns) fun G1 H1 _ D1 =>
        evds_cons (odd_more _) (evd_oddD D1) fun G1 H1 _ D1 =>
        evds_cons (odd_more _) (evd_oddI (i := 0) D1 (by omega) (h1s _ (by decide))) fun G1 H1 _ D1 =>
        evds_cons (odd_more _) (evd_oddI (i := 1) D1 (by omega) (h1s _ (by decide))) fun G1 H1 _ D1 =>
        evds_cons (odd_more _) (evd_oddV (i := 3) (x := (k : Int)) D1 rfl (Int.le_refl _) hks) fun G1 H1 _ D1 =>
        evds_cons (odd_more _) (evd_oddM (i := 3) (x := (k : Int)) (y := 1) D1 rfl (by omega) (h1s _ (by omega))) fun G1 H1 _ D1 =>
        evds_cons (odd_more _) (evd_oddE D1) fun G1 H1 _ D1 =>
        evds_cons (odd_more _) (evd_oddUV (f := fun i => .int (-i)) (i := 4) (x := nn) (j := -nn) D1 rfl rfl (by omega) (by rw [Int.natAbs_neg]; exact hns)) fun G1 H1 _ D1 =>
        evds_nil D1) (by decide) _ fun some G8 H8 e8 D8 hsome => ?_
      dsimp only [gName]
      refine r_seq (r_set ?_)
      refine evd_lst (T := tabs T) (d := d) (G := G8) (odd_more 1) (k := 11)
        (evds_cons (odd_more _) (evd_oddI (i := 0) D8 (by decide) (h1s _ (by decide))) fun G1 H1 _ D1 =>
        evds_cons (odd_more _) (evd_oddI (i := 1) D1 (by decide) (h1s _ (by decide))) fun G1 H1 _ D1 =>
        evds_cons (odd_more _) (evd_oddU (f := fun i => .int (-i)) (i := 2) (j := -2) D1 rfl (by decide) (h1s _ (by decide))) fun G1 H1 _ D1 =>
        evds_cons (odd_more _) (evd_oddB D1) fun G1 H1 _ D1 =>
        evds_cons (odd_more _) (evd_oddN D1) fun G1 H1 _ D1 =>
        evds_cons (odd_more _) (evd_oddS D1 w_3) fun G1 H1 _ D1 =>
        evds_cons (odd_more _) (evd_oddT (i := 3) D1 (h1s _ (by decide))) fun G1 H1 _ D1 =>
        evds_cons (odd_more _) (evd_oddL (i := 3) (x := (k : Int)) D1 rfl hks) fun G1 H1 _ D1 =>
        evds_cons (odd_more _) (evd_oddD D1) fun G1 H1 _ D1 =>
        evds_cons (odd_more _) (evd_oddE D1) fun G1 H1 _ D1 =>
        evds_cons (odd_more _) (evd_oddB D1) fun G1 H1 _ D1 =>
        evds_nil D1) (by decide) _ fun odd G9 H9 e9 D9 hodd => ?_
      dsimp only [gName]
      refine r_seq ?_
      refine evd_pickI (T := tabs T) (G := G9) (d := d) (R := OddV (k : Int)) (k := 14) rfl (evd_var D9 rfl (hsome.more (odd_more _) e9)) (by decide) (by decide) _ fun one G10 H10 e10 D10 ⟨pd1, dx1, sh1, le1⟩ => ?_
      refine evd_pickI (T := tabs T) (G := G10) (d := d) (R := OddV 1) (k := 11) rfl (evd_var D10 rfl (hodd.more (odd_more _) e10)) (by decide) (by decide) _ fun other G11 H11 e11 D11 ⟨pd2, dx2, sh2, le2⟩ => ?_
      refine ⟨_, _, rfl, ?_⟩
      have ask : ∀ (p1 p2 : PyData), (∀ n : Int, p2 = .int n → n ≤ 1) → Asked p1 p2 := fun p1 p2 h n m en em _ h2 _ => by
        have := h m em
        omega
      have ask2 : Asked pd1 (.int (k : Int)) := fun n m en em _ _ h => by
        injection em with em
        have := le1 n en
        omega
      have dx1' := (dx1.more e11).more D11.k.ex
      have dx2' := dx2.more D11.k.ex
      refine ⟨_, rfl, _, rfl, one, .int _, pd1, _, rfl, dx1', .int _, sh1, shw_int hks, ask2, D11.t, fun H12 e12 t12 => ⟨_, rfl, iteF ?_⟩⟩
      refine ⟨_, rfl, _, rfl, .int _, other, _, pd2, rfl, .int _, dx2'.moreN e12, shw_int hns, sh2, ask _ _ le2, t12, fun H13 e13 t13 => ⟨_, rfl, iteF ?_⟩⟩
      refine ⟨_, rfl, _, rfl, one, other, pd1, pd2, rfl, (dx1'.moreN e12).moreN e13, (dx2'.moreN e12).moreN e13, sh1, sh2, ask _ _ le2, t13, fun H14 e14 t14 => ⟨_, rfl, iteF ?_⟩⟩
      dsimp only [tNext]
      exact ⟨_, _, _, _, _, _, _, G11, rfl, ((D11.moreK ⟨e12, fun _ => t12⟩).moreK ⟨e13, fun _ => t13⟩).moreK ⟨e14, fun _ => t14⟩⟩
    · rintro σ' H2 ⟨y2, y3, y4, y5, y6, y7, y8, G, rfl, D⟩
      exact q H2
end
end K81

namespace K81
open PySem PySem.Spec PyProof.Rows L2 Hr HrM Evl HrE_thing LamX PySem.W
theorem all_mk {l : PySem.W.OpenLaw} {pq : Program} {lo : List Str} {me : ExcName → Option Value} {w : World} {K : PySem.W.Frag} {h : Heap} {mg mb : Str → Option Value} {fa : Addr} (X : K.In h) (Tp : Top pq lo me mg mb h) (hfa : mg "law" = some (.ref fa))
    {f0 : Addr} {od0 an0 : Option Addr} {sl0 : Array (Option Value)} {oc0 kV0 dc0 pm0 cd0 ct0 : Value}
    {f1 : Addr} {od1 an1 : Option Addr} {sl1 : Array (Option Value)} {oc1 kV1 dc1 pm1 cd1 ct1 : Value}
    {f2 : Addr} {od2 an2 : Option Addr} {sl2 : Array (Option Value)} {oc2 kV2 dc2 pm2 cd2 ct2 : Value}
    {f3 : Addr} {od3 an3 : Option Addr} {sl3 : Array (Option Value)} {oc3 kV3 dc3 pm3 cd3 ct3 : Value}
    {f4 : Addr} {od4 an4 : Option Addr} {sl4 : Array (Option Value)} {oc4 kV4 dc4 pm4 cd4 ct4 : Value}
    {f5 : Addr} {od5 an5 : Option Addr} {sl5 : Array (Option Value)} {oc5 kV5 dc5 pm5 cd5 ct5 : Value}
    {f6 : Addr} {od6 an6 : Option Addr} {sl6 : Array (Option Value)} {oc6 kV6 dc6 pm6 cd6 ct6 : Value}
    {f7 : Addr} {od7 an7 : Option Addr} {sl7 : Array (Option Value)} {oc7 kV7 dc7 pm7 cd7 ct7 : Value}
    {f8 : Addr} {od8 an8 : Option Addr} {sl8 : Array (Option Value)} {oc8 kV8 dc8 pm8 cd8 ct8 : Value}
    {f9 : Addr} {od9 an9 : Option Addr} {sl9 : Array (Option Value)} {oc9 kV9 dc9 pm9 ct9 : Value}
    {lc0 P0 : Addr} {ob0 : Value} {oe0 : Option Addr} {vs0 : Array Value} {of0 : Array (Option Value)}
    {f10 : Addr} {od10 an10 : Option Addr} {sl10 : Array (Option Value)} {oc10 kV10 dc10 pm10 cd10 ct10 : Value}
    {f11 : Addr} {od11 an11 : Option Addr} {sl11 : Array (Option Value)} {oc11 kV11 dc11 pm11 cd11 ct11 : Value}
    {f12 : Addr} {od12 an12 : Option Addr} {sl12 : Array (Option Value)} {oc12 kV12 dc12 pm12 cd12 ct12 : Value}
    {f13 : Addr} {od13 an13 : Option Addr} {sl13 : Array (Option Value)} {oc13 kV13 dc13 pm13 cd13 ct13 : Value}
    {f14 : Addr} {od14 an14 : Option Addr} {sl14 : Array (Option Value)} {oc14 kV14 dc14 pm14 cd14 ct14 : Value}
    {f15 : Addr} {od15 an15 : Option Addr} {sl15 : Array (Option Value)} {oc15 kV15 dc15 pm15 cd15 ct15 : Value}
    {f16 : Addr} {od16 an16 : Option Addr} {sl16 : Array (Option Value)} {oc16 kV16 dc16 pm16 cd16 ct16 : Value}
    {f17 : Addr} {od17 an17 : Option Addr} {sl17 : Array (Option Value)} {oc17 kV17 dc17 pm17 cd17 ct17 : Value}
    {f18 : Addr} {od18 an18 : Option Addr} {sl18 : Array (Option Value)} {oc18 kV18 dc18 pm18 cd18 ct18 : Value}
    {f19 : Addr} {od19 an19 : Option Addr} {sl19 : Array (Option Value)} {oc19 kV19 dc19 pm19 cd19 ct19 : Value}
    {f20 : Addr} {od20 an20 : Option Addr} {sl20 : Array (Option Value)} {oc20 kV20 dc20 pm20 cd20 ct20 : Value}
    {f21 : Addr} {od21 an21 : Option Addr} {sl21 : Array (Option Value)} {oc21 kV21 dc21 pm21 cd21 ct21 : Value}
    {f22 : Addr} {od22 an22 : Option Addr} {sl22 : Array (Option Value)} {oc22 kV22 dc22 pm22 cd22 ct22 : Value}
    {f23 : Addr} {od23 an23 : Option Addr} {sl23 : Array (Option Value)} {oc23 kV23 dc23 pm23 cd23 ct23 : Value}
    {f24 : Addr} {od24 an24 : Option Addr} {sl24 : Array (Option Value)} {oc24 kV24 dc24 pm24 cd24 ct24 : Value}
    {f25 : Addr} {od25 an25 : Option Addr} {sl25 : Array (Option Value)} {oc25 kV25 dc25 pm25 cd25 ct25 : Value}
    {f26 : Addr} {od26 an26 : Option Addr} {sl26 : Array (Option Value)} {oc26 kV26 dc26 pm26 cd26 ct26 : Value}
    {f27 : Addr} {od27 an27 : Option Addr} {sl27 : Array (Option Value)} {oc27 kV27 dc27 pm27 cd27 ct27 : Value}
    {f28 : Addr} {od28 an28 : Option Addr} {sl28 : Array (Option Value)} {oc28 kV28 dc28 pm28 cd28 ct28 : Value}
    {f29 : Addr} {od29 an29 : Option Addr} {sl29 : Array (Option Value)} {oc29 kV29 dc29 pm29 cd29 ct29 : Value}
    {f30 : Addr} {od30 an30 : Option Addr} {sl30 : Array (Option Value)} {oc30 kV30 dc30 pm30 cd30 ct30 : Value}
    {f31 : Addr} {od31 an31 : Option Addr} {sl31 : Array (Option Value)} {oc31 kV31 dc31 pm31 cd31 ct31 : Value}
    {f32 : Addr} {od32 an32 : Option Addr} {sl32 : Array (Option Value)} {oc32 kV32 dc32 pm32 cd32 ct32 : Value}
    {f33 : Addr} {od33 an33 : Option Addr} {sl33 : Array (Option Value)} {oc33 kV33 dc33 pm33 cd33 ct33 : Value}
    {f34 : Addr} {od34 an34 : Option Addr} {sl34 : Array (Option Value)} {oc34 kV34 dc34 pm34 cd34 ct34 : Value}
    {f35 : Addr} {od35 an35 : Option Addr} {sl35 : Array (Option Value)} {oc35 kV35 dc35 pm35 cd35 ct35 : Value}
    {f36 : Addr} {od36 an36 : Option Addr} {sl36 : Array (Option Value)} {oc36 kV36 dc36 pm36 ct36 : Value}
    {lc1 P1 : Addr} {ob1 : Value} {oe1 : Option Addr} {vs1 : Array Value} {of1 : Array (Option Value)}
    {f37 : Addr} {od37 an37 : Option Addr} {sl37 : Array (Option Value)} {oc37 kV37 dc37 pm37 cd37 ct37 : Value}
    {f38 : Addr} {od38 an38 : Option Addr} {sl38 : Array (Option Value)} {oc38 kV38 dc38 pm38 cd38 ct38 : Value}
    {f39 : Addr} {od39 an39 : Option Addr} {sl39 : Array (Option Value)} {oc39 kV39 dc39 pm39 cd39 ct39 : Value}
    {tk0 : Tok}
    {CT : Addr}
    {X0 J0 : Addr} {xn0 xq0 : Str} {xN0 : Addr} {xb0 : List Value} {xs0 : List Str} {xu0 : List Value} {xa0 : Bool} {xc0 : Option Bool} {xd0 : Option Addr} {w0a w0b w0c w0d w0e : Option Value}
    {ro0 rd0 rp0 rc0 rt0 : Value} {re0 ra0 : Option Addr} {rs0 : Array (Option Value)} {g0a g0b g0c g0d g0e g0f : Pos}
    {X1 J1 : Addr} {xn1 xq1 : Str} {xN1 : Addr} {xb1 : List Value} {xs1 : List Str} {xu1 : List Value} {xa1 : Bool} {xc1 : Option Bool} {xd1 : Option Addr} {w1a w1b w1c w1d w1e : Option Value}
    {ro1 rd1 rp1 rc1 rt1 : Value} {re1 ra1 : Option Addr} {rs1 : Array (Option Value)} {g1a g1b g1c g1d g1e g1f : Pos}
    {X2 J2 : Addr} {xn2 xq2 : Str} {xN2 : Addr} {xb2 : List Value} {xs2 : List Str} {xu2 : List Value} {xa2 : Bool} {xc2 : Option Bool} {xd2 : Option Addr} {w2a w2b w2c w2d w2e : Option Value}
    {ro2 rd2 rp2 rc2 rt2 : Value} {re2 ra2 : Option Addr} {rs2 : Array (Option Value)} {g2a g2b g2c g2d g2e g2f : Pos}
    {X3 J3 : Addr} {xn3 xq3 : Str} {xN3 : Addr} {xb3 : List Value} {xs3 : List Str} {xu3 : List Value} {xa3 : Bool} {xc3 : Option Bool} {xd3 : Option Addr} {w3a w3b w3c w3d w3e : Option Value}
    {ro3 rd3 rp3 rc3 rt3 : Value} {re3 ra3 : Option Addr} {rs3 : Array (Option Value)} {g3a g3b g3c g3d g3e g3f : Pos}
    (a0 : PySem.W.nsIn K mainGlobals "is_integer" = some (some (.ref f0)))
    (l0 : K.lookup f0 = some ⟨oc0, od0, .func (PySem.W.fnOf "is_integer" "is_integer" (defArgs s_is_integer) (defBody s_is_integer) (defScope s_is_integer) .none kV0 dc0 pm0 an0 (cd0) ct0), sl0⟩)
    (c0 : PySem.W.codeIn K (cd0) "is_integer" = true)
    (k0 : PySem.W.keepIn K (.ref f0) = true)
    (a1 : PySem.W.nsIn K mainGlobals "is_integer_from" = some (some (.ref f1)))
    (l1 : K.lookup f1 = some ⟨oc1, od1, .func (PySem.W.fnOf "is_integer_from" "is_integer_from" (defArgs s_is_integer_from) (defBody s_is_integer_from) (defScope s_is_integer_from) .none kV1 dc1 pm1 an1 (cd1) ct1), sl1⟩)
    (c1 : PySem.W.codeIn K (cd1) "is_integer_from" = true)
    (k1 : PySem.W.keepIn K (.ref f1) = true)
    (a2 : PySem.W.nsIn K mainGlobals "are_integers_from" = some (some (.ref f2)))
    (l2 : K.lookup f2 = some ⟨oc2, od2, .func (PySem.W.fnOf "are_integers_from" "are_integers_from" (defArgs s_are_integers_from) (defBody s_are_integers_from) (defScope s_are_integers_from) .none kV2 dc2 pm2 an2 (cd2) ct2), sl2⟩)
    (c2 : PySem.W.codeIn K (cd2) "are_integers_from" = true)
    (k2 : PySem.W.keepIn K (.ref f2) = true)
    (a3 : PySem.W.nsIn K mainGlobals "is_one_of" = some (some (.ref f3)))
    (l3 : K.lookup f3 = some ⟨oc3, od3, .func (PySem.W.fnOf "is_one_of" "is_one_of" (defArgs s_is_one_of) (defBody s_is_one_of) (defScope s_is_one_of) .none kV3 dc3 pm3 an3 (cd3) ct3), sl3⟩)
    (c3 : PySem.W.codeIn K (cd3) "is_one_of" = true)
    (k3 : PySem.W.keepIn K (.ref f3) = true)
    (a4 : PySem.W.nsIn K mainGlobals "is_just" = some (some (.ref f4)))
    (l4 : K.lookup f4 = some ⟨oc4, od4, .func (PySem.W.fnOf "is_just" "is_just" (defArgs s_is_just) (defBody s_is_just) (defScope s_is_just) .none kV4 dc4 pm4 an4 (cd4) ct4), sl4⟩)
    (c4 : PySem.W.codeIn K (cd4) "is_just" = true)
    (k4 : PySem.W.keepIn K (.ref f4) = true)
    (a5 : PySem.W.nsIn K mainGlobals "cascade_of" = some (some (.ref f5)))
    (l5 : K.lookup f5 = some ⟨oc5, od5, .func (PySem.W.fnOf "cascade_of" "cascade_of" (defArgs s_cascade_of) (defBody s_cascade_of) (defScope s_cascade_of) .none kV5 dc5 pm5 an5 (cd5) ct5), sl5⟩)
    (c5 : PySem.W.codeIn K (cd5) "cascade_of" = true)
    (k5 : PySem.W.keepIn K (.ref f5) = true)
    (a6 : PySem.W.nsIn K mainGlobals "upper_products" = some (some (.ref f6)))
    (l6 : K.lookup f6 = some ⟨oc6, od6, .func (PySem.W.fnOf "upper_products" "upper_products" (defArgs s_upper_products) (defBody s_upper_products) (defScope s_upper_products) .none kV6 dc6 pm6 an6 (cd6) ct6), sl6⟩)
    (c6 : PySem.W.codeIn K (cd6) "upper_products" = true)
    (k6 : PySem.W.keepIn K (.ref f6) = true)
    (a7 : PySem.W.nsIn K mainGlobals "check_number" = some (some (.ref f7)))
    (l7 : K.lookup f7 = some ⟨oc7, od7, .func (PySem.W.fnOf "check_number" "check_number" (defArgs s_check_number) (defBody s_check_number) (defScope s_check_number) .none kV7 dc7 pm7 an7 (cd7) ct7), sl7⟩)
    (c7 : PySem.W.codeIn K (cd7) "check_number" = true)
    (k7 : PySem.W.keepIn K (.ref f7) = true)
    (a8 : PySem.W.nsIn K mainGlobals "check_size" = some (some (.ref f8)))
    (l8 : K.lookup f8 = some ⟨oc8, od8, .func (PySem.W.fnOf "check_size" "check_size" (defArgs s_check_size) (defBody s_check_size) (defScope s_check_size) .none kV8 dc8 pm8 an8 (cd8) ct8), sl8⟩)
    (c8 : PySem.W.codeIn K (cd8) "check_size" = true)
    (k8 : PySem.W.keepIn K (.ref f8) = true)
    (a9 : PySem.W.nsIn K mainGlobals "greatest_top" = some (some (.ref f9)))
    (l9 : K.lookup f9 = some ⟨oc9, od9, .func (PySem.W.fnOf "greatest_top" "greatest_top" (defArgs s_greatest_top) (defBody s_greatest_top) (defScope s_greatest_top) .none kV9 dc9 pm9 an9 (.ref lc0) ct9), sl9⟩)
    (c9 : PySem.W.codeIn K (.ref lc0) "greatest_top" = true)
    (k9 : PySem.W.keepIn K (.ref f9) = true)
    (lk0 : K.lookup lc0 = some ⟨ob0, oe0, .fields vs0, of0⟩)
    (hv0 : vs0[11]? = some (.ref P0))
    (np0 : K.lookup P0 = none)
    (ch0 : PySem.W.codeHdIn K lc0 P0 = true)
    (ht0 : h.get? P0 = some (PySem.W.tabObj #[]))
    (a10 : PySem.W.nsIn K mainGlobals "greatest_within" = some (some (.ref f10)))
    (l10 : K.lookup f10 = some ⟨oc10, od10, .func (PySem.W.fnOf "greatest_within" "greatest_within" (defArgs s_greatest_within) (defBody s_greatest_within) (defScope s_greatest_within) .none kV10 dc10 pm10 an10 (cd10) ct10), sl10⟩)
    (c10 : PySem.W.codeIn K (cd10) "greatest_within" = true)
    (k10 : PySem.W.keepIn K (.ref f10) = true)
    (a11 : PySem.W.nsIn K mainGlobals "moved_sum" = some (some (.ref f11)))
    (l11 : K.lookup f11 = some ⟨oc11, od11, .func (PySem.W.fnOf "moved_sum" "moved_sum" (defArgs s_moved_sum) (defBody s_moved_sum) (defScope s_moved_sum) .none kV11 dc11 pm11 an11 (cd11) ct11), sl11⟩)
    (c11 : PySem.W.codeIn K (cd11) "moved_sum" = true)
    (k11 : PySem.W.keepIn K (.ref f11) = true)
    (a12 : PySem.W.nsIn K mainGlobals "is_counts" = some (some (.ref f12)))
    (l12 : K.lookup f12 = some ⟨oc12, od12, .func (PySem.W.fnOf "is_counts" "is_counts" (defArgs s_is_counts) (defBody s_is_counts) (defScope s_is_counts) .none kV12 dc12 pm12 an12 (cd12) ct12), sl12⟩)
    (c12 : PySem.W.codeIn K (cd12) "is_counts" = true)
    (k12 : PySem.W.keepIn K (.ref f12) = true)
    (a13 : PySem.W.nsIn K mainGlobals "check_counts" = some (some (.ref f13)))
    (l13 : K.lookup f13 = some ⟨oc13, od13, .func (PySem.W.fnOf "check_counts" "check_counts" (defArgs s_check_counts) (defBody s_check_counts) (defScope s_check_counts) .none kV13 dc13 pm13 an13 (cd13) ct13), sl13⟩)
    (c13 : PySem.W.codeIn K (cd13) "check_counts" = true)
    (k13 : PySem.W.keepIn K (.ref f13) = true)
    (a14 : PySem.W.nsIn K mainGlobals "check_some_counts" = some (some (.ref f14)))
    (l14 : K.lookup f14 = some ⟨oc14, od14, .func (PySem.W.fnOf "check_some_counts" "check_some_counts" (defArgs s_check_some_counts) (defBody s_check_some_counts) (defScope s_check_some_counts) .none kV14 dc14 pm14 an14 (cd14) ct14), sl14⟩)
    (c14 : PySem.W.codeIn K (cd14) "check_some_counts" = true)
    (k14 : PySem.W.keepIn K (.ref f14) = true)
    (a15 : PySem.W.nsIn K mainGlobals "h_row" = some (some (.ref f15)))
    (l15 : K.lookup f15 = some ⟨oc15, od15, .func (PySem.W.fnOf "h_row" "h_row" (defArgs s_h_row) (defBody s_h_row) (defScope s_h_row) .none kV15 dc15 pm15 an15 (cd15) ct15), sl15⟩)
    (c15 : PySem.W.codeIn K (cd15) "h_row" = true)
    (k15 : PySem.W.keepIn K (.ref f15) = true)
    (a16 : PySem.W.nsIn K mainGlobals "counts_of_h" = some (some (.ref f16)))
    (l16 : K.lookup f16 = some ⟨oc16, od16, .func (PySem.W.fnOf "counts_of_h" "counts_of_h" (defArgs s_counts_of_h) (defBody s_counts_of_h) (defScope s_counts_of_h) .none kV16 dc16 pm16 an16 (cd16) ct16), sl16⟩)
    (c16 : PySem.W.codeIn K (cd16) "counts_of_h" = true)
    (k16 : PySem.W.keepIn K (.ref f16) = true)
    (a17 : PySem.W.nsIn K mainGlobals "begins_with_1" = some (some (.ref f17)))
    (l17 : K.lookup f17 = some ⟨oc17, od17, .func (PySem.W.fnOf "begins_with_1" "begins_with_1" (defArgs s_begins_with_1) (defBody s_begins_with_1) (defScope s_begins_with_1) .none kV17 dc17 pm17 an17 (cd17) ct17), sl17⟩)
    (c17 : PySem.W.codeIn K (cd17) "begins_with_1" = true)
    (k17 : PySem.W.keepIn K (.ref f17) = true)
    (a18 : PySem.W.nsIn K mainGlobals "row_certificates" = some (some (.ref f18)))
    (l18 : K.lookup f18 = some ⟨oc18, od18, .func (PySem.W.fnOf "row_certificates" "row_certificates" (defArgs s_row_certificates) (defBody s_row_certificates) (defScope s_row_certificates) .none kV18 dc18 pm18 an18 (cd18) ct18), sl18⟩)
    (c18 : PySem.W.codeIn K (cd18) "row_certificates" = true)
    (k18 : PySem.W.keepIn K (.ref f18) = true)
    (a19 : PySem.W.nsIn K mainGlobals "moved_row" = some (some (.ref f19)))
    (l19 : K.lookup f19 = some ⟨oc19, od19, .func (PySem.W.fnOf "moved_row" "moved_row" (defArgs s_moved_row) (defBody s_moved_row) (defScope s_moved_row) .none kV19 dc19 pm19 an19 (cd19) ct19), sl19⟩)
    (c19 : PySem.W.codeIn K (cd19) "moved_row" = true)
    (k19 : PySem.W.keepIn K (.ref f19) = true)
    (a20 : PySem.W.nsIn K mainGlobals "judge_sphere" = some (some (.ref f20)))
    (l20 : K.lookup f20 = some ⟨oc20, od20, .func (PySem.W.fnOf "judge_sphere" "judge_sphere" (defArgs s_judge_sphere) (defBody s_judge_sphere) (defScope s_judge_sphere) .none kV20 dc20 pm20 an20 (cd20) ct20), sl20⟩)
    (c20 : PySem.W.codeIn K (cd20) "judge_sphere" = true)
    (k20 : PySem.W.keepIn K (.ref f20) = true)
    (a21 : PySem.W.nsIn K mainGlobals "sphere_holds" = some (some (.ref f21)))
    (l21 : K.lookup f21 = some ⟨oc21, od21, .func (PySem.W.fnOf "sphere_holds" "sphere_holds" (defArgs s_sphere_holds) (defBody s_sphere_holds) (defScope s_sphere_holds) .none kV21 dc21 pm21 an21 (cd21) ct21), sl21⟩)
    (c21 : PySem.W.codeIn K (cd21) "sphere_holds" = true)
    (k21 : PySem.W.keepIn K (.ref f21) = true)
    (a22 : PySem.W.nsIn K mainGlobals "least_sphere" = some (some (.ref f22)))
    (l22 : K.lookup f22 = some ⟨oc22, od22, .func (PySem.W.fnOf "least_sphere" "least_sphere" (defArgs s_least_sphere) (defBody s_least_sphere) (defScope s_least_sphere) .none kV22 dc22 pm22 an22 (cd22) ct22), sl22⟩)
    (c22 : PySem.W.codeIn K (cd22) "least_sphere" = true)
    (k22 : PySem.W.keepIn K (.ref f22) = true)
    (a23 : PySem.W.nsIn K mainGlobals "most_sphere" = some (some (.ref f23)))
    (l23 : K.lookup f23 = some ⟨oc23, od23, .func (PySem.W.fnOf "most_sphere" "most_sphere" (defArgs s_most_sphere) (defBody s_most_sphere) (defScope s_most_sphere) .none kV23 dc23 pm23 an23 (cd23) ct23), sl23⟩)
    (c23 : PySem.W.codeIn K (cd23) "most_sphere" = true)
    (k23 : PySem.W.keepIn K (.ref f23) = true)
    (a24 : PySem.W.nsIn K mainGlobals "check_ends" = some (some (.ref f24)))
    (l24 : K.lookup f24 = some ⟨oc24, od24, .func (PySem.W.fnOf "check_ends" "check_ends" (defArgs s_check_ends) (defBody s_check_ends) (defScope s_check_ends) .none kV24 dc24 pm24 an24 (cd24) ct24), sl24⟩)
    (c24 : PySem.W.codeIn K (cd24) "check_ends" = true)
    (k24 : PySem.W.keepIn K (.ref f24) = true)
    (a25 : PySem.W.nsIn K mainGlobals "sphere_certificates" = some (some (.ref f25)))
    (l25 : K.lookup f25 = some ⟨oc25, od25, .func (PySem.W.fnOf "sphere_certificates" "sphere_certificates" (defArgs s_sphere_certificates) (defBody s_sphere_certificates) (defScope s_sphere_certificates) .none kV25 dc25 pm25 an25 (cd25) ct25), sl25⟩)
    (c25 : PySem.W.codeIn K (cd25) "sphere_certificates" = true)
    (k25 : PySem.W.keepIn K (.ref f25) = true)
    (a26 : PySem.W.nsIn K mainGlobals "counts_with" = some (some (.ref f26)))
    (l26 : K.lookup f26 = some ⟨oc26, od26, .func (PySem.W.fnOf "counts_with" "counts_with" (defArgs s_counts_with) (defBody s_counts_with) (defScope s_counts_with) .none kV26 dc26 pm26 an26 (cd26) ct26), sl26⟩)
    (c26 : PySem.W.codeIn K (cd26) "counts_with" = true)
    (k26 : PySem.W.keepIn K (.ref f26) = true)
    (a27 : PySem.W.nsIn K mainGlobals "_law_deck" = some (some (.ref f27)))
    (l27 : K.lookup f27 = some ⟨oc27, od27, .func (PySem.W.fnOf "_law_deck" "_law_deck" (defArgs s_l_deck) (defBody s_l_deck) (defScope s_l_deck) .none kV27 dc27 pm27 an27 (cd27) ct27), sl27⟩)
    (c27 : PySem.W.codeIn K (cd27) "_law_deck" = true)
    (k27 : PySem.W.keepIn K (.ref f27) = true)
    (a28 : PySem.W.nsIn K mainGlobals "_law_draw" = some (some (.ref f28)))
    (l28 : K.lookup f28 = some ⟨oc28, od28, .func (PySem.W.fnOf "_law_draw" "_law_draw" (defArgs s_l_draw) (defBody s_l_draw) (defScope s_l_draw) .none kV28 dc28 pm28 an28 (cd28) ct28), sl28⟩)
    (c28 : PySem.W.codeIn K (cd28) "_law_draw" = true)
    (k28 : PySem.W.keepIn K (.ref f28) = true)
    (a29 : PySem.W.nsIn K mainGlobals "_law_pick" = some (some (.ref f29)))
    (l29 : K.lookup f29 = some ⟨oc29, od29, .func (PySem.W.fnOf "_law_pick" "_law_pick" (defArgs s_l_pick) (defBody s_l_pick) (defScope s_l_pick) .none kV29 dc29 pm29 an29 (cd29) ct29), sl29⟩)
    (c29 : PySem.W.codeIn K (cd29) "_law_pick" = true)
    (k29 : PySem.W.keepIn K (.ref f29) = true)
    (a30 : PySem.W.nsIn K mainGlobals "_law_choose" = some (some (.ref f30)))
    (l30 : K.lookup f30 = some ⟨oc30, od30, .func (PySem.W.fnOf "_law_choose" "_law_choose" (defArgs s_l_choose) (defBody s_l_choose) (defScope s_l_choose) .none kV30 dc30 pm30 an30 (cd30) ct30), sl30⟩)
    (c30 : PySem.W.codeIn K (cd30) "_law_choose" = true)
    (k30 : PySem.W.keepIn K (.ref f30) = true)
    (a31 : PySem.W.nsIn K mainGlobals "_law_symmetric" = some (some (.ref f31)))
    (l31 : K.lookup f31 = some ⟨oc31, od31, .func (PySem.W.fnOf "_law_symmetric" "_law_symmetric" (defArgs s_l_symmetric) (defBody s_l_symmetric) (defScope s_l_symmetric) .none kV31 dc31 pm31 an31 (cd31) ct31), sl31⟩)
    (c31 : PySem.W.codeIn K (cd31) "_law_symmetric" = true)
    (k31 : PySem.W.keepIn K (.ref f31) = true)
    (a32 : PySem.W.nsIn K mainGlobals "_law_counts" = some (some (.ref f32)))
    (l32 : K.lookup f32 = some ⟨oc32, od32, .func (PySem.W.fnOf "_law_counts" "_law_counts" (defArgs s_l_counts) (defBody s_l_counts) (defScope s_l_counts) .none kV32 dc32 pm32 an32 (cd32) ct32), sl32⟩)
    (c32 : PySem.W.codeIn K (cd32) "_law_counts" = true)
    (k32 : PySem.W.keepIn K (.ref f32) = true)
    (a33 : PySem.W.nsIn K mainGlobals "_law_g_rows" = some (some (.ref f33)))
    (l33 : K.lookup f33 = some ⟨oc33, od33, .func (PySem.W.fnOf "_law_g_rows" "_law_g_rows" (defArgs s_l_g_rows) (defBody s_l_g_rows) (defScope s_l_g_rows) .none kV33 dc33 pm33 an33 (cd33) ct33), sl33⟩)
    (c33 : PySem.W.codeIn K (cd33) "_law_g_rows" = true)
    (k33 : PySem.W.keepIn K (.ref f33) = true)
    (a34 : PySem.W.nsIn K mainGlobals "_law_told" = some (some (.ref f34)))
    (l34 : K.lookup f34 = some ⟨oc34, od34, .func (PySem.W.fnOf "_law_told" "_law_told" (defArgs s_l_told) (defBody s_l_told) (defScope s_l_told) .none kV34 dc34 pm34 an34 (cd34) ct34), sl34⟩)
    (c34 : PySem.W.codeIn K (cd34) "_law_told" = true)
    (k34 : PySem.W.keepIn K (.ref f34) = true)
    (a35 : PySem.W.nsIn K mainGlobals "_law_whole" = some (some (.ref f35)))
    (l35 : K.lookup f35 = some ⟨oc35, od35, .func (PySem.W.fnOf "_law_whole" "_law_whole" (defArgs s_l_whole) (defBody s_l_whole) (defScope s_l_whole) .none kV35 dc35 pm35 an35 (cd35) ct35), sl35⟩)
    (c35 : PySem.W.codeIn K (cd35) "_law_whole" = true)
    (k35 : PySem.W.keepIn K (.ref f35) = true)
    (a36 : PySem.W.nsIn K mainGlobals "_law_is_right" = some (some (.ref f36)))
    (l36 : K.lookup f36 = some ⟨oc36, od36, .func (PySem.W.fnOf "_law_is_right" "_law_is_right" (defArgs s_l_is_right) (defBody s_l_is_right) (defScope s_l_is_right) .none kV36 dc36 pm36 an36 (.ref lc1) ct36), sl36⟩)
    (c36 : PySem.W.codeIn K (.ref lc1) "_law_is_right" = true)
    (k36 : PySem.W.keepIn K (.ref f36) = true)
    (lk1 : K.lookup lc1 = some ⟨ob1, oe1, .fields vs1, of1⟩)
    (hv1 : vs1[11]? = some (.ref P1))
    (np1 : K.lookup P1 = none)
    (ch1 : PySem.W.codeHdIn K lc1 P1 = true)
    (ht1 : h.get? P1 = some (PySem.W.tabObj #[]))
    (a37 : PySem.W.nsIn K mainGlobals "_law_is_row_right" = some (some (.ref f37)))
    (l37 : K.lookup f37 = some ⟨oc37, od37, .func (PySem.W.fnOf "_law_is_row_right" "_law_is_row_right" (defArgs s_l_is_row_right) (defBody s_l_is_row_right) (defScope s_l_is_row_right) .none kV37 dc37 pm37 an37 (cd37) ct37), sl37⟩)
    (c37 : PySem.W.codeIn K (cd37) "_law_is_row_right" = true)
    (k37 : PySem.W.keepIn K (.ref f37) = true)
    (a38 : PySem.W.nsIn K mainGlobals "_law_are_ends_right" = some (some (.ref f38)))
    (l38 : K.lookup f38 = some ⟨oc38, od38, .func (PySem.W.fnOf "_law_are_ends_right" "_law_are_ends_right" (defArgs s_l_are_ends_right) (defBody s_l_are_ends_right) (defScope s_l_are_ends_right) .none kV38 dc38 pm38 an38 (cd38) ct38), sl38⟩)
    (c38 : PySem.W.codeIn K (cd38) "_law_are_ends_right" = true)
    (k38 : PySem.W.keepIn K (.ref f38) = true)
    (a39 : PySem.W.nsIn K mainGlobals "law" = some (some (.ref f39)))
    (l39 : K.lookup f39 = some ⟨oc39, od39, .func (PySem.W.fnOf "law" "law" (defArgs s_law) (defBody s_law) (defScope s_law) .none kV39 dc39 pm39 an39 (cd39) ct39), sl39⟩)
    (c39 : PySem.W.codeIn K (cd39) "law" = true)
    (k39 : PySem.W.keepIn K (.ref f39) = true)
    (y0 : PySem.W.nsIn K mainGlobals "MOST_COUNTS" = some (some (.int 16 tk0)))
    (z0 : PySem.W.nsIn K mainGlobals "all" = some none)
    (z1 : PySem.W.nsIn K mainGlobals "any" = some none)
    (z2 : PySem.W.nsIn K mainGlobals "bool" = some none)
    (z3 : PySem.W.nsIn K mainGlobals "enumerate" = some none)
    (z4 : PySem.W.nsIn K mainGlobals "int" = some none)
    (z5 : PySem.W.nsIn K mainGlobals "isinstance" = some none)
    (z6 : PySem.W.nsIn K mainGlobals "len" = some none)
    (z7 : PySem.W.nsIn K mainGlobals "list" = some none)
    (z8 : PySem.W.nsIn K mainGlobals "max" = some none)
    (z9 : PySem.W.nsIn K mainGlobals "min" = some none)
    (z10 : PySem.W.nsIn K mainGlobals "range" = some none)
    (z11 : PySem.W.nsIn K mainGlobals "repr" = some none)
    (z12 : PySem.W.nsIn K mainGlobals "sum" = some none)
    (z13 : PySem.W.nsIn K mainGlobals "tuple" = some none)
    (z14 : PySem.W.nsIn K mainGlobals "zip" = some none)
    (zc : PySem.W.nsIn K mainGlobals "comb" = some (some (.builtin "math.comb")))
    (aT : PySem.W.nsIn K mainGlobals "CountError" = some (some (.ref CT)))
    (iT : PySem.W.isClsIn K CT = true)
    (tT : PySem.W.typeIn K (.ref CT) = some (.type "type"))
    (eT : PySem.W.subIn K (.ref CT) (.type "BaseException") = some true)
    (hT : PySem.W.hasDictIn K CT = true)
    (sT : PySem.W.subIn K (.ref CT) (.ref CT) = some true)
    (sg : PySem.W.specialIn K (.builtin "object.__class__") "__get__" = some (some (.builtin "getset_descriptor.__get__")))
    (tkk : PySem.W.takesIn K (.builtin "object.__class__") = some true)
    (xA0 : PySem.W.nsIn K mainGlobals "BadNumber" = some (some (.ref X0)))
    (xL0 : K.lookup X0 = some (excClassObj xn0 xq0 X0 xN0 xb0 [.ref CT, .type "Exception", .type "BaseException", .type "object"] true xs0 xu0 xa0 xc0 xd0 w0a w0b w0c w0d w0e "Exception.__new__"))
    (xsa0 : PySem.W.findIn K (.ref X0) "__setattr__" = some (some (.builtin "object.__setattr__")))
    (xga0 : PySem.W.findIn K (.ref X0) "__getattribute__" = some (some (.builtin "BaseException.__getattribute__")))
    (xgg0 : PySem.W.findIn K (.ref X0) "__getattr__" = some none)
    (xnb0 : PySem.W.findIn K (.ref X0) "thing" = some none)
    (xi0 : PySem.W.findIn K (.ref X0) "__init__" = some (some (.ref J0)))
    (xt0 : PySem.W.typeIn K (.ref J0) = some (.type "function"))
    (xl0 : K.lookup J0 = some ⟨ro0, re0, .func (PySem.W.fnOf "__init__" "BadNumber.__init__" (iA g0a g0b) (iB g0c g0d g0e g0f) iS .none .none rd0 rp0 ra0 rc0 rt0), rs0⟩)
    (xcd0 : PySem.W.codeIn K rc0 "BadNumber.__init__" = true)
    (xk0 : PySem.W.keepIn K (.ref X0) = true)
    (iX0 : PySem.W.isClsIn K X0 = true)
    (tX0 : PySem.W.typeIn K (.ref X0) = some (.type "type"))
    (eX0 : PySem.W.subIn K (.ref X0) (.type "BaseException") = some true)
    (hX0 : PySem.W.hasDictIn K X0 = true)
    (sX0 : PySem.W.subIn K (.ref X0) (.ref X0) = some true)
    (xkc0 : PySem.W.findIn K (.ref X0) "__class__" = some (some (.builtin "object.__class__")))
    (xmo0 : PySem.W.mroIn K X0 (.type "object") = some true)
    (xu0T : PySem.W.subIn K (.ref X0) (.ref CT) = some true)
    (xA1 : PySem.W.nsIn K mainGlobals "BadSize" = some (some (.ref X1)))
    (xL1 : K.lookup X1 = some (excClassObj xn1 xq1 X1 xN1 xb1 [.ref CT, .type "Exception", .type "BaseException", .type "object"] true xs1 xu1 xa1 xc1 xd1 w1a w1b w1c w1d w1e "Exception.__new__"))
    (xsa1 : PySem.W.findIn K (.ref X1) "__setattr__" = some (some (.builtin "object.__setattr__")))
    (xga1 : PySem.W.findIn K (.ref X1) "__getattribute__" = some (some (.builtin "BaseException.__getattribute__")))
    (xgg1 : PySem.W.findIn K (.ref X1) "__getattr__" = some none)
    (xnb1 : PySem.W.findIn K (.ref X1) "thing" = some none)
    (xi1 : PySem.W.findIn K (.ref X1) "__init__" = some (some (.ref J1)))
    (xt1 : PySem.W.typeIn K (.ref J1) = some (.type "function"))
    (xl1 : K.lookup J1 = some ⟨ro1, re1, .func (PySem.W.fnOf "__init__" "BadSize.__init__" (iA g1a g1b) (iB g1c g1d g1e g1f) iS .none .none rd1 rp1 ra1 rc1 rt1), rs1⟩)
    (xcd1 : PySem.W.codeIn K rc1 "BadSize.__init__" = true)
    (xk1 : PySem.W.keepIn K (.ref X1) = true)
    (iX1 : PySem.W.isClsIn K X1 = true)
    (tX1 : PySem.W.typeIn K (.ref X1) = some (.type "type"))
    (eX1 : PySem.W.subIn K (.ref X1) (.type "BaseException") = some true)
    (hX1 : PySem.W.hasDictIn K X1 = true)
    (sX1 : PySem.W.subIn K (.ref X1) (.ref X1) = some true)
    (xkc1 : PySem.W.findIn K (.ref X1) "__class__" = some (some (.builtin "object.__class__")))
    (xmo1 : PySem.W.mroIn K X1 (.type "object") = some true)
    (xu1T : PySem.W.subIn K (.ref X1) (.ref CT) = some true)
    (xA2 : PySem.W.nsIn K mainGlobals "BadCounts" = some (some (.ref X2)))
    (xL2 : K.lookup X2 = some (excClassObj xn2 xq2 X2 xN2 xb2 [.ref CT, .type "Exception", .type "BaseException", .type "object"] true xs2 xu2 xa2 xc2 xd2 w2a w2b w2c w2d w2e "Exception.__new__"))
    (xsa2 : PySem.W.findIn K (.ref X2) "__setattr__" = some (some (.builtin "object.__setattr__")))
    (xga2 : PySem.W.findIn K (.ref X2) "__getattribute__" = some (some (.builtin "BaseException.__getattribute__")))
    (xgg2 : PySem.W.findIn K (.ref X2) "__getattr__" = some none)
    (xnb2 : PySem.W.findIn K (.ref X2) "thing" = some none)
    (xi2 : PySem.W.findIn K (.ref X2) "__init__" = some (some (.ref J2)))
    (xt2 : PySem.W.typeIn K (.ref J2) = some (.type "function"))
    (xl2 : K.lookup J2 = some ⟨ro2, re2, .func (PySem.W.fnOf "__init__" "BadCounts.__init__" (iA g2a g2b) (iB g2c g2d g2e g2f) iS .none .none rd2 rp2 ra2 rc2 rt2), rs2⟩)
    (xcd2 : PySem.W.codeIn K rc2 "BadCounts.__init__" = true)
    (xk2 : PySem.W.keepIn K (.ref X2) = true)
    (iX2 : PySem.W.isClsIn K X2 = true)
    (tX2 : PySem.W.typeIn K (.ref X2) = some (.type "type"))
    (eX2 : PySem.W.subIn K (.ref X2) (.type "BaseException") = some true)
    (hX2 : PySem.W.hasDictIn K X2 = true)
    (sX2 : PySem.W.subIn K (.ref X2) (.ref X2) = some true)
    (xkc2 : PySem.W.findIn K (.ref X2) "__class__" = some (some (.builtin "object.__class__")))
    (xmo2 : PySem.W.mroIn K X2 (.type "object") = some true)
    (xu2T : PySem.W.subIn K (.ref X2) (.ref CT) = some true)
    (xA3 : PySem.W.nsIn K mainGlobals "BadRow" = some (some (.ref X3)))
    (xL3 : K.lookup X3 = some (excClassObj xn3 xq3 X3 xN3 xb3 [.ref CT, .type "Exception", .type "BaseException", .type "object"] true xs3 xu3 xa3 xc3 xd3 w3a w3b w3c w3d w3e "Exception.__new__"))
    (xsa3 : PySem.W.findIn K (.ref X3) "__setattr__" = some (some (.builtin "object.__setattr__")))
    (xga3 : PySem.W.findIn K (.ref X3) "__getattribute__" = some (some (.builtin "BaseException.__getattribute__")))
    (xgg3 : PySem.W.findIn K (.ref X3) "__getattr__" = some none)
    (xnb3 : PySem.W.findIn K (.ref X3) "thing" = some none)
    (xi3 : PySem.W.findIn K (.ref X3) "__init__" = some (some (.ref J3)))
    (xt3 : PySem.W.typeIn K (.ref J3) = some (.type "function"))
    (xl3 : K.lookup J3 = some ⟨ro3, re3, .func (PySem.W.fnOf "__init__" "BadRow.__init__" (iA g3a g3b) (iB g3c g3d g3e g3f) iS .none .none rd3 rp3 ra3 rc3 rt3), rs3⟩)
    (xcd3 : PySem.W.codeIn K rc3 "BadRow.__init__" = true)
    (xk3 : PySem.W.keepIn K (.ref X3) = true)
    (iX3 : PySem.W.isClsIn K X3 = true)
    (tX3 : PySem.W.typeIn K (.ref X3) = some (.type "type"))
    (eX3 : PySem.W.subIn K (.ref X3) (.type "BaseException") = some true)
    (hX3 : PySem.W.hasDictIn K X3 = true)
    (sX3 : PySem.W.subIn K (.ref X3) (.ref X3) = some true)
    (xkc3 : PySem.W.findIn K (.ref X3) "__class__" = some (some (.builtin "object.__class__")))
    (xmo3 : PySem.W.mroIn K X3 (.type "object") = some true)
    (xu3T : PySem.W.subIn K (.ref X3) (.ref CT) = some true)
    (v0_1 : PySem.W.subIn K (.ref X0) (.ref X1) = some false)
    (v0_2 : PySem.W.subIn K (.ref X0) (.ref X2) = some false)
    (v0_3 : PySem.W.subIn K (.ref X0) (.ref X3) = some false)
    (v1_0 : PySem.W.subIn K (.ref X1) (.ref X0) = some false)
    (v1_2 : PySem.W.subIn K (.ref X1) (.ref X2) = some false)
    (v1_3 : PySem.W.subIn K (.ref X1) (.ref X3) = some false)
    (v2_0 : PySem.W.subIn K (.ref X2) (.ref X0) = some false)
    (v2_1 : PySem.W.subIn K (.ref X2) (.ref X1) = some false)
    (v2_3 : PySem.W.subIn K (.ref X2) (.ref X3) = some false)
    (v3_0 : PySem.W.subIn K (.ref X3) (.ref X0) = some false)
    (v3_1 : PySem.W.subIn K (.ref X3) (.ref X1) = some false)
    (v3_2 : PySem.W.subIn K (.ref X3) (.ref X2) = some false)
    (pq0_1 : P0 ≠ P1) :
    Hr.LawT l w K 11 63 "script" mg fa h := by
  have G := Tp.g
  have e := hfa.symm.trans (PySem.W.mg_of X G a39)
  cases e
  have F0 := fun_mk (st := s_is_integer) l0 c0 k0
  have b0 := F0.binds (ps := ["thing"]) fun _ _ _ _ _ _ us hl => match us, hl with | [_], _ => rfl
  have F1 := fun_mk (st := s_is_integer_from) l1 c1 k1
  have b1 := F1.binds (ps := ["thing", "least"]) fun _ _ _ _ _ _ us hl => match us, hl with | [_, _], _ => rfl
  have F2 := fun_mk (st := s_are_integers_from) l2 c2 k2
  have b2 := F2.binds (ps := ["thing", "least"]) fun _ _ _ _ _ _ us hl => match us, hl with | [_, _], _ => rfl
  have F3 := fun_mk (st := s_is_one_of) l3 c3 k3
  have b3 := F3.binds (ps := ["thing", "rights"]) fun _ _ _ _ _ _ us hl => match us, hl with | [_, _], _ => rfl
  have F4 := fun_mk (st := s_is_just) l4 c4 k4
  have b4 := F4.binds (ps := ["thing", "right"]) fun _ _ _ _ _ _ us hl => match us, hl with | [_, _], _ => rfl
  have F5 := fun_mk (st := s_cascade_of) l5 c5 k5
  have b5 := F5.binds (ps := ["number", "size"]) fun _ _ _ _ _ _ us hl => match us, hl with | [_, _], _ => rfl
  have F6 := fun_mk (st := s_upper_products) l6 c6 k6
  have b6 := F6.binds (ps := ["number", "size"]) fun _ _ _ _ _ _ us hl => match us, hl with | [_, _], _ => rfl
  have F7 := fun_mk (st := s_check_number) l7 c7 k7
  have b7 := F7.binds (ps := ["number"]) fun _ _ _ _ _ _ us hl => match us, hl with | [_], _ => rfl
  have F8 := fun_mk (st := s_check_size) l8 c8 k8
  have b8 := F8.binds (ps := ["size"]) fun _ _ _ _ _ _ us hl => match us, hl with | [_], _ => rfl
  have F9 := fun_mk (st := s_greatest_top) l9 c9 k9
  have b9 := F9.binds (ps := ["number", "size"]) fun _ _ _ _ _ _ us hl => match us, hl with | [_, _], _ => rfl
  have F10 := fun_mk (st := s_greatest_within) l10 c10 k10
  have b10 := F10.binds (ps := ["number", "least", "count_at"]) fun _ _ _ _ _ _ us hl => match us, hl with | [_, _, _], _ => rfl
  have F11 := fun_mk (st := s_moved_sum) l11 c11 k11
  have b11 := F11.binds (ps := ["size", "cascade", "more_things", "more_size"]) fun _ _ _ _ _ _ us hl => match us, hl with | [_, _, _, _], _ => rfl
  have F12 := fun_mk (st := s_is_counts) l12 c12 k12
  have b12 := F12.binds (ps := ["thing"]) fun _ _ _ _ _ _ us hl => match us, hl with | [_], _ => rfl
  have F13 := fun_mk (st := s_check_counts) l13 c13 k13
  have b13 := F13.binds (ps := ["counts"]) fun _ _ _ _ _ _ us hl => match us, hl with | [_], _ => rfl
  have F14 := fun_mk (st := s_check_some_counts) l14 c14 k14
  have b14 := F14.binds (ps := ["counts"]) fun _ _ _ _ _ _ us hl => match us, hl with | [_], _ => rfl
  have F15 := fun_mk (st := s_h_row) l15 c15 k15
  have b15 := F15.binds (ps := ["counts"]) fun _ _ _ _ _ _ us hl => match us, hl with | [_], _ => rfl
  have F16 := fun_mk (st := s_counts_of_h) l16 c16 k16
  have b16 := F16.binds (ps := ["numbers"]) fun _ _ _ _ _ _ us hl => match us, hl with | [_], _ => rfl
  have F17 := fun_mk (st := s_begins_with_1) l17 c17 k17
  have b17 := F17.binds (ps := ["thing"]) fun _ _ _ _ _ _ us hl => match us, hl with | [_], _ => rfl
  have F18 := fun_mk (st := s_row_certificates) l18 c18 k18
  have b18 := F18.binds (ps := ["row"]) fun _ _ _ _ _ _ us hl => match us, hl with | [_], _ => rfl
  have F19 := fun_mk (st := s_moved_row) l19 c19 k19
  have b19 := F19.binds (ps := ["row", "sign"]) fun _ _ _ _ _ _ us hl => match us, hl with | [_, _], _ => rfl
  have F20 := fun_mk (st := s_judge_sphere) l20 c20 k20
  have b20 := F20.binds (ps := ["counts"]) fun _ _ _ _ _ _ us hl => match us, hl with | [_], _ => rfl
  have F21 := fun_mk (st := s_sphere_holds) l21 c21 k21
  have b21 := F21.binds (ps := ["counts", "thing"]) fun _ _ _ _ _ _ us hl => match us, hl with | [_, _], _ => rfl
  have F22 := fun_mk (st := s_least_sphere) l22 c22 k22
  have b22 := F22.binds (ps := ["n", "d"]) fun _ _ _ _ _ _ us hl => match us, hl with | [_, _], _ => rfl
  have F23 := fun_mk (st := s_most_sphere) l23 c23 k23
  have b23 := F23.binds (ps := ["n", "d"]) fun _ _ _ _ _ _ us hl => match us, hl with | [_, _], _ => rfl
  have F24 := fun_mk (st := s_check_ends) l24 c24 k24
  have b24 := F24.binds (ps := ["n", "d"]) fun _ _ _ _ _ _ us hl => match us, hl with | [_, _], _ => rfl
  have F25 := fun_mk (st := s_sphere_certificates) l25 c25 k25
  have b25 := F25.binds (ps := ["counts"]) fun _ _ _ _ _ _ us hl => match us, hl with | [_], _ => rfl
  have F26 := fun_mk (st := s_counts_with) l26 c26 k26
  have b26 := F26.binds (ps := ["d", "steps"]) fun _ _ _ _ _ _ us hl => match us, hl with | [_, _], _ => rfl
  have F27 := fun_mk (st := s_l_deck) l27 c27 k27
  have b27 := F27.binds (ps := ["script"]) fun _ _ _ _ _ _ us hl => match us, hl with | [_], _ => rfl
  have F28 := fun_mk (st := s_l_draw) l28 c28 k28
  have b28 := F28.binds (ps := ["deck", "many"]) fun _ _ _ _ _ _ us hl => match us, hl with | [_, _], _ => rfl
  have F29 := fun_mk (st := s_l_pick) l29 c29 k29
  have b29 := F29.binds (ps := ["deck", "some"]) fun _ _ _ _ _ _ us hl => match us, hl with | [_, _], _ => rfl
  have F30 := fun_mk (st := s_l_choose) l30 c30 k30
  have b30 := F30.binds (ps := ["a", "b"]) fun _ _ _ _ _ _ us hl => match us, hl with | [_, _], _ => rfl
  have F31 := fun_mk (st := s_l_symmetric) l31 c31 k31
  have b31 := F31.binds (ps := ["g", "d"]) fun _ _ _ _ _ _ us hl => match us, hl with | [_, _], _ => rfl
  have F32 := fun_mk (st := s_l_counts) l32 c32 k32
  have b32 := F32.binds (ps := ["h"]) fun _ _ _ _ _ _ us hl => match us, hl with | [_], _ => rfl
  have F33 := fun_mk (st := s_l_g_rows) l33 c33 k33
  have b33 := F33.binds (ps := ["n", "d"]) fun _ _ _ _ _ _ us hl => match us, hl with | [_, _], _ => rfl
  have F34 := fun_mk (st := s_l_told) l34 c34 k34
  have b34 := F34.binds (ps := ["call"]) fun _ _ _ _ _ _ us hl => match us, hl with | [_], _ => rfl
  have F35 := fun_mk (st := s_l_whole) l35 c35 k35
  have b35 := F35.binds (ps := ["thing", "low"]) fun _ _ _ _ _ _ us hl => match us, hl with | [_, _], _ => rfl
  have F36 := fun_mk (st := s_l_is_right) l36 c36 k36
  have b36 := F36.binds (ps := ["n", "d"]) fun _ _ _ _ _ _ us hl => match us, hl with | [_, _], _ => rfl
  have F37 := fun_mk (st := s_l_is_row_right) l37 c37 k37
  have b37 := F37.binds (ps := ["counts", "g"]) fun _ _ _ _ _ _ us hl => match us, hl with | [_, _], _ => rfl
  have F38 := fun_mk (st := s_l_are_ends_right) l38 c38 k38
  have b38 := F38.binds (ps := ["n", "d"]) fun _ _ _ _ _ _ us hl => match us, hl with | [_, _], _ => rfl
  have F39 := fun_mk (st := s_law) l39 c39 k39
  have b39 := F39.binds (ps := ["script"]) fun _ _ _ _ _ _ us hl => match us, hl with | [_], _ => rfl
  have O0 : OwnC K X0 := ⟨iX0, tX0, eX0, hX0, sX0⟩
  have E0 : ExTxt K mg "BadNumber" X0 J0 := { gC := PySem.W.mg_of X G xA0, cls := ⟨_, _, _, _, _, _, _, _, _, _, _, _, _, _, _, xL0, by rfl⟩, sa := xsa0, ga := xga0, gg := xgg0, noN := xnb0, iC := xi0, tC := xt0, kC := xk0, exC := eX0, tyC := tX0, hdC := hX0, te := O0.exm sX0, fn := ⟨_, _, _, _, _, _, _, _, _, _, _, _, _, _, _, xl0, xcd0⟩ }
  have O1 : OwnC K X1 := ⟨iX1, tX1, eX1, hX1, sX1⟩
  have E1 : ExTxt K mg "BadSize" X1 J1 := { gC := PySem.W.mg_of X G xA1, cls := ⟨_, _, _, _, _, _, _, _, _, _, _, _, _, _, _, xL1, by rfl⟩, sa := xsa1, ga := xga1, gg := xgg1, noN := xnb1, iC := xi1, tC := xt1, kC := xk1, exC := eX1, tyC := tX1, hdC := hX1, te := O1.exm sX1, fn := ⟨_, _, _, _, _, _, _, _, _, _, _, _, _, _, _, xl1, xcd1⟩ }
  have O2 : OwnC K X2 := ⟨iX2, tX2, eX2, hX2, sX2⟩
  have E2 : ExTxt K mg "BadCounts" X2 J2 := { gC := PySem.W.mg_of X G xA2, cls := ⟨_, _, _, _, _, _, _, _, _, _, _, _, _, _, _, xL2, by rfl⟩, sa := xsa2, ga := xga2, gg := xgg2, noN := xnb2, iC := xi2, tC := xt2, kC := xk2, exC := eX2, tyC := tX2, hdC := hX2, te := O2.exm sX2, fn := ⟨_, _, _, _, _, _, _, _, _, _, _, _, _, _, _, xl2, xcd2⟩ }
  have O3 : OwnC K X3 := ⟨iX3, tX3, eX3, hX3, sX3⟩
  have E3 : ExTxt K mg "BadRow" X3 J3 := { gC := PySem.W.mg_of X G xA3, cls := ⟨_, _, _, _, _, _, _, _, _, _, _, _, _, _, _, xL3, by rfl⟩, sa := xsa3, ga := xga3, gg := xgg3, noN := xnb3, iC := xi3, tC := xt3, kC := xk3, exC := eX3, tyC := tX3, hdC := hX3, te := O3.exm sX3, fn := ⟨_, _, _, _, _, _, _, _, _, _, _, _, _, _, _, xl3, xcd3⟩ }
  let T : Txt K mg := ⟨f0, _, F0, PySem.W.mg_of X G a0, b0, f1, _, F1, PySem.W.mg_of X G a1, b1, f2, _, F2, PySem.W.mg_of X G a2, b2, f3, _, F3, PySem.W.mg_of X G a3, b3, f4, _, F4, PySem.W.mg_of X G a4, b4, f5, _, F5, PySem.W.mg_of X G a5, b5, f6, _, F6, PySem.W.mg_of X G a6, b6, f7, _, F7, PySem.W.mg_of X G a7, b7, f8, _, F8, PySem.W.mg_of X G a8, b8, f9, _, F9, PySem.W.mg_of X G a9, b9, f10, _, F10, PySem.W.mg_of X G a10, b10, f11, _, F11, PySem.W.mg_of X G a11, b11, f12, _, F12, PySem.W.mg_of X G a12, b12, f13, _, F13, PySem.W.mg_of X G a13, b13, f14, _, F14, PySem.W.mg_of X G a14, b14, f15, _, F15, PySem.W.mg_of X G a15, b15, f16, _, F16, PySem.W.mg_of X G a16, b16, f17, _, F17, PySem.W.mg_of X G a17, b17, f18, _, F18, PySem.W.mg_of X G a18, b18, f19, _, F19, PySem.W.mg_of X G a19, b19, f20, _, F20, PySem.W.mg_of X G a20, b20, f21, _, F21, PySem.W.mg_of X G a21, b21, f22, _, F22, PySem.W.mg_of X G a22, b22, f23, _, F23, PySem.W.mg_of X G a23, b23, f24, _, F24, PySem.W.mg_of X G a24, b24, f25, _, F25, PySem.W.mg_of X G a25, b25, f26, _, F26, PySem.W.mg_of X G a26, b26, f27, _, F27, PySem.W.mg_of X G a27, b27, f28, _, F28, PySem.W.mg_of X G a28, b28, f29, _, F29, PySem.W.mg_of X G a29, b29, f30, _, F30, PySem.W.mg_of X G a30, b30, f31, _, F31, PySem.W.mg_of X G a31, b31, f32, _, F32, PySem.W.mg_of X G a32, b32, f33, _, F33, PySem.W.mg_of X G a33, b33, f34, _, F34, PySem.W.mg_of X G a34, b34, f35, _, F35, PySem.W.mg_of X G a35, b35, f36, _, F36, PySem.W.mg_of X G a36, b36, f37, _, F37, PySem.W.mg_of X G a37, b37, f38, _, F38, PySem.W.mg_of X G a38, b38, fa, _, F39, PySem.W.mg_of X G a39, b39, tk0, PySem.W.mg_of X G y0, PySem.W.mg_none_of X G z0, PySem.W.mg_none_of X G z1, PySem.W.mg_none_of X G z2, PySem.W.mg_none_of X G z3, PySem.W.mg_none_of X G z4, PySem.W.mg_none_of X G z5, PySem.W.mg_none_of X G z6, PySem.W.mg_none_of X G z7, PySem.W.mg_none_of X G z8, PySem.W.mg_none_of X G z9, PySem.W.mg_none_of X G z10, PySem.W.mg_none_of X G z11, PySem.W.mg_none_of X G z12, PySem.W.mg_none_of X G z13, PySem.W.mg_none_of X G z14, PySem.W.mg_of X G zc, X0, J0, E0, ⟨O0, xga0, xgg0, xkc0, xmo0, sg, tkk⟩, X1, J1, E1, ⟨O1, xga1, xgg1, xkc1, xmo1, sg, tkk⟩, X2, J2, E2, ⟨O2, xga2, xgg2, xkc2, xmo2, sg, tkk⟩, X3, J3, E3, ⟨O3, xga3, xgg3, xkc3, xmo3, sg, tkk⟩, CT, PySem.W.mg_of X G aT, ⟨iT, tT, eT, hT, sT⟩, xu0T, v0_1, v0_2, v0_3, xu1T, v1_0, v1_2, v1_3, xu2T, v2_0, v2_1, v2_3, xu3T, v3_0, v3_1, v3_2, lc0, P0, rfl, lc1, P1, rfl, pq0_1⟩
  exact ⟨T.d_law, [(lc0, P0), (lc1, P1)], sp_law K P0 P1, (fun p hp => by simp only [List.mem_cons, List.not_mem_nil, or_false] at hp; rcases hp with rfl | rfl <;> first | exact ht0 | exact ht1), (fun p hp => by simp only [List.mem_cons, List.not_mem_nil, or_false] at hp; rcases hp with rfl | rfl <;> first | exact np0 | exact np1), (fun p hp => by simp only [List.mem_cons, List.not_mem_nil, or_false] at hp; rcases hp with rfl | rfl <;> first | exact (PySem.W.codeHd_of_K X ch0) | exact (PySem.W.codeHd_of_K X ch1)), (fun s v => .of_eq rfl), (fun H a ns hl hP hS => ⟨a, ns, rfl, hS, hl, (fun p hp => by unfold lamT at hp; simp only [List.mem_cons, List.not_mem_nil, or_false] at hp; rcases hp with rfl | rfl <;> first | exact hP _ (.head _) | exact hP _ (.tail _ (.head _))), fun _ => rfl⟩), fun base _ _ TB => ok_law T (TB _ (.head _)) (TB _ (.tail _ (.head _)))⟩
end K81
open PySem PySem.W PyProof.Rows in
set_option maxRecDepth 100000 in
set_option maxHeartbeats 0 in
theorem PySem.Challenge.cw_holerows_k81_least_and_most_counts_of_sp_holds : PySem.Challenge.rw_holerows_k81_least_and_most_counts_of_sp.Holds := by
  w_on; o_law; k_head; (case hw => w_witness2)
  k_fill
  refine Hr.walkT (l := PySem.Challenge.rw_holerows_k81_least_and_most_counts_of_sp) (n := 63) (k := 11) (x := "script") rfl (by decide) rfl ⟨rfl, by decide, by decide⟩ (fun w h Y => PySem.W.km_in_of Y) ?F
  case F =>
    intro w mg mb fa h lo me Y KX Tp hmg
    refine' K81.all_mk KX Tp hmg ?a0 ?l0 ?c0 ?k0 ?a1 ?l1 ?c1 ?k1 ?a2 ?l2 ?c2 ?k2 ?a3 ?l3 ?c3 ?k3 ?a4 ?l4 ?c4 ?k4 ?a5 ?l5 ?c5 ?k5 ?a6 ?l6 ?c6 ?k6 ?a7 ?l7 ?c7 ?k7 ?a8 ?l8 ?c8 ?k8 ?a9 ?l9 ?c9 ?k9 ?lk0 ?hv0 ?np0 ?ch0 ?ht0 ?a10 ?l10 ?c10 ?k10 ?a11 ?l11 ?c11 ?k11 ?a12 ?l12 ?c12 ?k12 ?a13 ?l13 ?c13 ?k13 ?a14 ?l14 ?c14 ?k14 ?a15 ?l15 ?c15 ?k15 ?a16 ?l16 ?c16 ?k16 ?a17 ?l17 ?c17 ?k17 ?a18 ?l18 ?c18 ?k18 ?a19 ?l19 ?c19 ?k19 ?a20 ?l20 ?c20 ?k20 ?a21 ?l21 ?c21 ?k21 ?a22 ?l22 ?c22 ?k22 ?a23 ?l23 ?c23 ?k23 ?a24 ?l24 ?c24 ?k24 ?a25 ?l25 ?c25 ?k25 ?a26 ?l26 ?c26 ?k26 ?a27 ?l27 ?c27 ?k27 ?a28 ?l28 ?c28 ?k28 ?a29 ?l29 ?c29 ?k29 ?a30 ?l30 ?c30 ?k30 ?a31 ?l31 ?c31 ?k31 ?a32 ?l32 ?c32 ?k32 ?a33 ?l33 ?c33 ?k33 ?a34 ?l34 ?c34 ?k34 ?a35 ?l35 ?c35 ?k35 ?a36 ?l36 ?c36 ?k36 ?lk1 ?hv1 ?np1 ?ch1 ?ht1 ?a37 ?l37 ?c37 ?k37 ?a38 ?l38 ?c38 ?k38 ?a39 ?l39 ?c39 ?k39 ?y0 ?z0 ?z1 ?z2 ?z3 ?z4 ?z5 ?z6 ?z7 ?z8 ?z9 ?z10 ?z11 ?z12 ?z13 ?z14 ?zc ?aT ?iT ?tT ?eT ?hT ?sT ?sg ?tkk ?xA0 ?xL0 ?xsa0 ?xga0 ?xgg0 ?xnb0 ?xi0 ?xt0 ?xl0 ?xcd0 ?xk0 ?iX0 ?tX0 ?eX0 ?hX0 ?sX0 ?xkc0 ?xmo0 ?xu0T ?xA1 ?xL1 ?xsa1 ?xga1 ?xgg1 ?xnb1 ?xi1 ?xt1 ?xl1 ?xcd1 ?xk1 ?iX1 ?tX1 ?eX1 ?hX1 ?sX1 ?xkc1 ?xmo1 ?xu1T ?xA2 ?xL2 ?xsa2 ?xga2 ?xgg2 ?xnb2 ?xi2 ?xt2 ?xl2 ?xcd2 ?xk2 ?iX2 ?tX2 ?eX2 ?hX2 ?sX2 ?xkc2 ?xmo2 ?xu2T ?xA3 ?xL3 ?xsa3 ?xga3 ?xgg3 ?xnb3 ?xi3 ?xt3 ?xl3 ?xcd3 ?xk3 ?iX3 ?tX3 ?eX3 ?hX3 ?sX3 ?xkc3 ?xmo3 ?xu3T ?v0_1 ?v0_2 ?v0_3 ?v1_0 ?v1_2 ?v1_3 ?v2_0 ?v2_1 ?v2_3 ?v3_0 ?v3_1 ?v3_2 ?pq0_1
    (case a0 => first | k_is | rfl)
    (case l0 => first | k_is | rfl)
    (case c0 => first | k_is | rfl)
    (case k0 => first | k_is | rfl)
    (case a1 => first | k_is | rfl)
    (case l1 => first | k_is | rfl)
    (case c1 => first | k_is | rfl)
    (case k1 => first | k_is | rfl)
    (case a2 => first | k_is | rfl)
    (case l2 => first | k_is | rfl)
    (case c2 => first | k_is | rfl)
    (case k2 => first | k_is | rfl)
    (case a3 => first | k_is | rfl)
    (case l3 => first | k_is | rfl)
    (case c3 => first | k_is | rfl)
    (case k3 => first | k_is | rfl)
    (case a4 => first | k_is | rfl)
    (case l4 => first | k_is | rfl)
    (case c4 => first | k_is | rfl)
    (case k4 => first | k_is | rfl)
    (case a5 => first | k_is | rfl)
    (case l5 => first | k_is | rfl)
    (case c5 => first | k_is | rfl)
    (case k5 => first | k_is | rfl)
    (case a6 => first | k_is | rfl)
    (case l6 => first | k_is | rfl)
    (case c6 => first | k_is | rfl)
    (case k6 => first | k_is | rfl)
    (case a7 => first | k_is | rfl)
    (case l7 => first | k_is | rfl)
    (case c7 => first | k_is | rfl)
    (case k7 => first | k_is | rfl)
    (case a8 => first | k_is | rfl)
    (case l8 => first | k_is | rfl)
    (case c8 => first | k_is | rfl)
    (case k8 => first | k_is | rfl)
    (case a9 => first | k_is | rfl)
    (case l9 => first | k_is | rfl)
    (case c9 => first | k_is | rfl)
    (case k9 => first | k_is | rfl)
    (case lk0 => first | k_is | rfl)
    (case hv0 => first | rfl | kernel_rfl | decide +kernel)
    (case np0 => first | kernel_rfl | rfl | decide +kernel)
    (case ch0 => first | kernel_rfl | rfl | decide +kernel)
    (case ht0 => first | exact PySem.W.km_tabs_of Y _ (.head _) | exact PySem.W.km_tabs_of Y _ (.tail _ (.head _)))
    (case a10 => first | k_is | rfl)
    (case l10 => first | k_is | rfl)
    (case c10 => first | k_is | rfl)
    (case k10 => first | k_is | rfl)
    (case a11 => first | k_is | rfl)
    (case l11 => first | k_is | rfl)
    (case c11 => first | k_is | rfl)
    (case k11 => first | k_is | rfl)
    (case a12 => first | k_is | rfl)
    (case l12 => first | k_is | rfl)
    (case c12 => first | k_is | rfl)
    (case k12 => first | k_is | rfl)
    (case a13 => first | k_is | rfl)
    (case l13 => first | k_is | rfl)
    (case c13 => first | k_is | rfl)
    (case k13 => first | k_is | rfl)
    (case a14 => first | k_is | rfl)
    (case l14 => first | k_is | rfl)
    (case c14 => first | k_is | rfl)
    (case k14 => first | k_is | rfl)
    (case a15 => first | k_is | rfl)
    (case l15 => first | k_is | rfl)
    (case c15 => first | k_is | rfl)
    (case k15 => first | k_is | rfl)
    (case a16 => first | k_is | rfl)
    (case l16 => first | k_is | rfl)
    (case c16 => first | k_is | rfl)
    (case k16 => first | k_is | rfl)
    (case a17 => first | k_is | rfl)
    (case l17 => first | k_is | rfl)
    (case c17 => first | k_is | rfl)
    (case k17 => first | k_is | rfl)
    (case a18 => first | k_is | rfl)
    (case l18 => first | k_is | rfl)
    (case c18 => first | k_is | rfl)
    (case k18 => first | k_is | rfl)
    (case a19 => first | k_is | rfl)
    (case l19 => first | k_is | rfl)
    (case c19 => first | k_is | rfl)
    (case k19 => first | k_is | rfl)
    (case a20 => first | k_is | rfl)
    (case l20 => first | k_is | rfl)
    (case c20 => first | k_is | rfl)
    (case k20 => first | k_is | rfl)
    (case a21 => first | k_is | rfl)
    (case l21 => first | k_is | rfl)
    (case c21 => first | k_is | rfl)
    (case k21 => first | k_is | rfl)
    (case a22 => first | k_is | rfl)
    (case l22 => first | k_is | rfl)
    (case c22 => first | k_is | rfl)
    (case k22 => first | k_is | rfl)
    (case a23 => first | k_is | rfl)
    (case l23 => first | k_is | rfl)
    (case c23 => first | k_is | rfl)
    (case k23 => first | k_is | rfl)
    (case a24 => first | k_is | rfl)
    (case l24 => first | k_is | rfl)
    (case c24 => first | k_is | rfl)
    (case k24 => first | k_is | rfl)
    (case a25 => first | k_is | rfl)
    (case l25 => first | k_is | rfl)
    (case c25 => first | k_is | rfl)
    (case k25 => first | k_is | rfl)
    (case a26 => first | k_is | rfl)
    (case l26 => first | k_is | rfl)
    (case c26 => first | k_is | rfl)
    (case k26 => first | k_is | rfl)
    (case a27 => first | k_is | rfl)
    (case l27 => first | k_is | rfl)
    (case c27 => first | k_is | rfl)
    (case k27 => first | k_is | rfl)
    (case a28 => first | k_is | rfl)
    (case l28 => first | k_is | rfl)
    (case c28 => first | k_is | rfl)
    (case k28 => first | k_is | rfl)
    (case a29 => first | k_is | rfl)
    (case l29 => first | k_is | rfl)
    (case c29 => first | k_is | rfl)
    (case k29 => first | k_is | rfl)
    (case a30 => first | k_is | rfl)
    (case l30 => first | k_is | rfl)
    (case c30 => first | k_is | rfl)
    (case k30 => first | k_is | rfl)
    (case a31 => first | k_is | rfl)
    (case l31 => first | k_is | rfl)
    (case c31 => first | k_is | rfl)
    (case k31 => first | k_is | rfl)
    (case a32 => first | k_is | rfl)
    (case l32 => first | k_is | rfl)
    (case c32 => first | k_is | rfl)
    (case k32 => first | k_is | rfl)
    (case a33 => first | k_is | rfl)
    (case l33 => first | k_is | rfl)
    (case c33 => first | k_is | rfl)
    (case k33 => first | k_is | rfl)
    (case a34 => first | k_is | rfl)
    (case l34 => first | k_is | rfl)
    (case c34 => first | k_is | rfl)
    (case k34 => first | k_is | rfl)
    (case a35 => first | k_is | rfl)
    (case l35 => first | k_is | rfl)
    (case c35 => first | k_is | rfl)
    (case k35 => first | k_is | rfl)
    (case a36 => first | k_is | rfl)
    (case l36 => first | k_is | rfl)
    (case c36 => first | k_is | rfl)
    (case k36 => first | k_is | rfl)
    (case lk1 => first | k_is | rfl)
    (case hv1 => first | rfl | kernel_rfl | decide +kernel)
    (case np1 => first | kernel_rfl | rfl | decide +kernel)
    (case ch1 => first | kernel_rfl | rfl | decide +kernel)
    (case ht1 => first | exact PySem.W.km_tabs_of Y _ (.head _) | exact PySem.W.km_tabs_of Y _ (.tail _ (.head _)))
    (case a37 => first | k_is | rfl)
    (case l37 => first | k_is | rfl)
    (case c37 => first | k_is | rfl)
    (case k37 => first | k_is | rfl)
    (case a38 => first | k_is | rfl)
    (case l38 => first | k_is | rfl)
    (case c38 => first | k_is | rfl)
    (case k38 => first | k_is | rfl)
    (case a39 => first | k_is | rfl)
    (case l39 => first | k_is | rfl)
    (case c39 => first | k_is | rfl)
    (case k39 => first | k_is | rfl)
    (case y0 => first | k_is | rfl)
    (case z0 => first | k_is | rfl)
    (case z1 => first | k_is | rfl)
    (case z2 => first | k_is | rfl)
    (case z3 => first | k_is | rfl)
    (case z4 => first | k_is | rfl)
    (case z5 => first | k_is | rfl)
    (case z6 => first | k_is | rfl)
    (case z7 => first | k_is | rfl)
    (case z8 => first | k_is | rfl)
    (case z9 => first | k_is | rfl)
    (case z10 => first | k_is | rfl)
    (case z11 => first | k_is | rfl)
    (case z12 => first | k_is | rfl)
    (case z13 => first | k_is | rfl)
    (case z14 => first | k_is | rfl)
    (case zc => first | k_is | rfl)
    (case aT => first | k_is | rfl)
    (case iT => first | k_is | rfl)
    (case tT => first | k_is | rfl)
    (case eT => first | k_is | rfl)
    (case hT => first | k_is | rfl)
    (case sT => first | k_is | rfl)
    (case sg => first | k_is | rfl)
    (case tkk => first | k_is | rfl)
    (case xA0 => first | k_is | rfl)
    (case xL0 => first | k_is | rfl)
    (case xsa0 => first | k_is | rfl)
    (case xga0 => first | k_is | rfl)
    (case xgg0 => first | k_is | rfl)
    (case xnb0 => first | k_is | rfl)
    (case xi0 => first | k_is | rfl)
    (case xt0 => first | k_is | rfl)
    (case xl0 => first | k_is | rfl)
    (case xcd0 => first | k_is | rfl)
    (case xk0 => first | k_is | rfl)
    (case iX0 => first | k_is | rfl)
    (case tX0 => first | k_is | rfl)
    (case eX0 => first | k_is | rfl)
    (case hX0 => first | k_is | rfl)
    (case sX0 => first | k_is | rfl)
    (case xkc0 => first | k_is | rfl)
    (case xmo0 => first | k_is | rfl)
    (case xu0T => first | k_is | rfl)
    (case xA1 => first | k_is | rfl)
    (case xL1 => first | k_is | rfl)
    (case xsa1 => first | k_is | rfl)
    (case xga1 => first | k_is | rfl)
    (case xgg1 => first | k_is | rfl)
    (case xnb1 => first | k_is | rfl)
    (case xi1 => first | k_is | rfl)
    (case xt1 => first | k_is | rfl)
    (case xl1 => first | k_is | rfl)
    (case xcd1 => first | k_is | rfl)
    (case xk1 => first | k_is | rfl)
    (case iX1 => first | k_is | rfl)
    (case tX1 => first | k_is | rfl)
    (case eX1 => first | k_is | rfl)
    (case hX1 => first | k_is | rfl)
    (case sX1 => first | k_is | rfl)
    (case xkc1 => first | k_is | rfl)
    (case xmo1 => first | k_is | rfl)
    (case xu1T => first | k_is | rfl)
    (case xA2 => first | k_is | rfl)
    (case xL2 => first | k_is | rfl)
    (case xsa2 => first | k_is | rfl)
    (case xga2 => first | k_is | rfl)
    (case xgg2 => first | k_is | rfl)
    (case xnb2 => first | k_is | rfl)
    (case xi2 => first | k_is | rfl)
    (case xt2 => first | k_is | rfl)
    (case xl2 => first | k_is | rfl)
    (case xcd2 => first | k_is | rfl)
    (case xk2 => first | k_is | rfl)
    (case iX2 => first | k_is | rfl)
    (case tX2 => first | k_is | rfl)
    (case eX2 => first | k_is | rfl)
    (case hX2 => first | k_is | rfl)
    (case sX2 => first | k_is | rfl)
    (case xkc2 => first | k_is | rfl)
    (case xmo2 => first | k_is | rfl)
    (case xu2T => first | k_is | rfl)
    (case xA3 => first | k_is | rfl)
    (case xL3 => first | k_is | rfl)
    (case xsa3 => first | k_is | rfl)
    (case xga3 => first | k_is | rfl)
    (case xgg3 => first | k_is | rfl)
    (case xnb3 => first | k_is | rfl)
    (case xi3 => first | k_is | rfl)
    (case xt3 => first | k_is | rfl)
    (case xl3 => first | k_is | rfl)
    (case xcd3 => first | k_is | rfl)
    (case xk3 => first | k_is | rfl)
    (case iX3 => first | k_is | rfl)
    (case tX3 => first | k_is | rfl)
    (case eX3 => first | k_is | rfl)
    (case hX3 => first | k_is | rfl)
    (case sX3 => first | k_is | rfl)
    (case xkc3 => first | k_is | rfl)
    (case xmo3 => first | k_is | rfl)
    (case xu3T => first | k_is | rfl)
    (case v0_1 => first | k_is | rfl)
    (case v0_2 => first | k_is | rfl)
    (case v0_3 => first | k_is | rfl)
    (case v1_0 => first | k_is | rfl)
    (case v1_2 => first | k_is | rfl)
    (case v1_3 => first | k_is | rfl)
    (case v2_0 => first | k_is | rfl)
    (case v2_1 => first | k_is | rfl)
    (case v2_3 => first | k_is | rfl)
    (case v3_0 => first | k_is | rfl)
    (case v3_1 => first | k_is | rfl)
    (case v3_2 => first | k_is | rfl)
    (case pq0_1 => decide +kernel)
