import PyProof.Rows.All
import Wide.All
import OpenK.AllK
import Wide.FinOn
import HandS.ForMost
import HandS.IsInst
import PyProof.ReprRoads
import HandS.Walk
import HandS.Text
import PyProof.StrOps2
import PyProof.ReprText
import KE.GoesMore
import HandS.Iter
import HandS.DictComp
import HandS.More
import HandS.Property
import HandS.TupMul
import HandS.ExcInit
import HandS.ExcField
import HandS.WordsExc
import HandS.ExcOwn
import HandS.TryOnly
import HandS.Zip
import HandS.Deep
import HandS.ExcIs
import KE.KExcIs
import KE.DataMinMax
import KE.LtData
import PyProof.Rows.StrMeet
import HandS.Comp
import HandS.HotCalls
import HandS.ExcCtx
import HandS.Style
import HandS.WordsDict
import HandS.TupAny
import HandS.CallLocal
import HandS.Call
import PySem.Challenge.RW_openlanes_k25_moves_refused
set_option Elab.async false
set_option linter.all false
set_option maxRecDepth 100000
set_option maxHeartbeats 4000000
/-! Own rules: defs that may show data (no display is under way), and the law's end for them. -/
namespace Ol
open PySem PySem.Spec PyProof.Rows L2

/-- a def's promise where no display is under way -/
structure FnG (P : Program) (w : World) (K : PySem.W.Frag)
    (mg : Str → Option Value) (base : Heap) (k : Nat)
    (f : Addr) (fd : FuncData) (ps : List Str) (sp : Sp) : Prop where
  len : ∀ vs H Q E, sp vs H Q E → vs.length = ps.length
  go : ∀ (A : Around) (outer : List Env) (s : Shared) (H : Hp)
    (args : Args) (us : List Value) (vs : List V) (Q : VK) (E : XK),
    A.guards = some [] → Room k A → Env0 P w K mg base A outer s H →
    BindsTo s fd args (ps.zip us) → Vals vs us → sp vs H Q E →
    codeAny (model P w) A (.call (.ref f) args)
      (CR CX0 outer P w H s Q E) s

section
variable {P : Program} {w : World} {K : PySem.W.Frag}
  {mg : Str → Option Value} {base : Heap} {k : Nat}

theorem FnG.of {f : Addr} {fd : FuncData} {ps : List Str} {sp : Sp}
    (F : FnOk P w K mg base CX0 k f fd ps sp) : FnG P w K mg base k f fd ps sp :=
  ⟨F.len, fun A o s H as us vs Q E _ r => F.run A o s H as us vs Q E r⟩

/-- the rule for a def, its body's context has no display under way -/
theorem okG {x qual : Str} {st : Stmt} {f : Addr} {fd : FuncData}
    {N ps : List Str} {sp : Sp} (F : Fun K x qual st f fd)
    (S : FnScope N ps (defScope st))
    (len : ∀ vs H Q E, sp vs H Q E → vs.length = ps.length)
    (body : ∀ (cdv : Value) (A : Around) (outer : List Env) (s : Shared)
      (H : Hp) (vs : List V) (Q : VK) (E : XK),
      (A.deeper (envOfC qual (defScope st) s.heap.objs.size f cdv)).guards = some [] →
      Room k (A.deeper (envOfC qual (defScope st) s.heap.objs.size f cdv)) →
      sp vs H Q E → ∃ t,
        PSs (cxOf CX0 P w K mg base N qual (defScope st) f cdv A outer s H E).nox
          (defBody st) t ∧
        t { nx := fun _ H' => Q .non H', rt := Q } (start N vs) H) :
    FnG P w K mg base (k + 1) f fd ps sp := by
  obtain ⟨oc, od, kV, doc, pm, an, cdv, ct, osl, rfl, lk, hcd⟩ := F.ex
  refine ⟨len, ?_⟩
  intro A outer s H args us vs Q E hG room e0 hb rv hsp
  have hlen := len _ _ _ _ hsp
  have kin : K.In s.heap :=
    e0.mod.kin.keeps (fun b o e => (e0.bs b o e).1)
  have nol : s.heap.NoLimit :=
    e0.mod.nolimit.keeps (fun b o e => (e0.bs b o e).1)
  have kinds : ∀ y ∈ ps.zip us,
      (defScope st).names.lookup y.1 = some .local ∨
      ((defScope st).names.lookup y.1 = some .cell ∧
        ((cellsFrom (s.heap.objs.size + 1) (defScope st).names []).lookup y.1).isSome = true) := by
    rintro ⟨n, v⟩ hy
    cases S.par n (List.of_mem_zip hy).1 with
    | inl q => exact Or.inl q
    | inr q => exact Or.inr ⟨q, PySem.W.cellsFrom_some _ _ _ (Or.inl q)⟩
  refine codeAny_call_function room.depth (kin _ _ lk) rfl S.co S.gen rfl
    (PySem.W.codeRec_of kin hcd) (hb _ _ _ _ ?_)
  refine wpAny_newFunctionEnv_cells S.kind kinds ?_
  intro env he s1 x
  subst he
  refine ⟨nol.keeps x.toInCall.keep, codeAny_func ?_⟩
  have hG' : (A.deeper (envOfC qual (defScope st) s.heap.objs.size f cdv)).guards = some [] := by
    exact hG
  obtain ⟨t, ht0, hq⟩ := body cdv A outer s H vs Q E hG' (room.deeper _) hsp
  have ht := ht0.nox
  have I := inv_start (CX := CX0) (E := E) S room.hd e0 hlen rv x
  have out : ∀ {σ' : L2.St} {H' : Hp} {v : V} {u : Value} {s' : Shared},
      Inv (cxOf CX0 P w K mg base N qual (defScope st) f cdv A outer s H E) [] σ' H' s' →
      RelV v u → Q v H' → CE outer P w H s Q u s' :=
    fun J r q => ⟨_, _, J.os, J.bare, J.base, J.hok, r, q⟩
  refine wpAny_mono (ht.run [] s1 (start N vs) H _ I hq) ?_ (fun _ _ z => z)
  intro fl s' hs
  cases fl with
  | next =>
    obtain ⟨_, _, J, q⟩ := hs
    exact out (v := V.non) (u := Value.none) J rfl q
  | ret u =>
    obtain ⟨_, _, _, J, r, q⟩ := hs
    exact out J r q
  | brk => exact hs.choose_spec.choose_spec.2.elim
  | cont => exact hs.choose_spec.choose_spec.2.elim
end

section
variable {X : Cx} {k : Nat} {f : Addr} {fd : FuncData} {ps : List Str}
  {sp : Sp} {E : XK} {x : Str} {e : Expr} {es : List Expr} {t : TA}
  {p pos : Pos} {ds : List Value} {dvs : List V}
/-- f(..) of such a def -/
theorem pe_callG (F : FnG X.prog X.w X.K X.mg X.base k f fd ps sp)
    (hG : X.A.guards = some []) (hr : Room k X.A) (hg : Gl X x)
    (hm : X.mg x = some (.ref f)) (hk : PySem.W.keepIn X.K (.ref f) = true)
    (hb : Binds X.K fd ps []) (ha : PA X (e :: es) t)
    (hdb : (x == ("__debug__" : Str)) = false := by decide)
    (he : starEach (e :: es) X.env = (false, eval e X.env) :: starEach es X.env := by rfl)
    (hpl : (backTo pos (starEach es X.env)).any (·.1) = false := by rfl) :
    PE X (.Call (.Name x p) (e :: es) [] pos) (tCall sp [] E0 t) := by
  constructor
  intro pins s σ H Q I h
  apply wpAny_Call_Name_kw
  apply ld_glob I hg hm (hd := hdb)
  refine PySem.W.callWith_K (h₀ := X.base) I.ok.mod.kin hk ?_ he hpl
  refine thn (ha.run pos pins s σ H _ I h) ?_
  rintro us s1 ⟨vs, H1, I1, r, q⟩
  refine ⟨I1.kIn, ?_⟩
  have q' : sp vs H1 Q E0 := by
    have z : sp (vs ++ []) H1 Q E0 := q
    rwa [List.append_nil] at z
  have hl : us.length = ps.length := by
    rw [← r.length]
    exact F.len _ _ _ _ q'
  have hbs := hb s1 us I1.kIn (by simpa using hl)
  rw [List.append_nil] at hbs
  refine wpAny_call (codeAny_mono (F.go X.A X.stack s1 H1 ⟨us, []⟩ us vs Q E0 hG hr I1.env0 hbs r q') ?_)
  intro res s2 hres
  cases res with
  | error z => exact False.elim hres
  | ok fl =>
    cases fl with
    | ret u => exact I1.after hres
    | next => exact False.elim hres
    | brk => exact False.elim hres
    | cont => exact False.elim hres
end
end Ol

set_option Elab.async false
set_option linter.all false
set_option maxRecDepth 100000
set_option maxHeartbeats 4000000
namespace Ol
open PySem PySem.Spec PyProof.Rows L2

/-- the table of modules is set aside: no list stands there -/
def Sys (H : Hp) : Prop := ∃ o u, H sysModules = some (.frz o u)

/-- every tracked object is locked -/
def Lockd (H : Hp) : Prop := ∀ b u, H b = some u → ∃ o v, u = .frz o v

section
variable {P : Program} {w : World} {K : PySem.W.Frag} {mg mb : Str → Option Value}
  {k : Nat} {fa a : Addr} {fd : FuncData} {x : Str} {sp : Sp} {s1 : Shared}

/-- the call of the law from a heap in which some objects are locked -/
theorem enterG (H : Hp) (hL : Lockd H) (ok : HOk P w H s1.heap)
    (hK : ∀ b, H b ≠ none → K.lookup b = none)
    (hN : ∀ b m, s1.heap.Ns b m → (b = 0 ∨ b = 3 ∨ b = cStatics) → H b = none)
    (kin : K.In s1.heap) (hns : s1.heap.Ns mainGlobals mg) (hb : s1.heap.Ns builtinsNs mb)
    (hbb : ∀ y : Str, y ≠ "__name__" → mb y = bootBuiltins y)
    (hlim : s1.heap.NoLimit) (hg : s1.gens = #[]) (hr : Room k callerA)
    (F : ∀ base : Heap, K.In base → base.Ns mainGlobals mg → FnG P w K mg base k fa fd [x] sp)
    (bind : ∀ (s : Shared) (u : Value), BindsTo s fd ⟨[u], []⟩ [(x, u)])
    (hsp : sp [.ref a] H (fun v _ => v = .bl true) E0) :
    codeAny (model P w) callerA (.call (.ref fa) ⟨[.ref a], []⟩)
      (fun r s' => r = .ok (.ret (.bool true)) ∧ OldK s1.heap s'.heap ∧
        s'.os = s1.os ∧ AllBare s'.gens) s1 := by
  have ns : ∀ {b : Addr} {m : Str → Option Value}, s1.heap.Ns b m →
      (b = 0 ∨ b = 3 ∨ b = cStatics) → (hidT s1.heap H).Ns b m := by
    intro b m h c
    have n := hN b m h c
    obtain ⟨o, es, ep, e, r⟩ := h
    exact ⟨o, es, ep, hidT_get e n, r⟩
  have kb : K.In (hidT s1.heap H) := by
    intro b o e
    refine hidT_get (kin b o e) ?_
    cases q : H b with
    | none => rfl
    | some u =>
      have z := hK b (by rw [q]; exact fun t => nomatch t)
      rw [z] at e
      cases e
  have gl : (hidT s1.heap H).Ns mainGlobals mg := ns hns (Or.inr (Or.inl rfl))
  have md : Mod K mg (hidT s1.heap H) := by
    refine ⟨kb, gl, ⟨mb, ns hb (Or.inl rfl), hbb⟩, ?_⟩
    obtain ⟨mc, h1, h2⟩ := hlim
    exact ⟨mc, ns h1 (Or.inr (Or.inr rfl)), h2⟩
  have e0 : Env0 P w K mg (hidT s1.heap H) callerA [] s1 H := by
    refine ⟨rfl, md, fun b o e => of_hidT e, Nat.le_of_eq (hidT_size _ _), trivial, ?_, ok, .of_eq hg⟩
    intro b hb
    cases hb
  have run := (F _ kb gl).go callerA [] s1 H ⟨[.ref a], []⟩ [.ref a] [.ref a]
    (fun v _ => v = .bl true) E0 rfl hr e0 (bind s1 (.ref a)) (.cons rfl .nil) hsp
  refine codeAny_mono run ?_
  intro r s' h
  match r, h with
  | .error e, h => exact h.elim
  | .ok .next, h => exact h.elim
  | .ok .brk, h => exact h.elim
  | .ok .cont, h => exact h.elim
  | .ok (.ret u), h =>
    obtain ⟨v, H', os, bare, un, ok', rv, q⟩ := h
    have q' : v = .bl true := q
    subst q'
    have eu : u = Value.bool true := rv
    subst eu
    refine ⟨rfl, OldK.of_keep ?_, os, bare⟩
    intro b o e
    cases q : H b with
    | none => exact un.keep b o e q (fun z => nomatch z) (fun z => nomatch z)
    | some u =>
      obtain ⟨ob, v, rfl⟩ := hL b u q
      have q2 := un.frzs b ob v q
      have e1 : s1.heap.get? b = some ob := (ok b _ q).1
      have e2 : s'.heap.get? b = some ob := (ok' b _ q2).1
      rw [e] at e1
      cases e1
      exact e2

/-- the law's heap at its entry: the script locked (or of the module), the table of modules locked -/
theorem law_callG {vs : List Value} {ns : List Int}
    (kin : K.In s1.heap) (kS : K.lookup sysModules = none)
    (hS : ∃ o, s1.heap.get? sysModules = some o)
    (hns : s1.heap.Ns mainGlobals mg) (hb : s1.heap.Ns builtinsNs mb)
    (hbb : ∀ y : Str, y ≠ "__name__" → mb y = bootBuiltins y)
    (hlim : s1.heap.NoLimit) (hg : s1.gens = #[])
    (ha : s1.heap.get? a = some { cls := .type "list", data := .seq vs.toArray })
    (hi : IntsAre vs ns) (hl : ns.length ≤ sizeLine) (hr : Room k callerA)
    (F : ∀ base : Heap, K.In base → base.Ns mainGlobals mg → FnG P w K mg base k fa fd [x] sp)
    (bind : ∀ (s : Shared) (u : Value), BindsTo s fd ⟨[u], []⟩ [(x, u)])
    (hsp : ∀ H : Hp, Sys H → SqL K H a (ns.map V.int) → sp [.ref a] H (fun v _ => v = .bl true) E0) :
    codeAny (model P w) callerA (.call (.ref fa) ⟨[.ref a], []⟩)
      (fun r s' => r = .ok (.ret (.bool true)) ∧ OldK s1.heap s'.heap ∧
        s'.os = s1.os ∧ AllBare s'.gens) s1 := by
  have rv := vals_ints hi
  obtain ⟨o1, ho1⟩ := hS
  -- no namespace is locked
  have dat : ∀ b m, s1.heap.Ns b m → b ≠ a := by
    rintro b m ⟨o, es, ep, e, d, _⟩ rfl
    rw [ha] at e
    cases e
    have d' : Data.seq vs.toArray _ = Data.dict es ep := d
    cases d'
  have nsys : ∀ b : Addr, (b = 0 ∨ b = 3 ∨ b = cStatics) → b ≠ sysModules := by
    rintro b (rfl | rfl | rfl) <;> decide
  have okS : ∀ H : Hp, ObjOk P w H s1.heap sysModules (.frz o1 (.ext fun _ => True)) :=
    fun H => ⟨ho1, trivial, ⟨o1, ho1⟩, fun _ _ _ _ => trivial⟩
  cases hk : K.lookup a with
  | some o =>
    have e := kin a o hk
    rw [ha] at e
    cases e
    have hL : SqL K (fun b => if b = sysModules then some (.frz o1 (.ext fun _ => True)) else none) a (ns.map V.int) := by
      refine Or.inr ⟨_, vs.toArray, _, hk, rfl, rfl, rfl, ?_, by simpa using rv⟩
      rw [List.size_toArray, hi.length]
      exact hl
    refine enterG (fun b => if b = sysModules then some (.frz o1 (.ext fun _ => True)) else none)
      ?_ ?_ ?_ ?_ kin hns hb hbb hlim hg hr F bind (hsp _ ⟨o1, _, if_pos rfl⟩ hL)
    · intro b u q
      by_cases c : b = sysModules
      · have q' := (if_pos c).symm.trans q
        cases q'
        exact ⟨_, _, rfl⟩
      · have q' := (if_neg c).symm.trans q
        cases q'
    · intro b u q
      by_cases c : b = sysModules
      · have q' := (if_pos c).symm.trans q
        cases q'
        subst c
        exact okS _
      · have q' := (if_neg c).symm.trans q
        cases q'
    · intro b q
      by_cases c : b = sysModules
      · subst c
        exact kS
      · exact absurd (if_neg c) q
    · intro b m _ c
      exact if_neg (nsys b c)
  | none =>
    let H0 : Hp := fun b => if b = a then some (.frz { cls := .type "list", data := .seq vs.toArray } (.lst (ns.map V.int)))
      else if b = sysModules then some (.frz o1 (.ext fun _ => True)) else none
    have at_a : H0 a = some (.frz { cls := .type "list", data := .seq vs.toArray } (.lst (ns.map V.int))) := if_pos rfl
    have sysH : Sys H0 := by
      by_cases c : sysModules = a
      · exact ⟨_, _, if_pos c⟩
      · exact ⟨o1, _, (if_neg c).trans (if_pos rfl)⟩
    refine enterG H0 ?_ ?_ ?_ ?_ kin hns hb hbb hlim hg hr F bind (hsp _ sysH (Or.inl (Or.inr ⟨_, at_a⟩)))
    · intro b u q
      by_cases c : b = a
      · have q' := (if_pos c).symm.trans q
        cases q'
        exact ⟨_, _, rfl⟩
      · by_cases c2 : b = sysModules
        · have q' := ((if_neg c).trans (if_pos c2)).symm.trans q
          cases q'
          exact ⟨_, _, rfl⟩
        · have q' := ((if_neg c).trans (if_neg c2)).symm.trans q
          cases q'
    · intro b u q
      by_cases c : b = a
      · have q' := (if_pos c).symm.trans q
        cases q'
        subst c
        exact ⟨ha, by rw [List.length_map]; exact hl, vs, _, rv, ha⟩
      · by_cases c2 : b = sysModules
        · have q' := ((if_neg c).trans (if_pos c2)).symm.trans q
          cases q'
          subst c2
          exact okS _
        · have q' := ((if_neg c).trans (if_neg c2)).symm.trans q
          cases q'
    · intro b q
      by_cases c : b = a
      · rw [c]
        exact hk
      · by_cases c2 : b = sysModules
        · rw [c2]
          exact kS
        · exact absurd ((if_neg c).trans (if_neg c2)) q
    · intro b m h c
      exact (if_neg (dat b m h)).trans (if_neg (nsys b c))
end

/-- the end of a law's row, by a promise of FnG -/
theorem walkG {l : PySem.W.OpenLaw} {n k : Nat} {q : Program} {loose : List Str}
    {XP : (Str → Option Value) → Heap → Prop} {YP : World → Heap → Prop} {d : DefRec}
    {K : Params → PySem.W.Frag} {sp : World → Sp} {x : Str}
    (hn : l.most = some n) (him : importsNone q = true) (hn2 : n ≤ sizeLine) (hdf : d.params.defaults = []) (hr : Room k callerA)
    (hY : ∀ (w : World) (h : Heap), YP w h → (K w.params).In h)
    (kS : ∀ w : World, (K w.params).lookup sysModules = none)
    (F : ∀ (w : World) (mg : Str → Option Value) (fa : Addr) (h : Heap),
      (K w.params).In h → h.Ns mainGlobals mg → mg d.name = some (.ref fa) →
      ∃ fd : FuncData, (∀ (s : Shared) (u : Value), BindsTo s fd ⟨[u], []⟩ [(x, u)]) ∧
        ∀ base : Heap, (K w.params).In base → base.Ns mainGlobals mg →
          FnG l.prog w (K w.params) mg base k fa fd [x] (sp w))
    (hsp : ∀ (w : World) (H : Hp) (a : Addr) (ns : List Int), ns.length ≤ n → Sys H →
      SqL (K w.params) H a (ns.map V.int) → sp w [.ref a] H (fun v _ => v = .bl true) E0) :
    PySem.W.WalkO q loose XP YP l.row.toRowW d [] (fun f vs => PySem.call f vs) := by
  refine Att.attach_call hn hdf ?_
  intro w s0 s1 mg mb fa o pm cd doc a vs ns G Y ho hd hcd hmg hobj hints hlen hg
  have kin := hY w _ Y
  obtain ⟨fd, hb, hF⟩ := F w mg fa _ kin G.T.g hmg
  have hS : ∃ o, s1.heap.get? sysModules = some o := by
    obtain ⟨mm, ⟨o, es, ep, e, _⟩, _⟩ := (G.T.seer him).mods
    exact ⟨o, e⟩
  exact law_callG kin (kS w) hS G.T.g G.T.b G.T.builtins G.T.nolimit hg hobj hints
    (Nat.le_trans hlen hn2) hr hF hb (fun H h1 h2 => hsp w H a ns hlen h1 h2)
end Ol

set_option Elab.async false
set_option linter.all false
set_option maxRecDepth 100000
set_option maxHeartbeats 4000000
namespace Ol
open PySem PySem.Spec PyProof.Rows L2

/-- a key of a dict as data -/
def keyD : Key → PyData
  | .inl i => .int i
  | .inr x => .str x

/-! ### data of any depth, dicts with ints and texts as keys too -/
mutual
inductive Dq (H : Hp) : V → PyData → Prop
  | non : Dq H .non .none
  | bl (b : Bool) : Dq H (.bl b) (.bool b)
  | int (i : Int) : Dq H (.int i) (.int i)
  | str (x : Str) : Dq H (.str x) (.str x)
  | lst {a : Addr} {xs : List V} {ds : List PyData} :
      H a = some (.lst xs) → DqAll H xs ds → Dq H (.ref a) (.list ds)
  | tup {a : Addr} {xs : List V} {ds : List PyData} :
      H a = some (.tup xs) → DqAll H xs ds → Dq H (.ref a) (.tuple ds)
  | dct {a : Addr} {kvs : List (Key × V)} {ds : List PyData} :
      H a = some (.dK kvs) → DqAll H (kvs.map (·.2)) ds →
      Dq H (.ref a) (.dict ((kvs.map fun kv => keyD kv.1).zip ds))
inductive DqAll (H : Hp) : List V → List PyData → Prop
  | nil : DqAll H [] []
  | cons {v : V} {vs : List V} {d : PyData} {ds : List PyData} :
      Dq H v d → DqAll H vs ds → DqAll H (v :: vs) (d :: ds)
end

theorem DqAll.len {H : Hp} : ∀ {vs : List V} {ds : List PyData}, DqAll H vs ds → vs.length = ds.length
  | [], _, h => by cases h; rfl
  | v :: vs, _, h => by
    cases h with
    | cons _ t => rw [List.length_cons, List.length_cons, t.len]

/-- what is tracked in H stands in H' as well -/
def Ext (H H' : Hp) : Prop := ∀ b o, H b = some o → H' b = some o

mutual
theorem Dq.up {H H' : Hp} (e : Ext H H') : ∀ {v : V} {d : PyData}, Dq H v d → Dq H' v d
  | _, _, .non => .non
  | _, _, .bl b => .bl b
  | _, _, .int i => .int i
  | _, _, .str x => .str x
  | _, _, .lst h t => .lst (e _ _ h) (DqAll.up e t)
  | _, _, .tup h t => .tup (e _ _ h) (DqAll.up e t)
  | _, _, .dct h t => .dct (e _ _ h) (DqAll.up e t)
theorem DqAll.up {H H' : Hp} (e : Ext H H') : ∀ {vs : List V} {ds : List PyData}, DqAll H vs ds → DqAll H' vs ds
  | _, _, .nil => .nil
  | _, _, .cons h t => .cons (Dq.up e h) (DqAll.up e t)
end

section
variable {X : Cx} {pins : List (Addr × Obj)} {σ : L2.St} {H : Hp} {s : Shared}

theorem keys_reads {h : Heap} {knd : List (Key × Value)} : ∀ {kvs : List (Key × V)} {es : List DictEntry} {vs : List (Key × Value)},
    L2.KV kvs vs → Pairs (mixKind X.prog X.w) es vs →
    ReadsAll h (es.map (·.key)) (kvs.map fun kv => keyD kv.1) [] ∧ Vals (kvs.map (·.2)) (es.map (·.val))
  | [], es, _, r, p => by
    cases r
    cases p
    exact ⟨.nil, .nil⟩
  | kv :: kvs, es, _, r, p => by
    cases r with
    | cons r1 r2 =>
      cases p with
      | cons p1 p2 p3 =>
        obtain ⟨q1, q2⟩ := keys_reads (h := h) (knd := knd) r2 p3
        refine ⟨?_, .cons ?_ q2⟩
        case refine_2 =>
          have z := r1.2
          rw [← p2] at z
          exact z
        have e1 := r1.1
        rw [← e1] at p1
        rcases keyIs_shape p1 with ⟨i, t, e, e'⟩ | ⟨x, t, e, e'⟩
        · have z := ReadsAll.cons (Reads.int (h := h) i t) q1
          rw [List.map_cons, List.map_cons, e, e']
          exact z
        · have z := ReadsAll.cons (Reads.str (h := h) x t) q1
          rw [List.map_cons, List.map_cons, e, e']
          exact z

theorem zip_fst {α β : Type} : ∀ {xs : List α} {ys : List β}, xs.length = ys.length → (xs.zip ys).map (·.1) = xs
  | [], _, _ => by simp
  | x :: xs, [], h => by simp at h
  | x :: xs, y :: ys, h => by
    rw [List.zip_cons_cons, List.map_cons, zip_fst (by simpa using h)]
theorem zip_snd {α β : Type} : ∀ {xs : List α} {ys : List β}, xs.length = ys.length → (xs.zip ys).map (·.2) = ys
  | [], [], _ => by simp
  | [], y :: ys, h => by simp at h
  | x :: xs, [], h => by simp at h
  | x :: xs, y :: ys, h => by
    rw [List.zip_cons_cons, List.map_cons, zip_snd (by simpa using h)]

mutual
theorem Dq.reads (I : Inv X pins σ H s) (S : Sys H) : ∀ {v : V} {d : PyData} {u : Value}, Dq H v d → RelV v u →
    ∃ as, Reads s.heap u d as ∧ sysModules ∉ as
  | _, _, _, .non, r => by
    cases r
    exact ⟨_, Reads.none, nofun⟩
  | _, _, _, .bl b, r => by
    cases r
    exact ⟨_, Reads.bool b, nofun⟩
  | _, _, _, .int i, r => by
    obtain ⟨t, rfl⟩ := r
    exact ⟨_, Reads.int i t, nofun⟩
  | _, _, _, .str x, r => by
    obtain ⟨t, rfl⟩ := r
    exact ⟨_, Reads.str x t, nofun⟩
  | _, _, _, .lst (a := a) (xs := xs) h t, r => by
    cases r
    obtain ⟨_, its, n, rv, e⟩ := I.hok a _ h
    obtain ⟨as, q, n1⟩ := DqAll.reads I S t rv
    refine ⟨_, Reads.list e rfl rfl q, ?_⟩
    intro m
    rcases List.mem_cons.mp m with m | m
    · obtain ⟨o, u, hs⟩ := S
      rw [m, h] at hs
      cases hs
    · exact n1 m
  | _, _, _, .tup (a := a) (xs := xs) h t, r => by
    cases r
    obtain ⟨_, its, rv, o, e, c, n, d⟩ := I.hok a _ h
    obtain ⟨as, q, n1⟩ := DqAll.reads I S t rv
    exact ⟨_, Reads.tuple e c d q, n1⟩
  | _, _, _, .dct (a := a) (kvs := kvs) (ds := ds) h t, r => by
    cases r
    obtain ⟨_, na, vs, rel, o, es, ep, e, ex, hd, _, pr, _⟩ := I.hok a _ h
    obtain ⟨q1, q2⟩ := keys_reads (X := X) (h := s.heap) (knd := vs) rel pr
    obtain ⟨bs, q3, n1⟩ := DqAll.reads I S t q2
    have hl : (kvs.map fun kv => keyD kv.1).length = ds.length := by
      rw [List.length_map, ← t.len, List.length_map]
    refine ⟨_, Reads.dict (kvs := (kvs.map fun kv => keyD kv.1).zip ds) e ex.1 hd (as := []) (bs := bs) ?_ ?_, ?_⟩
    · rw [zip_fst hl]
      exact q1
    · rw [zip_snd hl]
      exact q3
    · intro m
      rcases List.mem_cons.mp m with m | m
      · rw [← m] at na
        exact absurd na (by decide)
      · exact n1 (by simpa using m)
theorem DqAll.reads (I : Inv X pins σ H s) (S : Sys H) : ∀ {vs : List V} {ds : List PyData} {us : List Value}, DqAll H vs ds → Vals vs us →
    ∃ as, ReadsAll s.heap us ds as ∧ sysModules ∉ as
  | _, _, _, .nil, r => by
    cases r
    exact ⟨_, ReadsAll.nil, nofun⟩
  | _, _, _, .cons h t, r => by
    cases r with
    | cons r1 r2 =>
      obtain ⟨as, q1, n1⟩ := Dq.reads I S h r1
      obtain ⟨bs, q2, n2⟩ := DqAll.reads I S t r2
      refine ⟨_, ReadsAll.cons q1 q2, ?_⟩
      intro m
      rcases List.mem_append.mp m with m | m
      · exact n1 m
      · exact n2 m
end
end

/-- repr(x) of data -/
def rRepr : List V → Hp → VK → Prop := fun vs H Q => ∃ v d, vs = [v] ∧ Sys H ∧ Dq H v d ∧
  d.showable = true ∧ d.depth ≤ 40 ∧ d.shown.length ≤ sizeLine ∧ Q (.str d.shown) H

theorem call_reprD {X : Cx} {k : Nat} (hG : X.A.guards = some []) (hr : Room k X.A) : CallR X (.builtin "repr") rRepr := by
  intro pins s σ H vs us Q I r h
  obtain ⟨v, d, rfl, S, hd, hs, hdp, hz, q⟩ := h
  obtain ⟨u, rfl, ru⟩ := vals1 r
  have hu := hr.units
  obtain ⟨as, rd, n1⟩ := Dq.reads I S hd ru
  have leaf : ∀ {x : Str}, x = d.shown → EP X pins σ Q (.str x s.toks) { s with toks := s.toks + 1 } := by
    rintro x rfl
    exact ⟨.str _, H, I.tok _, ⟨_, rfl⟩, q⟩
  cases hd with
  | non =>
    cases ru
    exact PySem.P.repr_of_none (leaf (by simp only [PyData.shown]))
  | bl b =>
    cases ru
    exact PySem.P.repr_of_bool (leaf (by simp only [PyData.shown]))
  | int i =>
    obtain ⟨t, rfl⟩ := ru
    exact PySem.P.repr_of_int (by simpa [PyData.showable] using hs) (leaf (by simp only [PyData.shown]))
  | str x =>
    obtain ⟨t, rfl⟩ := ru
    exact PySem.P.repr_of_str (leaf (by simp only [PyData.shown])) (by simpa only [PyData.shown] using hz)
  | lst h t =>
    cases ru
    exact repr_of_reads' rd hs (fun _ => n1) hG (by omega) (fun _ _ e => e)
      (fun h' u tk hk => ⟨.str _, H, I.kept (t' := tk) hk, ⟨u, rfl⟩, q⟩) hz
  | tup h t =>
    cases ru
    exact repr_of_reads' rd hs (fun _ => n1) hG (by omega) (fun _ _ e => e)
      (fun h' u tk hk => ⟨.str _, H, I.kept (t' := tk) hk, ⟨u, rfl⟩, q⟩) hz
  | dct h t =>
    cases ru
    exact repr_of_reads' rd hs (fun _ => n1) hG (by omega) (fun _ _ e => e)
      (fun h' u tk hk => ⟨.str _, H, I.kept (t' := tk) hk, ⟨u, rfl⟩, q⟩) hz
end Ol

set_option Elab.async false
set_option linter.all false
set_option maxRecDepth 100000
set_option maxHeartbeats 4000000
namespace Ol
open PySem PySem.Spec PyProof.Rows L2

theorem Ext.refl (H : Hp) : Ext H H := fun _ _ e => e
theorem Ext.trans {H H1 H2 : Hp} (a : Ext H H1) (b : Ext H1 H2) : Ext H H2 := fun c o e => b c o (a c o e)
theorem Ext.new {H : Hp} {p : Addr} {o : HO} (h : H p = none) : Ext H (upd H p o) := fun b u e => by
  rw [upd_ne (ne_of_none e h)]
  exact e
/-- what was not tracked at the start may change -/
theorem Ext.mut {H H' : Hp} {p : Addr} {o : HO} (e : Ext H H') (h : H p = none) : Ext H (upd H' p o) := fun b u eb => by
  rw [upd_ne (ne_of_none eb h)]
  exact e b u eb
theorem Ext.free {H H' : Hp} (e : Ext H H') {p : Addr} (h : H' p = none) : H p = none := by
  cases q : H p with
  | none => rfl
  | some o =>
    rw [e p o q] at h
    cases h

/-- xs[j] read, for xs[j] += e -/
def rGetL (K : PySem.W.Frag) : V → V → Hp → VK → Prop := fun x y H Q => ∃ (p : Addr) (xs : List V) (j : Nat) (v : V),
  x = .ref p ∧ y = .int (j : Int) ∧ SqL K H p xs ∧ xs[j]? = some v ∧ Q v H
theorem get_list {X : Cx} : PGet X (rGetL X.K) := by
  intro pins s σ H o i ov iv Q I ro ri h
  obtain ⟨p, xs, j, v, rfl, rfl, hq, hj, q⟩ := h
  cases ro
  obtain ⟨t, rfl⟩ := ri
  obtain ⟨its, r, pl, hz⟩ := I.list hq
  obtain ⟨u, eu, ru⟩ := r.get hj
  have hlt : j < xs.length := (List.getElem?_eq_some_iff.mp hj).1
  have h63 := line63
  refine wpAny_getItem_list (x := u) pl.isList (by omega) (by omega) (by simpa using eu) ?_
  exact ⟨v, H, I, ru, q⟩

/-- one statement, then the rest of a block, with what holds between -/
theorem cutB {X : Cx} {s : Stmt} {r : List Stmt} {D : Ends} {σ : L2.St} {H : Hp} (W : L2.St → Hp → Prop)
    (h2 : ∃ t2, PSs X r t2 ∧ ∀ σ' H', W σ' H' → t2 D σ' H')
    (h1 : ∃ t1, PS X s t1 ∧ ∀ nx : L2.St → Hp → Prop, (∀ σ' H', W σ' H' → nx σ' H') → t1 { D with nx := nx } σ H) :
    ∃ t, PSs X (s :: r) t ∧ t D σ H := by
  obtain ⟨t2, d2, k2⟩ := h2
  obtain ⟨t1, d1, k1⟩ := h1
  exact ⟨_, pss_cons d1 d2, k1 _ k2⟩

/-- no built-in name is taken by the module -/
structure BT (mg : Str → Option Value) : Prop where
  n_len : mg "len" = none
  n_int : mg "int" = none
  n_abs : mg "abs" = none
  n_range : mg "range" = none
  n_repr : mg "repr" = none
  n_isinstance : mg "isinstance" = none
  n_all : mg "all" = none
  n_tuple : mg "tuple" = none
  n_list : mg "list" = none
  n_str : mg "str" = none
  n_bool : mg "bool" = none
  n_dict : mg "dict" = none
  n_sorted : mg "sorted" = none

/-! ### the bag: a list of three ints and the cells; its ints are set aside -/
def bagL (b0 b1 b2 : Int) (c : Addr) : List V := [.int b0, .int b1, .int b2, .ref c]
structure BagI (b0 b1 b2 : Int) : Prop where
  h0 : 0 ≤ b0
  h1 : 0 ≤ b1
  h1' : b1 < 2147483647
  h2 : 0 ≤ b2
def bagP (a c : Addr) : Heap → Prop := fun h => ∃ (b0 b1 b2 : Int) (t0 t1 t2 : Tok) (n : Nat),
  h.get? a = some { cls := .type "list", data := .seq #[.int b0 t0, .int b1 t1, .int b2 t2, .ref c] n } ∧ BagI b0 b1 b2
def Bag (H : Hp) (a : Addr) : Prop := ∃ (c : Addr) (ns : List Int), H a = some (.ext (bagP a c)) ∧
  H c = some (.lst (ns.map V.int)) ∧ (∀ n ∈ ns, 0 ≤ n)
theorem Bag.up {H H' : Hp} {a : Addr} (e : Ext H H') : Bag H a → Bag H' a
  | ⟨c, ns, h1, h2, h3⟩ => ⟨c, ns, e _ _ h1, e _ _ h2, h3⟩

/-- a draw, the bag's ints told -/
def spTake0 : Sp := fun vs H Q _ => ∃ (a c : Addr) (b0 b1 b2 : Int) (ns : List Int) (m : Int),
  vs = [.ref a, .int m] ∧ H a = some (.lst (bagL b0 b1 b2 c)) ∧ H c = some (.lst (ns.map V.int)) ∧ (∀ n ∈ ns, 0 ≤ n) ∧
  BagI b0 b1 b2 ∧ 0 < m ∧ m < 1073741824 ∧
  ∀ (r x0 x1 x2 : Int), 0 ≤ r → r < m → BagI x0 x1 x2 → Q (.int r) (upd H a (.lst (bagL x0 x1 x2 c)))
/-- a draw, the bag set aside -/
def spTake : Sp := fun vs H Q _ => ∃ (a : Addr) (m : Int), vs = [.ref a, .int m] ∧ Bag H a ∧ 0 < m ∧ m < 1073741824 ∧
  ∀ r : Int, 0 ≤ r → r < m → Q (.int r) H

section
variable {P : Program} {w : World} {K : PySem.W.Frag} {mg : Str → Option Value} {base : Heap}

theorem hide {k : Nat} {f : Addr} {fd : FuncData} {ps : List Str} (F : FnOk P w K mg base CX0 k f fd ps spTake0) :
    FnOk P w K mg base CX0 k f fd ps spTake := by
  refine ⟨?_, ?_⟩
  · rintro vs H Q E ⟨a, m, rfl, ⟨c, ns, h1, h2, h3⟩, hm, hm2, q⟩
    have hca : c ≠ a := ne_of h2 h1 (fun z => nomatch z)
    exact F.len [.ref a, .int m] (upd H a (.lst (bagL 0 0 0 c))) (fun _ _ => True) E0
      ⟨a, c, 0, 0, 0, ns, m, rfl, upd_same, by rw [upd_ne hca]; exact h2, h3, ⟨by decide, by decide, by decide, by decide⟩, hm, hm2, fun _ _ _ _ _ _ _ => trivial⟩
  · rintro A outer s H args us vs Q E hr e0 hb rv ⟨a, m, rfl, ⟨c, ns, h1, h2, h3⟩, hm, hm2, q⟩
    have hca : c ≠ a := ne_of h2 h1 (fun z => nomatch z)
    obtain ⟨⟨b0, b1, b2, t0, t1, t2, n, eo, bi⟩, _, _⟩ := e0.hok a _ h1
    have mu : Mut (H a) := by
      rw [h1]
      trivial
    have nw : ObjOk P w (upd H a (.lst (bagL b0 b1 b2 c))) s.heap a (.lst (bagL b0 b1 b2 c)) :=
      ⟨by show 4 ≤ sizeLine; decide, [.int b0 t0, .int b1 t1, .int b2 t2, .ref c], n, .cons ⟨t0, rfl⟩ (.cons ⟨t1, rfl⟩ (.cons ⟨t2, rfl⟩ (.cons rfl .nil))), eo⟩
    have ok1 : HOk P w (upd H a (.lst (bagL b0 b1 b2 c))) s.heap := HOk.write e0.hok mu (Or.inl rfl) (fun _ _ _ z => z) ⟨_, eo⟩ nw
    have un1 : Un (frs outer) [] H (upd H a (.lst (bagL b0 b1 b2 c))) s.heap s.heap := Un.write mu (Or.inl rfl) (fun _ _ _ z => z) ⟨_, eo⟩
    have none1 : ∀ b, H b = none → upd H a (.lst (bagL b0 b1 b2 c)) b = none := fun b z => by
      rw [upd_ne (fun y => by rw [y, h1] at z; cases z)]
      exact z
    have e1 : Env0 P w K mg base A outer s (upd H a (.lst (bagL b0 b1 b2 c))) :=
      ⟨e0.frames, e0.mod, fun b o z => ⟨(e0.bs b o z).1, none1 b (e0.bs b o z).2⟩, e0.bsz, e0.funs, fun b z => none1 b (e0.frf b z), ok1, e0.bare⟩
    have run := F.run A outer s (upd H a (.lst (bagL b0 b1 b2 c))) args us [.ref a, .int m]
      (fun v H' => ∃ (r x0 x1 x2 : Int), v = .int r ∧ 0 ≤ r ∧ r < m ∧ BagI x0 x1 x2 ∧ H' = upd (upd H a (.lst (bagL b0 b1 b2 c))) a (.lst (bagL x0 x1 x2 c)))
      E hr e1 hb rv ⟨a, c, b0, b1, b2, ns, m, rfl, upd_same, by rw [upd_ne hca]; exact h2, h3, bi, hm, hm2, fun r x0 x1 x2 g1 g2 g3 => ⟨r, x0, x1, x2, rfl, g1, g2, g3, rfl⟩⟩
    refine codeAny_mono run ?_
    intro res s' h
    match res, h with
    | .error _, h => exact h.elim
    | .ok .next, h => exact h.elim
    | .ok .brk, h => exact h.elim
    | .ok .cont, h => exact h.elim
    | .ok (.ret u), h =>
      obtain ⟨v, H', os, bare, un, hok', rv', r, x0, x1, x2, rfl, g1, g2, g3, eH⟩ := h
      have hb' : H' a = some (.lst (bagL x0 x1 x2 c)) := by rw [eH, upd_same]
      have back : upd H' a (.ext (bagP a c)) = H := by
        rw [eH, upd_upd, upd_upd]
        funext b
        by_cases z : b = a
        · rw [z, upd_same, h1]
        · rw [upd_ne z]
      have mu' : Mut (H' a) := by
        rw [hb']
        trivial
      obtain ⟨_, its, n', r', eo'⟩ := hok' a _ hb'
      have shape : ∃ y0 y1 y2, its = [.int x0 y0, .int x1 y1, .int x2 y2, .ref c] := by
        cases r' with
        | cons q0 r' => cases r' with
          | cons q1 r' => cases r' with
            | cons q2 r' => cases r' with
              | cons q3 r' =>
                cases r'
                obtain ⟨y0, rfl⟩ := q0
                obtain ⟨y1, rfl⟩ := q1
                obtain ⟨y2, rfl⟩ := q2
                cases q3
                exact ⟨y0, y1, y2, rfl⟩
      obtain ⟨y0, y1, y2, rfl⟩ := shape
      have nw' : ObjOk P w (upd H' a (.ext (bagP a c))) s'.heap a (.ext (bagP a c)) := by
        refine ⟨⟨x0, x1, x2, y0, y1, y2, n', eo', g3⟩, ⟨_, eo'⟩, ?_⟩
        rintro g g' ⟨z0, z1, z2, w0, w1, w2, n2, e2, i2⟩ hk
        exact ⟨z0, z1, z2, w0, w1, w2, n2, hk _ e2, i2⟩
      have ok2 := HOk.write hok' mu' (Or.inl rfl) (fun _ _ _ z => z) ⟨_, eo'⟩ nw'
      have un2 : Un (frs outer) [] H' (upd H' a (.ext (bagP a c))) s'.heap s'.heap := Un.write mu' (Or.inl rfl) (fun _ _ _ z => z) ⟨_, eo'⟩
      rw [back] at ok2 un2
      exact ⟨.int r, H, os, bare, (un1.trans un).trans un2, ok2, rv', q r g1 g2⟩
end
end Ol

set_option Elab.async false
set_option linter.all false
set_option maxRecDepth 100000
set_option maxHeartbeats 4000000
namespace Ol
open PySem PySem.Spec PyProof.Rows L2

/-- what of H' is new over H -/
def nw (H H' : Hp) : Hp := fun b => match H b with
  | none => H' b
  | some _ => none
theorem nw_none {H H' : Hp} {b : Addr} (h : H b = none) : nw H H' b = H' b := by
  unfold nw
  rw [h]
theorem nw_some {H H' : Hp} {b : Addr} {o : HO} (h : H b = some o) : nw H H' b = none := by
  unfold nw
  rw [h]
theorem nw_ext {H H' : Hp} : Ext (nw H H') H' := fun b o e => by
  cases h : H b with
  | none => rwa [nw_none h] at e
  | some u =>
    rw [nw_some h] at e
    cases e
theorem nw_up {H H1 H2 : Hp} (e : Ext H1 H2) : Ext (nw H H1) (nw H H2) := fun b o q => by
  cases h : H b with
  | none =>
    rw [nw_none h] at q ⊢
    exact e b o q
  | some u =>
    rw [nw_some h] at q
    cases q
theorem nw_base {H0 H H' : Hp} (e : Ext H0 H) : Ext (nw H H') (nw H0 H') := fun b o q => by
  cases h : H b with
  | none => 
    rw [nw_none h] at q
    rw [nw_none (e.free h)]
    exact q
  | some u =>
    rw [nw_some h] at q
    cases q
theorem nw_dom {H0 H H' : Hp} (e : ∀ b, H b = none → H0 b = none) : Ext (nw H H') (nw H0 H') := fun b o q => by
  cases h : H b with
  | none =>
    rw [nw_none h] at q
    rw [nw_none (e b h)]
    exact q
  | some u =>
    rw [nw_some h] at q
    cases q
/-- from new over a later heap to new over an earlier one -/
theorem nw_mono {H0 H H1 H2 : Hp} (e : Ext H0 H) (f : Ext H1 H2) : Ext (nw H H1) (nw H0 H2) := (nw_base e).trans (nw_up f)
theorem nw_at {H H' : Hp} {p : Addr} {o : HO} (h : H p = none) : nw H (upd H' p o) p = some o := by rw [nw_none h, upd_same]
theorem nw_mut {H H' : Hp} {p : Addr} {o u : HO} (h : H p = some u) : Ext (nw H H') (nw H (upd H' p o)) := fun b z q => by
  cases g : H b with
  | none =>
    rw [nw_none g] at q ⊢
    rw [upd_ne (fun y => by rw [y, h] at g; cases g)]
    exact q
  | some _ =>
    rw [nw_some g] at q
    cases q

/-- a list comprehension without a test: its items are new things of which R holds -/
theorem lc_ext {J : It} {n : Nat} {G : Hp → Prop} {Y : Nat → Hp → V → Hp → Prop} (w : Walk J n G Y) {j : Nat} {te : TE} {σ : L2.St} {H1 : Hp} {D : Addr} {Qd : Hp → Prop}
    (R : Nat → V → Hp → Prop) (up : ∀ i v H H', Ext H H' → R i v H → R i v H') (hD : H1 D = none) (hn : n ≤ sizeLine) 
    (hG : ∀ H, Ext H1 H → G H)
    (hs : ∀ i x H H', i < n → Ext H1 H → Y i H x H' → Ext H H' ∧ ∀ Q : VK, (∀ y H4, Ext H' H4 → R i y (nw H' H4) → Q y H4) → te ((wipe σ [j]).set j (some x)) H' Q)
    (hd : ∀ H xs, Ext H1 H → H D = some (.lst xs) → xs.length = n → (∀ i y, xs[i]? = some y → R i y (nw H1 H)) → Qd H) :
    ∃ W : Nat → Nat → Hp → Prop, (∃ m, W 0 m (upd H1 D (.lst []))) ∧ ∀ i m H, W i m H →
      (J.stop i H ∧ Qd H) ∨ (J.go i H ∧ ∃ Nx : Hp → Prop, (∀ H', Nx H' → ∃ m', m' < m ∧ W (i + 1) m' H') ∧ ∀ x H', J.yld i H x H' → gName j x (wipe σ [j]) H' fun σ2 H2 => wipe σ2 [j] = wipe σ [j] ∧ tYes σ2 H2 fun b H3 =>
        if b = true then te σ2 H3 fun y H4 => ∃ acc, H4 D = some (.lst acc) ∧ acc.length < sizeLine ∧ Nx (upd H4 D (.lst (acc ++ [y]))) else Nx H3) := by
  let Hs : Hp := upd H1 D (.lst [])
  have hsD : Hs D = some (.lst []) := upd_same
  have e1 : Ext H1 Hs := Ext.new hD
  refine lc_it w (fun i H => ∃ xs, Ext H1 H ∧ H D = some (.lst xs) ∧ xs.length = i ∧ ∀ k y, xs[k]? = some y → R k y (nw Hs H))
    ⟨[], e1, hsD, rfl, fun k y z => by simp at z⟩ (by rintro i H _ ⟨xs, e, _⟩; exact hG H e) ?_ ?_
  · rintro i x H H' hi ⟨xs, e, hx, hl, hr⟩ y
    obtain ⟨e2, ht⟩ := hs i x H H' hi e y
    have hw : wipe ((wipe σ [j]).set j (some x)) [j] = wipe σ [j] := by
      show ((σ.set j none).set j (some x)).set j none = σ.set j none
      rw [List.set_set, List.set_set]
    refine ⟨hw, ?_⟩
    unfold tYes
    dsimp only
    rw [if_pos rfl]
    refine ht _ ?_
    intro v H4 e4 rv
    refine ⟨xs, e4 _ _ (e2 _ _ hx), by omega, xs ++ [v], ?_, upd_same, by rw [List.length_append, hl]; rfl, ?_⟩
    · exact Ext.mut ((e.trans e2).trans e4) hD
    · intro k u hk
      have toN : Ext (nw Hs H4) (nw Hs (upd H4 D (.lst (xs ++ [v])))) := nw_mut hsD
      by_cases hkl : k < xs.length
      · rw [List.getElem?_append_left hkl] at hk
        exact up _ _ _ _ ((nw_up (e2.trans e4)).trans toN) (hr k u hk)
      · have hk2 : k = xs.length := by
          have z := (List.getElem?_eq_some_iff.mp hk).1
          rw [List.length_append] at z
          simp at z
          omega
        subst hk2
        rw [List.getElem?_append_right (Nat.le_refl _), Nat.sub_self] at hk
        have hv : v = u := Option.some.inj hk
        subst hv
        rw [hl]
        have hsub : ∀ b, H' b = none → Hs b = none := by
          intro b q
          have q1 : H b = none := e2.free q
          have z : b ≠ D := fun z => by rw [z, hx] at q1; cases q1
          rw [show Hs b = H1 b from upd_ne z]
          exact e.free q1
        exact up _ _ _ _ ((nw_dom hsub).trans toN) rv
  · rintro H ⟨xs, e, hx, hl, hr⟩
    exact hd H xs e hx hl fun i y z => up _ _ _ _ (nw_base e1) (hr i y z)
end Ol

set_option Elab.async false
set_option linter.all false
set_option maxRecDepth 100000
set_option maxHeartbeats 4000000
namespace Ol
open PySem PySem.Spec PyProof.Rows L2

/-! ### comprehensions that leave the heap but for their list -/
theorem lc_det {J : It} {n : Nat} {G : Hp → Prop} {Y : Nat → Hp → V → Hp → Prop} (w : Walk J n G Y) {j : Nat} {tt : TT} {te : TE} {σ : L2.St} {H1 : Hp} {D : Addr} {Qd : Hp → Prop}
    (f : Nat → V) (p : Nat → Bool) (g : Nat → V) (hD : H1 D = none) (hn : n ≤ sizeLine)
    (hY : ∀ i H x H', i < n → Y i H x H' → H' = H ∧ x = f i) (hG : ∀ H, Ext H1 H → G H)
    (ht : ∀ i H, i < n → Ext H1 H → ∀ Q : Bool → Hp → Prop, Q (p i) H → tt ((wipe σ [j]).set j (some (f i))) H Q)
    (he : ∀ i H, i < n → p i = true → Ext H1 H → ∀ Q : VK, Q (g i) H → te ((wipe σ [j]).set j (some (f i))) H Q)
    (hd : Qd (upd H1 D (.lst (((List.range n).filter p).map g)))) :
    ∃ W : Nat → Nat → Hp → Prop, (∃ m, W 0 m (upd H1 D (.lst []))) ∧ ∀ i m H, W i m H →
      (J.stop i H ∧ Qd H) ∨ (J.go i H ∧ ∃ Nx : Hp → Prop, (∀ H', Nx H' → ∃ m', m' < m ∧ W (i + 1) m' H') ∧ ∀ x H', J.yld i H x H' → gName j x (wipe σ [j]) H' fun σ2 H2 => wipe σ2 [j] = wipe σ [j] ∧ tt σ2 H2 fun b H3 =>
        if b = true then te σ2 H3 fun y H4 => ∃ acc, H4 D = some (.lst acc) ∧ acc.length < sizeLine ∧ Nx (upd H4 D (.lst (acc ++ [y]))) else Nx H3) := by
  have ex : ∀ o, Ext H1 (upd H1 D o) := fun o => Ext.new hD
  refine lc_it w (fun i H => H = upd H1 D (.lst (((List.range i).filter p).map g))) rfl (by rintro i H _ rfl; exact hG _ (ex _)) ?_ (by rintro H rfl; exact hd)
  rintro i x H H' hi rfl y
  obtain ⟨rfl, rfl⟩ := hY i _ _ _ hi y
  have hw : wipe ((wipe σ [j]).set j (some (f i))) [j] = wipe σ [j] := by
    show ((σ.set j none).set j (some (f i))).set j none = σ.set j none
    rw [List.set_set, List.set_set]
  refine ⟨hw, ht i _ hi (ex _) _ ?_⟩
  cases hp : p i with
  | true =>
    rw [if_pos rfl]
    refine he i _ hi hp (ex _) _ ?_
    refine ⟨_, upd_same, ?_, ?_⟩
    · rw [List.length_map]
      have h1 := List.length_filter_le p (List.range i)
      rw [List.length_range] at h1
      omega
    · rw [upd_upd, List.range_succ, List.filter_append, List.map_append]
      rw [show [i].filter p = [i] by rw [List.filter_cons, if_pos hp, List.filter_nil]]
      rfl
  | false =>
    rw [if_neg Bool.false_ne_true, List.range_succ, List.filter_append]
    rw [show [i].filter p = [] by rw [List.filter_cons, if_neg (by rw [hp]; exact Bool.false_ne_true), List.filter_nil]]
    rw [List.append_nil]

/-- sign i of a text -/
def sg (x : Str) (i : Nat) : V := .str ⟨#[x.cps.toList.getD i 0]⟩
theorem its_sg {x : Str} : ∀ (i : Nat) (H : Hp) (v : V) (H' : Hp), i < x.cps.size → (H' = H ∧ ∃ c, x.cps[i]? = some c ∧ v = V.str ⟨#[c]⟩) → H' = H ∧ v = sg x i := by
  rintro i H v H' hi ⟨rfl, c, hc, rfl⟩
  refine ⟨rfl, ?_⟩
  unfold sg
  rw [List.getD_eq_getElem?_getD, Array.getElem?_toList, hc]
  rfl
theorem map_range_getD {α : Type} (h : Nat → α) : ∀ l : List Nat, (List.range l.length).map (fun i => h (l.getD i 0)) = l.map h
  | [] => rfl
  | a :: l => by
    rw [List.length_cons, List.range_succ_eq_map, List.map_cons, List.map_map, List.map_cons]
    congr 1
    exact map_range_getD h l
theorem filter_map_getD (p : Nat → Bool) : ∀ l : List Nat, ((List.range l.length).filter fun i => p (l.getD i 0)).map (fun i => l.getD i 0) = l.filter p
  | [] => rfl
  | a :: l => by
    rw [List.length_cons, List.range_succ_eq_map, List.filter_cons, List.filter_cons, List.filter_map]
    have ih := filter_map_getD p l
    by_cases h : p a = true
    · rw [if_pos h, if_pos (show p ((a :: l).getD 0 0) = true from h), List.map_cons, List.map_map]
      congr 1
    · rw [if_neg h, if_neg (show ¬ p ((a :: l).getD 0 0) = true from h), List.map_map]
      exact ih

/-! ### data, and what the package asks of any value -/
def tyD : PyData → String
  | .none => "NoneType"
  | .bool _ => "bool"
  | .int _ => "int"
  | .str _ => "str"
  | .list _ => "list"
  | .tuple _ => "tuple"
  | .dict _ => "dict"
theorem ty_of {K : PySem.W.Frag} {H : Hp} {v : V} {d : PyData} (h : Dq H v d) : TyX K H v (.type (tyD d)) := by
  cases h with
  | non => exact .base .non
  | bl b => exact .base (.bl b)
  | int i => exact .base (.int i)
  | str x => exact .base (.str x)
  | lst h _ => exact .base (.lst h)
  | tup h _ => exact .base (.tup h)
  | dct h _ => exact .base (.dK h)
def kI : PyData → Bool
  | .int _ => true
  | .bool _ => true
  | _ => false
def kB : PyData → Bool
  | .bool _ => true
  | _ => false
def kS : PyData → Bool
  | .str _ => true
  | _ => false
def kT : PyData → Bool
  | .tuple _ => true
  | _ => false
def kL : PyData → Bool
  | .list _ => true
  | _ => false
def kD : PyData → Bool
  | .dict _ => true
  | _ => false
section
variable {K : PySem.W.Frag}
theorem ki_int (d : PyData) : PySem.W.kitOne K (.type (tyD d)) (.type "int") = some (kI d) := by
  cases d <;> (simp only [tyD, kI]; exact kit_ty (by decide +kernel))
theorem ki_bool (d : PyData) : PySem.W.kitOne K (.type (tyD d)) (.type "bool") = some (kB d) := by
  cases d <;> (simp only [tyD, kB]; exact kit_ty (by decide +kernel))
theorem ki_str (d : PyData) : PySem.W.kitOne K (.type (tyD d)) (.type "str") = some (kS d) := by
  cases d <;> (simp only [tyD, kS]; exact kit_ty (by decide +kernel))
theorem ki_tuple (d : PyData) : PySem.W.kitOne K (.type (tyD d)) (.type "tuple") = some (kT d) := by
  cases d <;> (simp only [tyD, kT]; exact kit_ty (by decide +kernel))
theorem ki_list (d : PyData) : PySem.W.kitOne K (.type (tyD d)) (.type "list") = some (kL d) := by
  cases d <;> (simp only [tyD, kL]; exact kit_ty (by decide +kernel))
theorem ki_dict (d : PyData) : PySem.W.kitOne K (.type (tyD d)) (.type "dict") = some (kD d) := by
  cases d <;> (simp only [tyD, kD]; exact kit_ty (by decide +kernel))
end
def isIntD : PyData → Bool
  | .int _ => true
  | _ => false
theorem isIntD_eq (d : PyData) : isIntD d = (kI d && !kB d) := by cases d <;> rfl
def isNumD : PyData → Bool
  | .int i => decide (0 ≤ i)
  | _ => false
def abc : Str := "abcdefghijklmnopqrstuvwxyz"
def isNameS (x : Str) : Bool := decide (1 ≤ x.length ∧ x.length ≤ 8) && x.cps.toList.all fun c => decide (c ∈ abc.cps.toList)
def isNameD : PyData → Bool
  | .str x => isNameS x
  | _ => false
def isWordS (x : Str) : Bool := decide (x = "close" ∨ x = "ended" ∨ x = "send" ∨ x = "take")
def isWordD : PyData → Bool
  | .str x => isWordS x
  | _ => false
def isElseD : PyData → Bool
  | .str x => decide (x = "else")
  | _ => false
def isArmD : PyData → Bool
  | .tuple [a, b] => isElseD a && isNumD b
  | .tuple [a, b, c] => isWordD a && (isNameD b && isNumD c)
  | _ => false
theorem dq_int {H : Hp} {v : V} {d : PyData} (h : Dq H v d) (e : isIntD d = true) : ∃ i, v = .int i ∧ d = .int i := by
  cases h with
  | int i => exact ⟨i, rfl, rfl⟩
  | _ => cases e
theorem dq_str {H : Hp} {v : V} {d : PyData} (h : Dq H v d) (e : kS d = true) : ∃ x, v = .str x ∧ d = .str x := by
  cases h with
  | str x => exact ⟨x, rfl, rfl⟩
  | _ => cases e
theorem dq_tup {H : Hp} {v : V} {d : PyData} (h : Dq H v d) (e : kT d = true) : ∃ a xs ds, v = .ref a ∧ d = .tuple ds ∧ H a = some (.tup xs) ∧ DqAll H xs ds := by
  cases h with
  | tup h t => exact ⟨_, _, _, rfl, rfl, h, t⟩
  | _ => cases e

/-- a def that tells something of any data (of which C holds) -/
def spPred (C : PyData → Prop) (p : PyData → Bool) : Sp := fun vs H Q _ => ∃ v d, vs = [v] ∧ Dq H v d ∧ C d ∧
  ∀ H', Ext H H' → Q (.bl (p d)) H'
/-- a plain text of bounded length -/
def Tx (x : Str) : Prop := x.length ≤ 1000 ∧ ∀ c ∈ x.cps.toList, c < 128
def Ok1 (d : PyData) : Prop := ∀ x, d = .str x → Tx x
def OkT (d : PyData) : Prop := ∀ ds e, d = .tuple ds → e ∈ ds → Ok1 e
def Any (_ : PyData) : Prop := True

/-- the signs of a text asked one by one -/
theorem signs_all (x : Str) (p : Nat → Bool) : ((List.range x.cps.size).filter (fun _ => true)).map (fun i => V.bl (p (x.cps.toList.getD i 0))) = (x.cps.toList.map p).map V.bl := by
  rw [List.filter_eq_self.mpr (fun _ _ => rfl)]
  have h := map_range_getD (fun c => V.bl (p c)) x.cps.toList
  rw [Array.length_toList] at h
  rw [h, List.map_map]
  rfl
theorem signs_filter (x : Str) (p : Nat → Bool) : ((List.range x.cps.size).filter (fun i => p (x.cps.toList.getD i 0))).map (sg x) = (x.cps.toList.filter p).map fun c => V.str ⟨#[c]⟩ := by
  have h := filter_map_getD p x.cps.toList
  rw [Array.length_toList] at h
  rw [← h, List.map_map]
  rfl
theorem kS_not {d : PyData} (h : (!kS d) = true) : isNameD d = false := by
  cases d with
  | str x => cases h
  | _ => rfl
theorem kS_yes {d : PyData} (h : ¬ (!kS d) = true) : kS d = true := by
  cases e : kS d with
  | true => rfl
  | false => rw [e] at h; exact absurd rfl h
theorem isNameS_short {x : Str} (h : ¬ (1 ≤ x.length ∧ x.length ≤ 8)) : isNameS x = false := by
  unfold isNameS
  rw [decide_eq_false h, Bool.false_and]
theorem isNameS_long {x : Str} (h : 1 ≤ x.length ∧ x.length ≤ 8) : isNameS x = x.cps.toList.all fun c => decide (c ∈ abc.cps.toList) := by
  unfold isNameS
  rw [decide_eq_true h, Bool.true_and]
theorem all_id_map (p : Nat → Bool) : ∀ l : List Nat, (l.map p).all id = l.all p
  | [] => rfl
  | a :: l => by rw [List.map_cons, List.all_cons, List.all_cons, all_id_map p l]; rfl
theorem filter_empty_all (p : Nat → Bool) : ∀ l : List Nat, (l.filter fun c => !p c).isEmpty = l.all p
  | [] => rfl
  | a :: l => by
    rw [List.filter_cons, List.all_cons, ← filter_empty_all p l]
    cases p a <;> rfl
end Ol

set_option Elab.async false
set_option linter.all false
set_option maxRecDepth 100000
set_option maxHeartbeats 4000000
namespace Ol
open PySem PySem.Spec PyProof.Rows L2

/-- a def of the module, found by its name, and its promise -/
structure Ca (P : Program) (w : World) (K : PySem.W.Frag) (mg : Str → Option Value) (base : Heap)
    (k : Nat) (x : Str) (ps : List Str) (sp : Sp) : Prop where
  has : ∃ (f : Addr) (fd : FuncData), FnOk P w K mg base CX0 k f fd ps sp ∧ mg x = some (.ref f) ∧
    PySem.W.keepIn K (.ref f) = true ∧ Binds K fd ps []
/-- the same where no display is under way -/
structure Cg (P : Program) (w : World) (K : PySem.W.Frag) (mg : Str → Option Value) (base : Heap)
    (k : Nat) (x : Str) (ps : List Str) (sp : Sp) : Prop where
  has : ∃ (f : Addr) (fd : FuncData), FnG P w K mg base k f fd ps sp ∧ mg x = some (.ref f) ∧
    PySem.W.keepIn K (.ref f) = true ∧ Binds K fd ps []
section
variable {X : Cx} {k : Nat} {ps : List Str} {sp : Sp} {x : Str} {e : Expr} {es : List Expr} {t : TA} {p pos : Pos}
theorem pe_ca (C : Ca X.prog X.w X.K X.mg X.base k x ps sp) (hr : Room k X.A) (hg : Gl X x) (ha : PA X (e :: es) t)
    (hdb : (x == ("__debug__" : Str)) = false := by decide)
    (he : starEach (e :: es) X.env = (false, eval e X.env) :: starEach es X.env := by rfl)
    (hpl : (backTo pos (starEach es X.env)).any (·.1) = false := by rfl) :
    PE X (.Call (.Name x p) (e :: es) [] pos) (tCall sp [] E0 t) := by
  obtain ⟨f, fd, F, g, kp, b⟩ := C.has
  exact pe_call F hr hg g kp b .nil pass0 ha hdb he hpl
theorem pe_cg (C : Cg X.prog X.w X.K X.mg X.base k x ps sp) (hG : X.A.guards = some []) (hr : Room k X.A) (hg : Gl X x) (ha : PA X (e :: es) t)
    (hdb : (x == ("__debug__" : Str)) = false := by decide)
    (he : starEach (e :: es) X.env = (false, eval e X.env) :: starEach es X.env := by rfl)
    (hpl : (backTo pos (starEach es X.env)).any (·.1) = false := by rfl) :
    PE X (.Call (.Name x p) (e :: es) [] pos) (tCall sp [] E0 t) := by
  obtain ⟨f, fd, F, g, kp, b⟩ := C.has
  exact pe_callG F hG hr hg g kp b ha hdb he hpl
end

/-- == and != of data -/
def rEqQ : R2 := fun x y H Q => ∃ d e, Sys H ∧ Dq H x d ∧ Dq H y e ∧ SeqAt.shaped d = true ∧ SeqAt.shaped e = true ∧ Q (.bl (PyData.eqv d e)) H
def rNeQ : R2 := fun x y H Q => ∃ d e, Sys H ∧ Dq H x d ∧ Dq H y e ∧ SeqAt.shaped d = true ∧ SeqAt.shaped e = true ∧ Q (.bl (!PyData.eqv d e)) H
theorem op_eqQ {X : Cx} {k : Nat} (hr : Room k X.A) : OpR X (compareOp .Eq) rEqQ := by
  intro pins s σ H x y v u Q I rx ry h
  obtain ⟨d, e, S, hd, he, sd, se, q⟩ := h
  obtain ⟨as, r1, _⟩ := Dq.reads I S hd rx
  obtain ⟨bs, r2, _⟩ := Dq.reads I S he ry
  exact SeqAt.compareEq_shaped r1 r2 sd se hr.units ⟨.bl _, H, I, rfl, q⟩
theorem op_neQ {X : Cx} {k : Nat} (hr : Room k X.A) : OpR X (compareOp .NotEq) rNeQ := by
  intro pins s σ H x y v u Q I rx ry h
  obtain ⟨d, e, S, hd, he, sd, se, q⟩ := h
  obtain ⟨as, r1, _⟩ := Dq.reads I S hd rx
  obtain ⟨bs, r2, _⟩ := Dq.reads I S he ry
  exact SeqAt.compareNe_shaped r1 r2 sd se hr.units ⟨.bl _, H, I, rfl, q⟩

/-- data that may be shown -/
structure Fits (d : PyData) : Prop where
  sh : d.showable = true
  dep : d.depth ≤ 40
  len : d.shown.length ≤ sizeLine

/-- f(x, y) of two equal data gives True -/
def spAlike : Sp := fun vs H Q _ => ∃ v u d, vs = [v, u] ∧ Sys H ∧ Dq H v d ∧ Dq H u d ∧ SeqAt.shaped d = true ∧ Fits d ∧
  ∀ H', Ext H H' → Q (.bl true) H'
end Ol

set_option Elab.async false
set_option linter.all false
set_option maxRecDepth 100000
set_option maxHeartbeats 4000000
namespace Ol
open PySem PySem.Spec PyProof.Rows L2

/-- a new bag of a script's cells -/
def spBag0 (K : PySem.W.Frag) : Sp := fun vs H Q _ => ∃ (a : Addr) (ns : List Int), vs = [.ref a] ∧ SqL K H a (ns.map V.int) ∧ ns.length ≤ 1000 ∧
  ∀ (p c : Addr) (cs : List Int) (H' : Hp), H p = none → Ext H H' → H' p = some (.lst (bagL 0 1234567891 0 c)) → H' c = some (.lst (cs.map V.int)) → (∀ n ∈ cs, 0 ≤ n) → c ≠ p → Q (.ref p) H'
def spBag (K : PySem.W.Frag) : Sp := fun vs H Q _ => ∃ (a : Addr) (ns : List Int), vs = [.ref a] ∧ SqL K H a (ns.map V.int) ∧ ns.length ≤ 1000 ∧
  ∀ (p : Addr) (H' : Hp), Ext H H' → Bag H' p → Q (.ref p) H'
section
variable {P : Program} {w : World} {K : PySem.W.Frag} {mg : Str → Option Value} {base : Heap}
theorem hideBag {k : Nat} {f : Addr} {fd : FuncData} {ps : List Str} (F : FnOk P w K mg base CX0 k f fd ps (spBag0 K)) :
    FnOk P w K mg base CX0 k f fd ps (spBag K) := by
  refine ⟨?_, ?_⟩
  · rintro vs H Q E ⟨a, ns, rfl, h1, h2, q⟩
    exact F.len [.ref a] H (fun _ _ => True) E0 ⟨a, ns, rfl, h1, h2, fun _ _ _ _ _ _ _ _ _ _ => trivial⟩
  · rintro A outer s H args us vs Q E hr e0 hb rv ⟨a, ns, rfl, h1, h2, q⟩
    have run := F.run A outer s H args us [.ref a]
      (fun v H' => ∃ (p c : Addr) (cs : List Int), v = .ref p ∧ H p = none ∧ Ext H H' ∧ H' p = some (.lst (bagL 0 1234567891 0 c)) ∧ H' c = some (.lst (cs.map V.int)) ∧ (∀ n ∈ cs, 0 ≤ n) ∧ c ≠ p)
      E hr e0 hb rv ⟨a, ns, rfl, h1, h2, fun p c cs H' g1 g2 g3 g4 g5 g6 => ⟨p, c, cs, rfl, g1, g2, g3, g4, g5, g6⟩⟩
    refine codeAny_mono run ?_
    intro res s' h
    match res, h with
    | .error _, h => exact h.elim
    | .ok .next, h => exact h.elim
    | .ok .brk, h => exact h.elim
    | .ok .cont, h => exact h.elim
    | .ok (.ret u), h =>
      obtain ⟨v, H', os, bare, un, hok', rv', p, c, cs, rfl, g1, g2, g3, g4, g5, g6⟩ := h
      have mu' : Mut (H' p) := by
        rw [g3]
        trivial
      obtain ⟨_, its, n', r', eo'⟩ := hok' p _ g3
      have shape : ∃ y0 y1 y2, its = [.int 0 y0, .int 1234567891 y1, .int 0 y2, .ref c] := by
        cases r' with
        | cons q0 r' => cases r' with
          | cons q1 r' => cases r' with
            | cons q2 r' => cases r' with
              | cons q3 r' =>
                cases r'
                obtain ⟨y0, rfl⟩ := q0
                obtain ⟨y1, rfl⟩ := q1
                obtain ⟨y2, rfl⟩ := q2
                cases q3
                exact ⟨y0, y1, y2, rfl⟩
      obtain ⟨y0, y1, y2, rfl⟩ := shape
      have nw' : ObjOk P w (upd H' p (.ext (bagP p c))) s'.heap p (.ext (bagP p c)) := by
        refine ⟨⟨0, 1234567891, 0, y0, y1, y2, n', eo', by decide, by decide, by decide, by decide⟩, ⟨_, eo'⟩, ?_⟩
        rintro g g' ⟨z0, z1, z2, w0, w1, w2, n2, e2, i2⟩ hk
        exact ⟨z0, z1, z2, w0, w1, w2, n2, hk _ e2, i2⟩
      have ok2 := HOk.write hok' mu' (Or.inl rfl) (fun _ _ _ z => z) ⟨_, eo'⟩ nw'
      have un2 : Un (frs outer) [] H' (upd H' p (.ext (bagP p c))) s'.heap s'.heap := Un.write mu' (Or.inl rfl) (fun _ _ _ z => z) ⟨_, eo'⟩
      refine ⟨.ref p, upd H' p (.ext (bagP p c)), os, bare, un.trans un2, ok2, rv', q p _ (Ext.mut g2 g1) ⟨c, cs, upd_same, ?_, g5⟩⟩
      rw [upd_ne g6]
      exact g4
end

theorem map_range_getI (h : Int → V) : ∀ l : List Int, (List.range l.length).map (fun i => h (l.getD i 0)) = l.map h
  | [] => rfl
  | a :: l => by
    rw [List.length_cons, List.range_succ_eq_map, List.map_cons, List.map_map, List.map_cons]
    congr 1
    exact map_range_getI h l
theorem cut_ints (ns : List Int) (lo hi : Option Int) : ∃ cs : List Int, cutV (ns.map V.int) lo hi = cs.map V.int ∧ cs.length ≤ ns.length := by
  unfold cutV
  refine ⟨(ns.drop (HT.sIx (ns.map V.int).length 0 lo)).take (HT.sIx (ns.map V.int).length (ns.map V.int).length hi - HT.sIx (ns.map V.int).length 0 lo), ?_, ?_⟩
  · rw [List.map_take, List.map_drop]
  · rw [List.length_take, List.length_drop]
    omega
end Ol

set_option Elab.async false
set_option linter.all false
set_option maxRecDepth 100000
set_option maxHeartbeats 4000000
namespace Ol
open PySem PySem.Spec PyProof.Rows L2
open TL (tl joinL join_eq tl_join)

theorem tlen (x : Str) : x.length = (tl x).length := by
  show x.cps.size = x.cps.toList.length
  rw [Array.length_toList]
theorem tl_inj {x y : Str} (h : tl x = tl y) : x = y := by
  obtain ⟨⟨a⟩⟩ := x
  obtain ⟨⟨b⟩⟩ := y
  have h' : a = b := h
  rw [h']
theorem tl_app (x y : Str) : tl (x ++ y) = tl x ++ tl y := by
  show (x.cps ++ y.cps).toList = _
  rw [Array.toList_append]
theorem joinL_nil : ∀ ls : List (List Nat), joinL [] ls = ls.flatten
  | [] => rfl
  | [p] => by show p = [p].flatten; simp
  | p :: q :: r => by
    show p ++ ([] ++ joinL [] (q :: r)) = _
    rw [joinL_nil (q :: r), List.nil_append]
    rfl
def one (c : Nat) : Str := ⟨#[c]⟩
theorem join_signs (cs : List Nat) : tl (Txt.join "" (cs.map one)) = cs := by
  rw [join_eq, tl_join]
  show joinL [] _ = cs
  rw [joinL_nil, List.map_map]
  induction cs with
  | nil => rfl
  | cons a l ih =>
    rw [List.map_cons, List.flatten_cons, ih]
    rfl
theorem ones_len : ∀ cs : List Nat, ((cs.map one).map (·.length)).sum = cs.length
  | [] => rfl
  | a :: l => by
    rw [List.map_cons, List.map_cons, List.sum_cons, ones_len l, List.length_cons]
    show 1 + l.length = l.length + 1
    omega
theorem cut_drop (xs : List V) (t : Nat) : cutV xs (some (t : Int)) none = xs.drop t := by
  unfold cutV
  rw [HT.sIx_none, HT.sIx_nat]
  by_cases h : t ≤ xs.length
  · rw [Nat.min_eq_left h, List.take_of_length_le]
    rw [List.length_drop]
    exact Nat.le_refl _
  · rw [Nat.min_eq_right (by omega), Nat.sub_self, List.take_zero, List.drop_of_length_le (by omega)]
theorem cut_take (xs : List V) (t : Nat) : cutV xs none (some (t : Int)) = xs.take t := by
  unfold cutV
  rw [HT.sIx_none, HT.sIx_nat, Nat.sub_zero, List.drop_zero]
  by_cases h : t ≤ xs.length
  · rw [Nat.min_eq_left h]
  · rw [Nat.min_eq_right (by omega), List.take_of_length_le (Nat.le_refl _), List.take_of_length_le (by omega)]
theorem cutS_drop (z : Str) (t : Nat) : tl (cutS z (some (t : Int)) none) = (tl z).drop t := by
  unfold cutS
  rw [HT.sIx_none, HT.sIx_nat]
  have hl := tlen z
  show List.take _ _ = _
  by_cases h : t ≤ z.length
  · rw [Nat.min_eq_left h, List.take_of_length_le]
    rw [List.length_drop, hl]
    exact Nat.le_refl _
  · rw [Nat.min_eq_right (by omega), Nat.sub_self, List.take_zero, List.drop_of_length_le (by omega)]
theorem cutS_take (z : Str) (t : Nat) : tl (cutS z none (some (t : Int))) = (tl z).take t := by
  unfold cutS
  rw [HT.sIx_none, HT.sIx_nat, Nat.sub_zero]
  have hl := tlen z
  show List.take _ (List.drop 0 _) = _
  rw [List.drop_zero]
  by_cases h : t ≤ z.length
  · rw [Nat.min_eq_left h]
  · rw [Nat.min_eq_right (by omega), List.take_of_length_le (by rw [hl]; exact Nat.le_refl _), List.take_of_length_le (by omega)]

def abcL : List Nat := tl abc
theorem abc_at : ∀ r, r < 26 → abcL[r]? = some (97 + r) := by decide +kernel
theorem abc_mem {r : Nat} (h : r < 26) : 97 + r ∈ abcL := List.mem_of_getElem? (abc_at r h)
theorem abc_low : ∀ c ∈ abcL, c < 128 := by decide +kernel
theorem name_of {x : Str} (h1 : 1 ≤ (tl x).length) (h2 : (tl x).length ≤ 8) (h3 : ∀ c ∈ tl x, c ∈ abcL) : isNameS x = true := by
  rw [isNameS_long (by rw [tlen]; exact ⟨h1, h2⟩), List.all_eq_true]
  exact fun c hc => decide_eq_true (h3 c hc)
theorem name_tl {x : Str} (h : isNameS x = true) : 1 ≤ (tl x).length ∧ (tl x).length ≤ 8 ∧ ∀ c ∈ tl x, c ∈ abcL := by
  unfold isNameS at h
  rw [Bool.and_eq_true] at h
  have h1 := of_decide_eq_true h.1
  rw [tlen] at h1
  exact ⟨h1.1, h1.2, fun c hc => of_decide_eq_true (List.all_eq_true.mp h.2 c hc)⟩
theorem name_tx {x : Str} (h : isNameS x = true) : Tx x := by
  obtain ⟨_, h2, h3⟩ := name_tl h
  exact ⟨by rw [tlen]; omega, fun c hc => abc_low c (h3 c hc)⟩

/-- new names, all different -/
structure Names (ys : List Str) (m : Nat) : Prop where
  len : ys.length = m
  nd : ys.Nodup
  ok : ∀ y ∈ ys, isNameS y = true

def wordsA : Str := "send take ended close else first any step quit server back again where log a b ab ba z"
def wordsB : Str := " stuck seat sticks lane"
def wordL : List Str := ["send", "take", "ended", "close", "else", "first", "any", "step", "quit", "server", "back", "again", "where", "log", "a", "b", "ab", "ba", "z", "stuck", "seat", "sticks", "lane"]
theorem split_words : Txt.split (wordsA ++ wordsB) " " = wordL := by decide +kernel
theorem wordL_ok : ∀ y ∈ wordL, isNameS y = true := by decide +kernel
theorem wordL_rot : ∀ t, t < 20 → (wordL.drop t ++ wordL.take t).Nodup := by decide +kernel
theorem names0 (t m : Nat) (ht : t < 20) (hm : m ≤ 20) : Names ((wordL.drop t ++ wordL.take t).take m) m := by
  refine ⟨?_, (wordL_rot t ht).sublist (List.take_sublist _ _), fun y hy => ?_⟩
  · rw [List.length_take, List.length_append, List.length_drop, List.length_take]
    have e : wordL.length = 23 := rfl
    omega
  · have h := List.mem_of_mem_take hy
    rcases List.mem_append.mp h with h | h
    · exact wordL_ok y (List.mem_of_mem_drop h)
    · exact wordL_ok y (List.mem_of_mem_take h)
def let1 (t k : Nat) : Nat := 97 + (t + 3 * k) % 26
theorem names1 (t m : Nat) (hm : m ≤ 8) : Names ((List.range m).map fun k => one (let1 t k)) m := by
  refine ⟨by rw [List.length_map, List.length_range], ?_, ?_⟩
  · rw [List.nodup_iff_pairwise_ne, List.pairwise_map]
    refine (List.pairwise_lt_range (n := m)).imp_of_mem ?_
    intro a b ha hb hab e
    have ha := List.mem_range.mp ha
    have hb := List.mem_range.mp hb
    have e1 : [let1 t a] = [let1 t b] := congrArg tl e
    have e2 : let1 t a = let1 t b := by injection e1
    unfold let1 at e2
    omega
  · intro y hy
    obtain ⟨k, _, rfl⟩ := List.mem_map.mp hy
    refine name_of (Nat.le_refl 1) (by show 1 ≤ 8; decide) fun c hc => ?_
    have hc' : c ∈ [let1 t k] := hc
    rw [List.mem_singleton] at hc'
    rw [hc']
    exact abc_mem (Nat.mod_lt _ (by decide))
/-- the names of the third style, as texts with these signs -/
theorem names2 (cs : List Nat) (at_ t m : Nat) (f : Nat → Str) (hc1 : 1 ≤ cs.length) (hc7 : cs.length ≤ 7) (hc : ∀ c ∈ cs, c ∈ abcL) (hm : m ≤ 8) (ha : at_ ≤ cs.length)
    (hf : ∀ k, k < m → tl (f k) = cs.take at_ ++ [let1 t k] ++ cs.drop at_) : Names ((List.range m).map f) m := by
  refine ⟨by rw [List.length_map, List.length_range], ?_, ?_⟩
  · rw [List.nodup_iff_pairwise_ne, List.pairwise_map]
    refine (List.pairwise_lt_range (n := m)).imp_of_mem ?_
    intro a b ha hb hab e
    have ha := List.mem_range.mp ha
    have hb := List.mem_range.mp hb
    have e1 := congrArg tl e
    rw [hf a ha, hf b hb, List.append_assoc, List.append_assoc] at e1
    have e2 := List.append_cancel_left e1
    have e3 : let1 t a = let1 t b := by
      simp only [List.cons_append, List.nil_append, List.cons.injEq] at e2
      exact e2.1
    unfold let1 at e3
    omega
  · intro y hy
    obtain ⟨k, hk, rfl⟩ := List.mem_map.mp hy
    have hk := List.mem_range.mp hk
    refine name_of ?_ ?_ fun c hc' => ?_
    · rw [hf k hk]
      simp
      omega
    · rw [hf k hk]
      simp
      omega
    · rw [hf k hk] at hc'
      simp only [List.mem_append, List.mem_singleton] at hc'
      rcases hc' with (h | h) | h
      · exact hc c (List.mem_of_mem_take h)
      · rw [h]
        exact abc_mem (Nat.mod_lt _ (by decide))
      · exact hc c (List.mem_of_mem_drop h)
/-- texts of one sign each -/
theorem ones_of {n : Nat} {xs : List V} (h : xs.length = n) (hr : ∀ (i : Nat) (y : V), xs[i]? = some y → ∃ c, c ∈ abcL ∧ y = .str (one c)) :
    ∃ cs : List Nat, xs = (cs.map one).map V.str ∧ cs.length = n ∧ ∀ c ∈ cs, c ∈ abcL := by
  induction xs generalizing n with
  | nil => exact ⟨[], rfl, h, fun _ z => by cases z⟩
  | cons v xs ih =>
    obtain ⟨cs, e, hl, hc⟩ := ih (n := xs.length) rfl fun i y z => hr (i + 1) y (by rw [List.getElem?_cons_succ]; exact z)
    obtain ⟨c, hm, rfl⟩ := hr 0 v rfl
    refine ⟨c :: cs, by rw [e]; rfl, by rw [← h, List.length_cons, List.length_cons, hl], fun x hx => ?_⟩
    rcases List.mem_cons.mp hx with z | z
    · rw [z]
      exact hm
    · exact hc x z
/-- names drawn from a bag -/
def spNames : Sp := fun vs H Q _ => ∃ (a : Addr) (m : Int), vs = [.ref a, .int m] ∧ Bag H a ∧ 1 ≤ m ∧ m ≤ 8 ∧
  ∀ (p : Addr) (ys : List Str) (H' : Hp), Ext H H' → H p = none → H' p = some (.lst (ys.map V.str)) → Names ys m.toNat → Q (.ref p) H'
end Ol

set_option Elab.async false
set_option linter.all false
set_option maxRecDepth 100000
set_option maxHeartbeats 4000000
namespace Ol
open PySem PySem.Spec PyProof.Rows L2
open TL (tl)

/-! ### s * n, n small -/
def repS (z : Str) (n : Nat) : Str := if n = 0 then Str.empty else if n = 1 then z else ⟨(List.replicate n z.cps).foldl (· ++ ·) #[]⟩
def rRepS : R2 := fun x y H Q => ∃ (z : Str) (n : Nat), x = .str z ∧ y = .int (n : Int) ∧ n ≤ 1000 ∧ z.length = 1 ∧ (repS z n).length ≤ sizeLine ∧ Q (.str (repS z n)) H
theorem op_repS {X : Cx} : OpR X (binaryOp .Mult) rRepS := by
  intro pins s σ H x y v u Q I rx ry h
  obtain ⟨z, n, rfl, rfl, hn, hz, hl, q⟩ := h
  obtain ⟨t, rfl⟩ := rx
  obtain ⟨t', rfl⟩ := ry
  have tl0 : ¬ (n : Int) < 1 → ((n : Int) == 1 || z.length == 0) = false → Builtin.Str.tooLong (z.length * (n : Int).toNat) = false := by
    intro _ _
    unfold Builtin.Str.tooLong
    exact decide_eq_false (by rw [hz]; show ¬ _ > 2 ^ 24; omega)
  refine PySem.P.mul_str ?_ ?_ tl0 ?_
  · rw [decide_eq_false (by omega), decide_eq_false (by omega)]
    rfl
  · intro h1 h2 h3
    have h4 : 0 < (n : Int) := by omega
    have h5 : ((2 : Int) ^ 63 - 1) / n ≥ 1 := Int.le_ediv_of_mul_le h4 (by omega)
    rw [hz] at h3
    omega
  · by_cases h0 : n = 0
    · subst h0
      exact ⟨by decide, .str Str.empty, H, I.tok _, ⟨_, rfl⟩, q⟩
    · rw [if_neg (by omega)]
      by_cases h1 : n = 1
      · subst h1
        rw [if_pos (show (((1 : Nat) : Int) == 1 || z.length == 0) = true from rfl)]
        exact ⟨.str z, H, I, ⟨_, rfl⟩, q⟩
      · have hf : ((n : Int) == 1 || z.length == 0) = false := by
          rw [hz, Bool.or_eq_false_iff]
          exact ⟨beq_eq_false_iff_ne.mpr (by omega), rfl⟩
        rw [hf, if_neg Bool.false_ne_true]
        have e : repS z n = ⟨(List.replicate (n : Int).toNat z.cps).foldl (· ++ ·) #[]⟩ := by
          unfold repS
          rw [if_neg h0, if_neg h1]
          rfl
        rw [e] at q hl
        exact ⟨hl, .str _, H, I.tok _, ⟨_, rfl⟩, q⟩

def far (n : Nat) : Str := "1" ++ repS "0" n
theorem far_int : ∀ n, n < 40 → PySem.intText? (far n) = some (10 ^ n) := by decide +kernel
theorem far_len : ∀ n, n < 40 → (far n).length ≤ 640 ∧ (repS "0" n).length ≤ 1000 := by decide +kernel
theorem pow_fit : ∀ n, n < 40 → ((10 : Int) ^ n).natAbs.log2 < 1920 ∧ (-(10 : Int) ^ n).natAbs.log2 < 1920 := by decide +kernel
theorem pow_len : ∀ n, n < 40 → ((toString ((10 : Int) ^ n) : String) : Str).length ≤ 200 ∧ ((toString (-(10 : Int) ^ n) : String) : Str).length ≤ 200 := by decide +kernel

/-! ### sizes of what is shown -/
theorem pile_le {B : Nat} : ∀ ts : List Str, (∀ t ∈ ts, t.length ≤ B) → piled ts ≤ ts.length * (B + 2)
  | [], _ => Nat.zero_le _
  | t :: ts, h => by
    rw [piled_cons, List.length_cons, Nat.succ_mul]
    have h1 := h t List.mem_cons_self
    have h2 := pile_le ts fun x hx => h x (List.mem_cons_of_mem _ hx)
    omega
theorem join_le (ts : List Str) : (Str.join ", " ts).length ≤ piled ts := by
  by_cases h : ts = []
  · subst h
    exact Nat.zero_le _
  · have := join_length_add ts h
    omega
theorem listText_le (ts : List Str) : (listText ts).length ≤ piled ts + 2 := by
  have e1 : ((("[" : String) : Str)).length = 1 := rfl
  have e2 : ((("]" : String) : Str)).length = 1 := rfl
  rw [listText_eq_join, strLen_append, strLen_append, e1, e2]
  have := join_le ts
  omega
theorem tupleText_le (ts : List Str) : (tupleText ts).length ≤ piled ts + 3 := by
  have e3 : (((if ts.length == 1 then ",)" else ")" : String) : Str)).length ≤ 2 := by split <;> decide +kernel
  have e1 : ((("(" : String) : Str)).length = 1 := rfl
  unfold tupleText
  rw [strLen_append, strLen_append, e1]
  have := join_le ts
  omega
theorem dictText_le (ts : List Str) : (dictText ts).length ≤ piled ts + 2 := by
  have e1 : ((("{" : String) : Str)).length = 1 := rfl
  have e2 : ((("}" : String) : Str)).length = 1 := rfl
  unfold dictText
  rw [strLen_append, strLen_append, e1, e2]
  have := join_le ts
  omega

/-! ### data as a law draws it: how deep, how long when shown -/
structure Gd (n : Nat) (d : PyData) : Prop where
  sh : d.showable = true
  dep : d.depth ≤ n + 1
  len : d.shown.length ≤ 200 * 8 ^ n
  ok1 : Ok1 d
  okt : OkT d
theorem Gd.up {n m : Nat} {d : PyData} (g : Gd n d) (h : n ≤ m) : Gd m d :=
  ⟨g.sh, Nat.le_trans g.dep (by omega), Nat.le_trans g.len (Nat.mul_le_mul_left _ (Nat.pow_le_pow_right (by decide) h)), g.ok1, g.okt⟩
theorem Gd.fits {n : Nat} {d : PyData} (g : Gd n d) (h : n ≤ 5) : Fits d :=
  ⟨g.sh, Nat.le_trans g.dep (by omega), Nat.le_trans (g.up h).len (by decide)⟩
theorem nope1 {d : PyData} (h : kS d = false) : Ok1 d := fun x e => by rw [e] at h; cases h
theorem nopeT {d : PyData} (h : kT d = false) : OkT d := fun ds e z _ => by rw [z] at h; cases h
theorem gd_non : Gd 0 .none := ⟨by simp [PyData.showable], by simp [PyData.depth], by decide +kernel, nope1 rfl, nopeT rfl⟩
theorem gd_bl (b : Bool) : Gd 0 (.bool b) := ⟨by simp [PyData.showable], by simp [PyData.depth], by cases b <;> decide +kernel, nope1 rfl, nopeT rfl⟩
theorem gd_int (i : Int) (h1 : i.natAbs.log2 < 1920) (h2 : ((toString i : String) : Str).length ≤ 200) : Gd 0 (.int i) :=
  ⟨by simpa [PyData.showable] using h1, by simp [PyData.depth], by simpa [PyData.shown] using h2, nope1 rfl, nopeT rfl⟩
theorem gd_str (x : Str) (h1 : x.length ≤ 19) (h2 : ∀ c ∈ tl x, c < 128) : Gd 0 (.str x) := by
  refine ⟨by simp [PyData.showable], by simp [PyData.depth], ?_, fun y e => ?_, nopeT rfl⟩
  · simp only [PyData.shown]
    have h := StrLaws.reprText_len x fun c hc => Nat.lt_of_lt_of_le (h2 c hc) (by decide)
    omega
  · cases e
    exact ⟨by omega, h2⟩
theorem pow8 (n : Nat) : 200 ≤ 200 * 8 ^ n := Nat.le_mul_of_pos_right _ (Nat.pow_pos (by decide))
theorem all_sh {n : Nat} : ∀ {ds : List PyData}, (∀ d ∈ ds, Gd n d) → PyData.showableAll ds = true ∧ PyData.depthAll ds ≤ n + 1 ∧ (∀ t ∈ PyData.shownAll ds, t.length ≤ 200 * 8 ^ n) ∧ (PyData.shownAll ds).length = ds.length
  | [], _ => ⟨by simp [PyData.showableAll], by simp [PyData.depthAll], fun t h => by simp [PyData.shownAll] at h, by simp [PyData.shownAll]⟩
  | d :: ds, h => by
    have g := h d List.mem_cons_self
    obtain ⟨h1, h2, h3, h4⟩ := all_sh fun x hx => h x (List.mem_cons_of_mem _ hx)
    refine ⟨by simp [PyData.showableAll, g.sh, h1], ?_, fun t ht => ?_, by simp [PyData.shownAll, h4]⟩
    · simp only [PyData.depthAll]
      exact Nat.max_le.mpr ⟨g.dep, h2⟩
    · simp only [PyData.shownAll] at ht
      rcases List.mem_cons.mp ht with e | e
      · rw [e]
        exact g.len
      · exact h3 t e
theorem gd_size {n : Nat} {ds : List PyData} (h : ∀ d ∈ ds, Gd n d) (h5 : ds.length ≤ 5) : piled (PyData.shownAll ds) + 3 ≤ 200 * 8 ^ (n + 1) := by
  obtain ⟨_, _, h3, h4⟩ := all_sh h
  have z := pile_le _ h3
  have p := pow8 n
  rw [h4] at z
  have z2 : ds.length * (200 * 8 ^ n + 2) ≤ 5 * (200 * 8 ^ n + 2) := Nat.mul_le_mul_right _ h5
  rw [Nat.pow_succ]
  omega
theorem gd_list {n : Nat} {ds : List PyData} (h : ∀ d ∈ ds, Gd n d) (h5 : ds.length ≤ 5) : Gd (n + 1) (.list ds) := by
  obtain ⟨h1, h2, _, _⟩ := all_sh h
  have z := gd_size h h5
  refine ⟨by simpa [PyData.showable] using h1, by simp only [PyData.depth]; omega, ?_, nope1 rfl, nopeT rfl⟩
  simp only [PyData.shown]
  have := listText_le (PyData.shownAll ds)
  omega
theorem gd_tuple {n : Nat} {ds : List PyData} (h : ∀ d ∈ ds, Gd n d) (h5 : ds.length ≤ 5) : Gd (n + 1) (.tuple ds) := by
  obtain ⟨h1, h2, _, _⟩ := all_sh h
  have z := gd_size h h5
  refine ⟨by simpa [PyData.showable] using h1, by simp only [PyData.depth]; omega, ?_, nope1 rfl, fun es e he hm => ?_⟩
  · simp only [PyData.shown]
    have := tupleText_le (PyData.shownAll ds)
    omega
  · cases he
    exact (h e hm).ok1
theorem gd_nil : Gd 0 (.list []) := ⟨by simp [PyData.showable, PyData.showableAll], by simp [PyData.depth, PyData.depthAll], by decide +kernel, nope1 rfl, nopeT rfl⟩
theorem gd_tnil : Gd 0 (.tuple []) := ⟨by simp [PyData.showable, PyData.showableAll], by simp [PyData.depth, PyData.depthAll], by decide +kernel, nope1 rfl, fun ds e he hm => by cases he; cases hm⟩
theorem gd_dnil : Gd 0 (.dict []) := ⟨by simp [PyData.showable, PyData.showableKv], by simp [PyData.depth, PyData.depthKv], by decide +kernel, nope1 rfl, nopeT rfl⟩
theorem gd_dict1 {n : Nat} {d : PyData} (g : Gd n d) : Gd (n + 1) (.dict [(.str "a", d)]) := by
  refine ⟨by simp [PyData.showable, PyData.showableKv, g.sh], ?_, ?_, nope1 rfl, nopeT rfl⟩
  · simp only [PyData.depth, PyData.depthKv]
    have := g.dep
    omega
  · simp only [PyData.shown, PyData.shownKv]
    have h1 := dictText_le [reprText "a" ++ ": " ++ d.shown]
    have h2 : piled [reprText "a" ++ ": " ++ d.shown] = (reprText "a" ++ ": " ++ d.shown).length + 2 := by simp [piled]
    have h3 : (reprText "a" ++ ": " ++ d.shown).length = 5 + d.shown.length := by
      rw [strLen_append, strLen_append]
      have e : (reprText "a").length = 3 := by decide +kernel
      have e2 : ((": " : Str)).length = 2 := rfl
      omega
    have h4 := g.len
    have p := pow8 n
    rw [Nat.pow_succ]
    omega
/-- a value that stands for such data -/
def Th (n : Nat) (v : V) (H : Hp) : Prop := ∃ d, Dq H v d ∧ Gd n d
theorem Th.up {n m : Nat} {v : V} {H H' : Hp} (h : Th n v H) (e : Ext H H') (hn : n ≤ m) : Th m v H' := by
  obtain ⟨d, h1, h2⟩ := h
  exact ⟨d, h1.up e, h2.up hn⟩
/-- a list of such values -/
theorem th_all {n : Nat} {H : Hp} : ∀ {xs : List V}, (∀ x ∈ xs, Th n x H) → ∃ ds, DqAll H xs ds ∧ (∀ d ∈ ds, Gd n d) ∧ ds.length = xs.length
  | [], _ => ⟨[], .nil, (fun _ h => nomatch h), rfl⟩
  | x :: xs, h => by
    obtain ⟨d, h1, h2⟩ := h x List.mem_cons_self
    obtain ⟨ds, h3, h4, h5⟩ := th_all fun y hy => h y (List.mem_cons_of_mem _ hy)
    refine ⟨d :: ds, .cons h1 h3, fun e he => ?_, by rw [List.length_cons, List.length_cons, h5]⟩
    rcases List.mem_cons.mp he with z | z
    · rw [z]
      exact h2
    · exact h4 e z
theorem th_list {n : Nat} {H : Hp} {p : Addr} {xs : List V} (hp : H p = some (.lst xs)) (h : ∀ x ∈ xs, Th n x H) (h5 : xs.length ≤ 5) : Th (n + 1) (.ref p) H := by
  obtain ⟨ds, h1, h2, h3⟩ := th_all h
  exact ⟨_, .lst hp h1, gd_list h2 (by omega)⟩
theorem th_tuple {n : Nat} {H : Hp} {p : Addr} {xs : List V} (hp : H p = some (.tup xs)) (h : ∀ x ∈ xs, Th n x H) (h5 : xs.length ≤ 5) : Th (n + 1) (.ref p) H := by
  obtain ⟨ds, h1, h2, h3⟩ := th_all h
  exact ⟨_, .tup hp h1, gd_tuple h2 (by omega)⟩
/-- a text drawn from a bag -/
def spText : Sp := fun vs H Q _ => ∃ (a : Addr), vs = [.ref a] ∧ Bag H a ∧ ∀ (x : Str) (H' : Hp), Ext H H' → x.length ≤ 19 → (∀ c ∈ tl x, c < 128) → Q (.str x) H'
/-- a value drawn from a bag, so deep -/
def spPart (n : Nat) : Sp := fun vs H Q _ => ∃ (a : Addr), vs = [.ref a, .int (n : Int)] ∧ Bag H a ∧ ∀ (v : V) (H' : Hp), Ext H H' → Th (2 * n) v (nw H H') → Q v H'
def spThing : Sp := fun vs H Q _ => ∃ (a : Addr), vs = [.ref a] ∧ Bag H a ∧ ∀ (v : V) (H' : Hp), Ext H H' → Th 5 v H' → Q v H'
end Ol

set_option Elab.async false
set_option linter.all false
set_option maxRecDepth 100000
set_option maxHeartbeats 4000000
namespace Ol
open PySem PySem.Spec PyProof.Rows L2

/-- one statement of several -/
theorem cutW {X : Cx} {s : Stmt} {r : List Stmt} {D : Ends} (U W : L2.St → Hp → Prop)
    (h1 : ∃ t1, PS X s t1 ∧ ∀ nx : L2.St → Hp → Prop, (∀ σ' H', W σ' H' → nx σ' H') → ∀ σ H, U σ H → t1 { D with nx := nx } σ H)
    (h2 : ∃ t2, PSs X r t2 ∧ ∀ σ H, W σ H → t2 D σ H) : ∃ t, PSs X (s :: r) t ∧ ∀ σ H, U σ H → t D σ H := by
  obtain ⟨t2, d2, k2⟩ := h2
  obtain ⟨t1, d1, k1⟩ := h1
  exact ⟨_, pss_cons d1 d2, fun σ H u => k1 _ k2 σ H u⟩
theorem tyes {σ : L2.St} {H : Hp} {A B : Hp → Prop} (h : A H) : tYes σ H (fun b H3 => if b = true then A H3 else B H3) := by
  unfold tYes
  dsimp only
  rw [if_pos rfl]
  exact h
/-- any list comprehension of one clause: P holds of the turn, the list so far, and what is new -/
theorem lc_acc {J : It} {n : Nat} {G : Hp → Prop} {Y : Nat → Hp → V → Hp → Prop} (w : Walk J n G Y) {g : TG} {tt : TT} {te : TE} {vs : List Nat} {σ : L2.St} {H1 : Hp} {D : Addr} {Qd : Hp → Prop}
    (P : Nat → List V → Hp → Prop) (up : ∀ i xs H H', Ext H H' → P i xs H → P i xs H') (h0 : P 0 [] (fun _ => none)) (hD : H1 D = none)
    (hlen : ∀ i xs H, P i xs H → xs.length ≤ i) (hn : n ≤ sizeLine) (hG : ∀ H, Ext H1 H → G H)
    (hs : ∀ i x H H' xs, i < n → Ext H1 H → Y i H x H' → P i xs (nw (upd H1 D (.lst [])) H) →
      ∀ (QY : V → Hp → Prop) (QN : Hp → Prop),
        (∀ y H4, Ext H H4 → ((∀ Hz, Ext (nw H H4) Hz → P i xs Hz → P (i + 1) (xs ++ [y]) Hz)) → QY y H4) →
        (∀ H4, Ext H H4 → (∀ Hz, P i xs Hz → P (i + 1) xs Hz) → QN H4) →
        g x (wipe σ vs) H' fun σ2 H2 => wipe σ2 vs = wipe σ vs ∧ tt σ2 H2 fun b H3 => if b = true then te σ2 H3 QY else QN H3)
    (hd : ∀ H xs, Ext H1 H → H D = some (.lst xs) → P n xs (nw H1 H) → Qd H) :
    ∃ W : Nat → Nat → Hp → Prop, (∃ m, W 0 m (upd H1 D (.lst []))) ∧ ∀ i m H, W i m H →
      (J.stop i H ∧ Qd H) ∨ (J.go i H ∧ ∃ Nx : Hp → Prop, (∀ H', Nx H' → ∃ m', m' < m ∧ W (i + 1) m' H') ∧ ∀ x H', J.yld i H x H' → g x (wipe σ vs) H' fun σ2 H2 => wipe σ2 vs = wipe σ vs ∧ tt σ2 H2 fun b H3 =>
        if b = true then te σ2 H3 fun y H4 => ∃ acc, H4 D = some (.lst acc) ∧ acc.length < sizeLine ∧ Nx (upd H4 D (.lst (acc ++ [y]))) else Nx H3) := by
  let Hs : Hp := upd H1 D (.lst [])
  have hsD : Hs D = some (.lst []) := upd_same
  have e1 : Ext H1 Hs := Ext.new hD
  refine lc_it w (fun i H => ∃ xs, Ext H1 H ∧ H D = some (.lst xs) ∧ P i xs (nw Hs H))
    ⟨[], e1, hsD, up 0 [] _ _ (fun _ o z => by have z' : (none : Option HO) = some o := z; cases z') h0⟩ (by rintro i H _ ⟨xs, e, _⟩; exact hG H e) ?_ ?_
  · rintro i x H H' hi ⟨xs, e, hx, hp⟩ y
    have dom : ∀ b, H b = none → Hs b = none := by
      intro b q
      have z : b ≠ D := fun z => by rw [z, hx] at q; cases q
      rw [show Hs b = H1 b from upd_ne z]
      exact e.free q
    refine hs i x H H' xs hi e y hp _ _ ?_ ?_
    · intro v H4 e4 k
      refine ⟨xs, e4 _ _ hx, by have := hlen _ _ _ hp; omega, xs ++ [v], Ext.mut (e.trans e4) hD, upd_same, ?_⟩
      have toN : Ext (nw Hs H4) (nw Hs (upd H4 D (.lst (xs ++ [v])))) := nw_mut hsD
      exact k _ ((nw_dom dom).trans toN) (up _ _ _ _ ((nw_up e4).trans toN) hp)
    · intro H4 e4 k
      exact ⟨xs, e.trans e4, e4 _ _ hx, k _ (up _ _ _ _ (nw_up e4) hp)⟩
  · rintro H ⟨xs, e, hx, hp⟩
    exact hd H xs e hx (up _ _ _ _ (nw_base e1) hp)
end Ol

set_option Elab.async false
set_option linter.all false
set_option maxRecDepth 100000
set_option maxHeartbeats 4000000
namespace Ol
open PySem PySem.Spec PyProof.Rows L2

/-- x in o, o an instance of a class with its own __contains__ -/
def rInO (C : Addr) (sp : Sp) : R2 := fun x y H Q => ∃ (a dx : Addr) (fs : List (Str × V)), y = .ref a ∧ H a = some (.ins C dx fs) ∧
  sp [.ref a, x] H (fun v H' => ∃ b, v = .bl b ∧ Q (.bl b) H') E0
def rNotInO (C : Addr) (sp : Sp) : R2 := fun x y H Q => ∃ (a dx : Addr) (fs : List (Str × V)), y = .ref a ∧ H a = some (.ins C dx fs) ∧
  sp [.ref a, x] H (fun v H' => ∃ b, v = .bl b ∧ Q (.bl (!b)) H') E0
section
variable {X : Cx} {k : Nat} {C f : Addr} {fd : FuncData} {ps : List Str} {sp : Sp}
theorem op_inO (F : FnOk X.prog X.w X.K X.mg X.base CX0 k f fd ps sp) (hr : Room k X.A) (hs : PySem.W.findIn X.K (.ref C) "__contains__" = some (some (.ref f)))
    (hf : PySem.W.isFn X.K (.ref f) = true) (b : Binds X.K fd ps []) : OpR X (compareOp .In) (rInO C sp) := by
  intro pins s σ H x y v u Q I rx ry h
  obtain ⟨a, dx, fs, rfl, ho, h⟩ := h
  cases ry
  obtain ⟨mA, O, _⟩ := ins_get I.hok ho
  obtain ⟨od, J, _⟩ := O.look
  obtain ⟨m, fr⟩ := I.fr
  refine PySem.W.in_K fr I.ok.mod.kin J hs hf ?_
  refine wpAny_mono (run_fn (us := [.ref a, v]) (vs := [.ref a, x]) (E := E0) F hr b .nil pass0 I (.cons rfl (.cons rx .nil)) h) ?_ (fun _ _ z => z)
  rintro r s' ⟨w, H', I', rw', b', rfl, q⟩
  cases rw'
  exact wpAny_truthy_bool ⟨.bl b', H', I', rfl, q⟩
theorem op_notInO (F : FnOk X.prog X.w X.K X.mg X.base CX0 k f fd ps sp) (hr : Room k X.A) (hs : PySem.W.findIn X.K (.ref C) "__contains__" = some (some (.ref f)))
    (hf : PySem.W.isFn X.K (.ref f) = true) (b : Binds X.K fd ps []) : OpR X (compareOp .NotIn) (rNotInO C sp) := by
  intro pins s σ H x y v u Q I rx ry h
  obtain ⟨a, dx, fs, rfl, ho, h⟩ := h
  cases ry
  obtain ⟨mA, O, _⟩ := ins_get I.hok ho
  obtain ⟨od, J, _⟩ := O.look
  obtain ⟨m, fr⟩ := I.fr
  refine PySem.W.notIn_K fr I.ok.mod.kin J hs hf ?_
  refine wpAny_mono (run_fn (us := [.ref a, v]) (vs := [.ref a, x]) (E := E0) F hr b .nil pass0 I (.cons rfl (.cons rx .nil)) h) ?_ (fun _ _ z => z)
  rintro r s' ⟨w, H', I', rw', b', rfl, q⟩
  cases rw'
  exact wpAny_truthy_bool ⟨.bl (!b'), H', I', rfl, q⟩
end
end Ol

set_option Elab.async false
set_option linter.all false
set_option maxRecDepth 100000
set_option maxHeartbeats 4000000
namespace Ol
open PySem PySem.Spec PyProof.Rows L2

/-! ### enumerate(t), t a tuple -/
theorem meets_enumerate_new1 {v : Value} {o : Obj} {H : Heap → Prop} (B : Begins v o H) :
    Meets (Builtin.«enumerate.__new__» ⟨[.type "enumerate", v], []⟩) (fun _ R s => H s.heap ∧
      R (.ok (.ret (.ref (s.heap.push o).objs.size))) { s with heap := (s.heap.push o).push { cls := .type "enumerate", data := .fields #[.none, .bool false, .ref s.heap.objs.size, rawInt 0, .none, .none] } }) :=
  .of_wp fun prog w A R s h => by
    obtain ⟨hp, g, d, tk, os⟩ := s
    obtain ⟨h1, h⟩ := h
    have hsub := sub_enumerate
    have q1 : ∀ {A' : Around} {E : Value → Shared → Prop} {Q : Value → Shared → Prop}, Q (.ref hp.objs.size) ⟨hp.push o, g, d, tk, os⟩ → wpAny (model prog w) A' (pyIter v) Q E ⟨hp, g, d, tk, os⟩ :=
      fun q => B.iter prog w _ _ ⟨hp, g, d, tk, os⟩ _ h1 q
    wp_walk using q1
    refine wpAny_stack_any fun st => wpAny_pure ?_
    split
    · rename_i c _ _ _ _ _
      cases (c == Value.type "enumerate")
      · wp_walk using q1
        exact ⟨_, rfl, h⟩
      · wp_walk using q1
        exact ⟨_, rfl, h⟩
    · wp_walk using q1
      exact ⟨_, rfl, h⟩
section
variable {prog : Program} {w : World} {A : Around} {E : Value → Shared → Prop} {s : Shared}
theorem enum_begins1 {v : Value} {o : Obj} {H : Heap → Prop} {Q : Value → Shared → Prop} (B : Begins v o H) (h1 : H s.heap)
    (h : ∀ h', IsEnum h' (s.heap.objs.size + 1) s.heap.objs.size 0 .none → h'.get? s.heap.objs.size = some o → h'.objs.size = s.heap.objs.size + 2 →
      (∀ b o, s.heap.get? b = some o → h'.get? b = some o) → Q (.ref (s.heap.objs.size + 1)) { s with heap := h' }) :
    wpAny (model prog w) A (call (.type "enumerate") [v]) Q E s := by
  refine callType_new F.called_enumerate (by decide) (F.typeCall_enumerate_1 _) (F.newCall_enumerate_1 _) (fun obj => F.args_object_init_2 obj _) F.entry_enumerate_new
    (meets_enumerate_new1 B) ⟨h1, ?_⟩
  have hz : (s.heap.push o).objs.size = s.heap.objs.size + 1 := Heap.size_push ..
  show _ ∧ _
  rw [hz]
  have he : IsEnum ((s.heap.push o).push { cls := .type "enumerate", data := .fields #[.none, .bool false, .ref s.heap.objs.size, rawInt 0, .none, .none] }) (s.heap.objs.size + 1) s.heap.objs.size 0 .none := by
    have := Heap.get?_push_size (s.heap.push o) (o := { cls := .type "enumerate", data := .fields #[.none, .bool false, .ref s.heap.objs.size, rawInt 0, .none, .none] }) rfl
    rw [hz] at this; exact this
  refine ⟨⟨_, he, rfl⟩, h _ he (Heap.get?_push_of_some _ (Heap.get?_push_size _ B.free)) (by rw [Heap.size_push, hz]) fun b o x => Heap.get?_push_of_some _ (Heap.get?_push_of_some _ x)⟩
end
/-- the tuple at a as it stands, each item with its place in a new pair -/
def IteT (K : PySem.W.Frag) (a : Addr) : It :=
  ⟨fun i H => ∃ (xs : List V) (x : V), SqT K H a xs ∧ xs[i]? = some x, fun i H v H' => ∃ T x, v = .ref T ∧ H T = none ∧ H' = upd H T (.tup [.int (i : Nat), x]) ∧ ∀ xs, SqT K H a xs → xs[i]? = some x, fun i H => ∃ xs : List V, SqT K H a xs ∧ xs.length ≤ i⟩
theorem turn_enumT {P : Program} {w : World} {K : PySem.W.Frag} {elts : List Expr} {kk : Nat} {tpos : Pos} (a e it : Addr) :
    Turn P w K (.Tuple elts kk tpos) (IteT K a) [e, it] e (fun i h => (∃ old, IsEnum h e it ((i : Nat) : Int) old) ∧ h.IsTupleIter it a i ∧ e ≠ it ∧ a ≠ it ∧ e ≠ a) where
  mem := by simp
  obj := fun i h st b hb => by
    obtain ⟨⟨old, he⟩, ⟨o, ho, hc, hd⟩, _⟩ := st
    have e' : b = e ∨ b = it := by simpa using hb
    rcases e' with z | z
    · rw [z]; exact ⟨_, he, fun v q => nomatch q⟩
    · rw [z]; exact ⟨o, ho, fun v q => by rw [hd] at q; cases q⟩
  keep := fun i h h' st k => let ⟨⟨old, he⟩, hi, hne⟩ := st; ⟨⟨old, k e (by simp) _ he⟩, hi.at fun o q => k it (by simp) o q, hne⟩
  item := by
    intro X hP hw hK hc i pins s σ H E I hf st hg
    subst hP hw hK
    obtain ⟨⟨old, he⟩, hit, hne, hai, hea⟩ := st
    obtain ⟨xs, x, hq, hx⟩ := hg
    obtain ⟨its, rv, p, hz⟩ := I.tuple hq
    obtain ⟨u, hu, ru⟩ := rv.get hx
    have hel : e < s.heap.objs.size := Heap.lt_size he
    have hil : it < s.heap.objs.size := by obtain ⟨_, q, _⟩ := hit; exact Heap.lt_size q
    have hlt : i < its.toArray.size := by have := rv.length; have := (List.getElem?_eq_some_iff.mp hx).1; simp; omega
    refine wpAny_pyNext_enum_itemD (Draws.tuple (A := X.A.in1) (show X.A.in1.handled = none from I.ok.hd hc) it a hai its.toArray) he ⟨hit, p⟩ hlt hne (by simp [hne, hea]) fun u' h' tk hu' ho st' hT hsz hk => ?_
    have eu : u' = u := by
      have z : its.toArray[i]? = some u := by simpa using hu
      rw [z] at hu'
      exact (Option.some.inj hu').symm
    subst eu
    refine ⟨_, rfl, wpAny_letOwnedTupleGo_enum (s := { s with heap := h', toks := tk + 1 }) ho fun h'' he' sb => ?_⟩
    have hT2 : h''.get? s.heap.objs.size = some { cls := .type "tuple", data := .seq #[.int i tk, u'] } := (sb.2 _ (Nat.ne_of_gt hel)).trans hT
    have new : ObjOk X.prog X.w (upd H s.heap.objs.size (.tup [.int (i : Nat), x])) h'' s.heap.objs.size (.tup [.int (i : Nat), x]) :=
      ⟨by show 2 ≤ sizeLine; decide, [.int i tk, u'], .cons ⟨_, rfl⟩ (.cons ru .nil), ⟨_, hT2, rfl, _, rfl⟩⟩
    have I1 : Inv X pins σ (upd H s.heap.objs.size (.tup [.int (i : Nat), x])) { s with heap := h'', toks := tk + 1 } :=
      I.turnedNew (ch := [e, it]) (fun b ob hb q => (sb.2 b (fun z => hb (by simp [z]))).trans (hk b ob (fun z => hb (by simp [z])) (fun z => hb (by simp [z])) q)) hf (Nat.le_refl _) new
    refine ⟨.ref s.heap.objs.size, _, I1, rfl, ⟨_, x, rfl, I.hok.fresh (Nat.le_refl _), rfl, fun ys hy => by rw [I.tuple_inj hy hq]; exact hx⟩, ⟨⟨u', ?_⟩, st'.1.at fun o q => (sb.2 it (Ne.symm hne)).trans q, hne, hai, hea⟩, fun b hb => ?_⟩
    · have e1 : ((i + 1 : Nat) : Int) = (i : Int) + 1 := by omega
      rw [e1]; exact he'
    · have hb' : b < s.heap.objs.size := by
        have e' : b = e ∨ b = it := by simpa using hb
        rcases e' with z | z
        · rw [z]; exact hel
        · rw [z]; exact hil
      rw [upd_ne (Nat.ne_of_lt hb')]
      exact (hf b hb).1
  done := by
    intro X hP hw hK hc i pins s σ H E I hf st hg
    subst hP hw hK
    obtain ⟨⟨old, he⟩, hit, hne, hai, hea⟩ := st
    obtain ⟨xs, hq, hx⟩ := hg
    obtain ⟨its, rv, p, hz⟩ := I.tuple hq
    obtain ⟨f0, f1, f2, f3, f4, f5⟩ := hf it (by simp)
    have hl := rv.length
    have hT : s.TypeIs (.ref e) "enumerate" := ⟨_, he, rfl⟩
    unfold pyNext
    refine wpAny_bind (wpAny_attempt (wpAny_callSpecial?_slot (name := Str.ofString "__next__") hT F.slot_enumerate_next
      (wpAny_call_entry F.slot_enumerate_next hT F.entry_enumerate_next ?_ (F.args_enumerate_next_1 _))))
    show wpAny _ _ (field (.ref e) 2 >>= _) _ _ _
    refine wpAny_bind (wpAny_field he rfl (x := .ref it) rfl ?_)
    refine wpAny_bind (wpAny_nextOf_tuple_end (I.ok.hd hc) hit p (by simp; omega) fun h' x he' hx' => ?_)
    obtain ⟨o, ho, hcl⟩ := hx'
    refine wpAny_bind (wpAny_isInstance (T := "StopIteration") (b := true) ⟨o, ho, hcl⟩ isSubtype_stop ?_)
    exact wpAny_pure ⟨rfl, I.turned (t' := s.toks) (fun b o hb q => he' b o hb q) f0 f1 f3 f4 f5⟩
  self := fun A i s Q E st h => let ⟨⟨_, he⟩, _⟩ := st; wpAny_pyIter_enum he h
def iEnumT (K : PySem.W.Frag) (ta : TA) : TI := fun σ H R => ta σ H fun vs H1 => ∃ a xs, vs = [.ref a] ∧ SqT K H1 a xs ∧ R (IteT K a) H1
theorem pi_enumT {X : Cx} {e : Expr} {ta : TA} {p pos tpos : Pos} {elts : List Expr} {kk : Nat} (hg : Gl X "enumerate") (hm : X.mg "enumerate" = none) (ha : PA X [e] ta) (hs : starEach [e] X.env = [(false, eval e X.env)] := by rfl) :
    PI X (.Tuple elts kk tpos) (.Call (.Name "enumerate" p) [e] [] pos) (iEnumT X.K ta) := by
  refine ⟨fun pins s σ H R I h => ?_⟩
  refine Call_ (ld_blt I hg hm boot_enumerate (PyProof.Rows.callWith_type1 (thn (ha.run pos pins s σ H _ I h) fun us s1 ⟨vs, H1, I1, r1, q1⟩ => ?_) hs rfl))
  obtain ⟨a, xs, ex, hq, q⟩ := q1
  subst ex
  cases r1 with
  | cons r rr =>
    cases rr
    cases r
    obtain ⟨its, rv, p', hz⟩ := I1.tuple hq
    have hal : a < s1.heap.objs.size := by obtain ⟨_, q, _⟩ := p'; exact Heap.lt_size q
    refine enum_begins1 (begins_tuple a its.toArray) p' fun h' he hit hsz hk => wpAny_pyIter_enum he ?_
    have I2 : Inv X pins σ H1 { s1 with heap := h' } := I1.kept (t' := s1.toks) hk
    refine ⟨s1.heap.objs.size + 1, [s1.heap.objs.size + 1, s1.heap.objs.size], _, _, H1, rfl, I2, turn_enumT a (s1.heap.objs.size + 1) s1.heap.objs.size, ⟨⟨.none, he⟩, ⟨_, hit, rfl, rfl⟩, Nat.succ_ne_self _, Nat.ne_of_lt hal, Nat.ne_of_gt (Nat.lt_succ_of_lt hal)⟩, fun b hb => ?_, q⟩
    have e' : b = s1.heap.objs.size + 1 ∨ b = s1.heap.objs.size := by simpa using hb
    have hle : s1.heap.objs.size ≤ b := by
      rcases e' with z | z
      · rw [z]; exact Nat.le_add_right _ _
      · rw [z]; exact Nat.le_refl _
    exact I1.fpOk hle (I1.hok.fresh hle)
theorem walk_enumT {K : PySem.W.Frag} {a : Addr} {xs : List V} : Walk (IteT K a) xs.length (fun H => SqT K H a xs) (YPair (fun i => some (.int (i : Nat))) (fun i => xs[i]?)) := by
  refine ⟨fun i _ hi q => ⟨xs, xs[i], q, by simp [hi]⟩, fun _ q => ⟨xs, q, Nat.le_refl _⟩, fun i H v H' _ q y => ?_⟩
  obtain ⟨T, x, h1, h2, h3, h4⟩ := y
  exact ⟨T, .int (i : Nat), x, h1, h2, h3, rfl, h4 xs q⟩
end Ol

set_option Elab.async false
set_option linter.all false
set_option maxRecDepth 100000
set_option maxHeartbeats 4000000
namespace Ol
open PySem PySem.Spec PyProof.Rows L2

/-- a dict comprehension over any walk -/
theorem dc_it {J : It} {n : Nat} {G : Hp → Prop} {Y : Nat → Hp → V → Hp → Prop} (w : Walk J n G Y) {g : TG} {tt : TT} {tk tv : TE} {vs : List Nat} {σ : L2.St} {H1 : Hp} {D : Addr} {Qd : Hp → Prop} (Pv : Nat → Hp → Prop)
    (h0 : Pv 0 (upd H1 D (.dK []))) (hG : ∀ i H, i ≤ n → Pv i H → G H)
    (hs : ∀ i x H H', i < n → Pv i H → Y i H x H' → g x (wipe σ vs) H' fun σ2 H2 => wipe σ2 vs = wipe σ vs ∧ tt σ2 H2 fun b H3 =>
      if b = true then tk σ2 H3 fun y H4 => tv σ2 H4 fun z H5 => ∃ kvs k, y = kV k ∧ H5 D = some (.dK kvs) ∧ kvs.length < sizeLine ∧ Pv (i + 1) (upd H5 D (.dK (putK kvs k z))) else Pv (i + 1) H3) (hd : ∀ H, Pv n H → Qd H) :
    ∃ W : Nat → Nat → Hp → Prop, (∃ m, W 0 m (upd H1 D (.dK []))) ∧ ∀ i m H, W i m H →
      (J.stop i H ∧ Qd H) ∨ (J.go i H ∧ ∃ Nx : Hp → Prop, (∀ H', Nx H' → ∃ m', m' < m ∧ W (i + 1) m' H') ∧ ∀ x H', J.yld i H x H' → g x (wipe σ vs) H' fun σ2 H2 => wipe σ2 vs = wipe σ vs ∧ tt σ2 H2 fun b H3 =>
        if b = true then tk σ2 H3 fun y H4 => tv σ2 H4 fun z H5 => ∃ kvs k, y = kV k ∧ H5 D = some (.dK kvs) ∧ kvs.length < sizeLine ∧ Nx (upd H5 D (.dK (putK kvs k z))) else Nx H3) := by
  refine ⟨fun i m H => m = n - i ∧ i ≤ n ∧ Pv i H, ⟨n, by simp, Nat.zero_le _, h0⟩, ?_⟩
  rintro i m H ⟨rfl, hi, p⟩
  have q := hG i H hi p
  by_cases hlt : i < n
  · exact .inr ⟨w.goes i H hlt q, Pv (i + 1), fun H' p' => ⟨n - (i + 1), by omega, rfl, hlt, p'⟩, fun x H' y => hs i x H H' hlt p (w.yields i H x H' hlt q y)⟩
  · have e : i = n := by omega
    subst e
    exact .inl ⟨w.stops H q, hd H p⟩

/-- names and their places, as a dict holds them -/
def spots (ns : List Str) : List (Key × V) := ns.zipIdx.map fun p => (.inr p.1, .int (p.2 : Int))
theorem spots_len (ns : List Str) : (spots ns).length = ns.length := by unfold spots; rw [List.length_map, List.length_zipIdx]
theorem spots_snoc (ns : List Str) (x : Str) : spots (ns ++ [x]) = spots ns ++ [(.inr x, .int (ns.length : Int))] := by
  unfold spots
  rw [List.zipIdx_append, List.map_append]
  simp
theorem valV_none {kvs : List (Key × V)} {k : Key} (h : ∀ p ∈ kvs, p.1 ≠ k) : valV kvs k = none := by
  induction kvs with
  | nil => rfl
  | cons p r ih => rw [valV_neg (h p List.mem_cons_self), ih fun q hq => h q (List.mem_cons_of_mem _ hq)]
theorem putK_new {kvs : List (Key × V)} {k : Key} {v : V} (h : valV kvs k = none) : putK kvs k v = kvs ++ [(k, v)] := by
  unfold putK
  rw [valV_any, h]
  rfl
theorem spots_key (ns : List Str) : (spots ns).map (·.1) = ns.map Sum.inr := by
  unfold spots
  rw [List.map_map]
  have h : ∀ (l : List Str) (k : Nat), (l.zipIdx k).map ((fun p : Key × V => p.1) ∘ fun p => (Sum.inr p.1, V.int (p.2 : Int))) = l.map Sum.inr := by
    intro l
    induction l with
    | nil => intro k; rfl
    | cons a l ih =>
      intro k
      rw [List.zipIdx_cons, List.map_cons, ih]
      rfl
  exact h ns 0
theorem spots_none {ns : List Str} {x : Str} (h : x ∉ ns) : valV (spots ns) (.inr x) = none := by
  refine valV_none fun p hp e => h ?_
  have z : p.1 ∈ (spots ns).map (·.1) := List.mem_map_of_mem hp
  rw [spots_key, e] at z
  obtain ⟨y, hy, ey⟩ := List.mem_map.mp z
  cases ey
  exact hy
theorem spots_val {ns : List Str} (hd : ns.Nodup) {i : Nat} (hi : i < ns.length) : valV (spots ns) (.inr ns[i]) = some (.int (i : Int)) := by
  unfold spots
  have h : ∀ (l : List Str) (k i : Nat) (hi : i < l.length), l.Nodup → valV ((l.zipIdx k).map fun p => ((.inr p.1, .int (p.2 : Int)) : Key × V)) (.inr l[i]) = some (.int ((k + i : Nat) : Int)) := by
    intro l
    induction l with
    | nil => intro k i hi; cases hi
    | cons a l ih =>
      intro k i hi hn
      rw [List.zipIdx_cons, List.map_cons]
      cases i with
      | zero => exact valV_pos rfl
      | succ i =>
        rw [List.nodup_cons] at hn
        have hi' : i < l.length := by simpa using hi
        rw [valV_neg]
        · show valV _ (Sum.inr l[i]) = _
          rw [ih (k + 1) i hi' hn.2]
          rw [show k + 1 + i = k + (i + 1) by omega]
        · intro z
          have z' : a = l[i] := Sum.inr.inj z
          exact hn.1 (z' ▸ List.getElem_mem hi')
  have z := h ns 0 i hi hd
  rw [Nat.zero_add] at z
  exact z
end Ol

set_option Elab.async false
set_option linter.all false
set_option maxRecDepth 100000
set_option maxHeartbeats 4000000
namespace Ol
open PySem PySem.Spec PyProof.Rows L2

/-- a method of class C and its promise -/
structure Cm (P : Program) (w : World) (K : PySem.W.Frag) (mg : Str → Option Value) (base : Heap)
    (C : Addr) (k : Nat) (m : Str) (ps : List Str) (sp : Sp) : Prop where
  has : ∃ (f : Addr) (fd : FuncData), FnOk P w K mg base CX0 k f fd ps sp ∧ Meth K C m f ∧ Binds K fd ps []
section
variable {X : Cx} {k : Nat} {C : Addr} {ps : List Str} {sp : Sp} {m : Str} {o e : Expr} {es : List Expr} {ta : TE} {t : TA} {apos pos : Pos}
theorem pe_cm {pl : Sem Bool} (M : Cm X.prog X.w X.K X.mg X.base C k m ps sp) (c : Cls X.K C) (hr : Room k X.A) (he : PE X o ta) (ha : PA X (e :: es) t)
    (hst : starEach (e :: es) X.env = (false, eval e X.env) :: starEach es X.env := by rfl) (hpl : (backTo pos (starEach es X.env)).any (·.1) = false := by rfl)
    (ht : eval (.Call (.Attribute o m apos) (e :: es) [] pos) X.env = (do
      let ov ← eval o X.env
      standAt apos.atName
      let (f, first) ← holding [ov] (getMethod ov m pl)
      callWith pos f first (backTo pos (starEach (e :: es) X.env)) (backToKw pos (keywordEach [] X.env))) := by rfl) :
    PE X (.Call (.Attribute o m apos) (e :: es) [] pos) (tMeth C m sp [] E0 ta t) := by
  obtain ⟨f, fd, F, hm, b⟩ := M.has
  exact pe_meth he c hm F hr b .nil pass0 ha hst hpl ht
theorem op_notInM (M : Cm X.prog X.w X.K X.mg X.base C k "__contains__" ps sp) (hr : Room k X.A) : OpR X (compareOp .NotIn) (rNotInO C sp) := by
  obtain ⟨f, fd, F, hm, b⟩ := M.has
  exact op_notInO F hr hm.at_ hm.fn b
end

/-! ### t * 1 -/
theorem tuple_mul1 (l : Addr) (items : Array Value) (n : Nat) (dd : Option Addr) (sl : Array (Option Value)) (u : Tok) (hi : items.isEmpty = false) :
    Meets (Builtin.«tuple.__mul__» ⟨[.ref l, .int 1 u], []⟩) (fun _ R s => s.heap.get? l = some { cls := .type "tuple", dict := dd, data := .seq items n, slots := sl } ∧
      R (.ok (.ret (Value.ref l))) s) :=
  .of_wp fun prog w A R s h => by
    obtain ⟨hp, g, d, tk, os⟩ := s
    obtain ⟨hl, h⟩ := h
    have f1 := AutoSeq1.idx_int
    wp_walk using wpAny_loadPart' hl
    exact ⟨_, rfl, h⟩
/-- t * k, 1 ≤ k -/
def rRepA (K : PySem.W.Frag) : R2 := fun x y H Q => ∃ l k xs, x = .ref l ∧ y = .int k ∧ SqT K H l xs ∧ xs ≠ [] ∧ 1 ≤ k ∧ k ≤ 1000 ∧ xs.length ≤ 1000 ∧
  (k = 1 → Q (.ref l) H) ∧ (2 ≤ k → ∀ p, H p = none → Q (.ref p) (upd H p (.tup (List.replicate k.toNat xs).flatten)))
theorem op_repA {X : Cx} : OpR X (binaryOp .Mult) (rRepA X.K) := by
  intro pins s σ H x y v u Q I rx ry h
  obtain ⟨l, k, xs, ex, ey, hT, hne, h1, h2, hz, q1, q2⟩ := h
  by_cases hk : 2 ≤ k
  · exact op_repT pins s σ H x y v u Q I rx ry ⟨l, k, xs, ex, ey, hT, hne, hk, h2, hz, q2 hk⟩
  · have e1 : k = 1 := by omega
    subst ex ey e1
    cases rx
    obtain ⟨t, rfl⟩ := ry
    obtain ⟨its, r, ⟨⟨cls, dd, data, sl⟩, ho, hc, n, hd⟩, hs⟩ := I.tuple hT
    simp only at hc hd
    subst hc hd
    have hle : its.length = xs.length := r.length.symm
    have hn : its ≠ [] := fun e => hne (by
      rw [e] at hle
      exact List.eq_nil_of_length_eq_zero hle.symm)
    have hi : its.toArray.isEmpty = false := by
      cases its with
      | nil => exact absurd rfl hn
      | cons a b => rfl
    exact wpAny_binaryOp_repeat_ref (T := "tuple") (U := "int") (by decide) ⟨_, ho, rfl⟩ (fun s' => typeIs_int s' 1 t) noFill_tuple_mul F.fills_int_mul F.slot_int_rmul repeat_tuple F.slot_int_index.lookup
      (call_meets F.slot_int_rmul (typeIs_int s 1 t) F.entry_int_rmul (F.args_int_rmul_2 _ _) (int_rmul_tuple 1 t l its.toArray n dd sl)
        ⟨ho, rfl, ⟨_, ho, rfl⟩, call_meets F.slot_tuple_mul ⟨_, ho, rfl⟩ F.entry_tuple_mul (F.args_tuple_mul_2 _ _) (tuple_mul1 l its.toArray n dd sl t hi) ⟨ho, .ref l, H, I, rfl, q1 rfl⟩⟩)
end Ol

set_option Elab.async false
set_option linter.all false
set_option maxRecDepth 100000
set_option maxHeartbeats 4000000
namespace Ol
open PySem PySem.Spec PyProof.Rows L2

/-- a method that may raise, within a try -/
def tMethX (C : Addr) (m : Str) (sp : Sp) (E : L2.St → XK) (ta : TE) (t : TA) : TE := fun σ H Q => ta σ H fun x H1 => ∃ a dx fs, x = .ref a ∧ H1 a = some (.ins C dx fs) ∧ fs.lookup m = none ∧
  t σ H1 fun vs H2 => sp (x :: vs) H2 Q (E σ)
/-- a method that may raise, and its promise -/
structure CmX (P : Program) (w : World) (K : PySem.W.Frag) (mg : Str → Option Value) (base : Heap)
    (C : Addr) (k : Nat) (m : Str) (ps : List Str) (sp : Sp) : Prop where
  has : ∃ (f : Addr) (fd : FuncData), FnOk P w K mg base (L2.CX P w) k f fd ps sp ∧ Meth K C m f ∧ Binds K fd ps []
section
variable {X : Cx} {k : Nat} {C : Addr} {ps : List Str} {sp : Sp} {m : Str} {o e : Expr} {es : List Expr} {ta : TE} {t : TA} {apos pos : Pos} {E : L2.St → XK}
theorem pe_cmX {pl : Sem Bool} (M : CmX X.prog X.w X.K X.mg X.base C k m ps sp) (c : Cls X.K C) (hr : Room k X.A) (hx : ∀ σ, PassesAt (L2.CX X.prog X.w) X σ (E σ)) (he : PE X o ta) (ha : PA X (e :: es) t)
    (hst : starEach (e :: es) X.env = (false, eval e X.env) :: starEach es X.env := by rfl) (hpl : (backTo pos (starEach es X.env)).any (·.1) = false := by rfl)
    (ht : eval (.Call (.Attribute o m apos) (e :: es) [] pos) X.env = (do
      let ov ← eval o X.env
      standAt apos.atName
      let (f, first) ← holding [ov] (getMethod ov m pl)
      callWith pos f first (backTo pos (starEach (e :: es) X.env)) (backToKw pos (keywordEach [] X.env))) := by rfl) :
    PE X (.Call (.Attribute o m apos) (e :: es) [] pos) (tMethX C m sp E ta t) := by
  obtain ⟨f, fd, F, hm, b⟩ := M.has
  refine ⟨fun pins s σ H Q I h => ?_⟩
  refine PySem.W.methodCall_KW (pl := pl) (thn (he.run pins s σ H _ I h) fun u s1 ⟨x, H1, I1, rx, a, dx, fs, ex, ea, l, q⟩ => ?_) ht
  subst ex
  obtain rfl : u = Value.ref a := rx
  refine getmeth_ok I1 ea c hm l ?_
  refine PySem.W.callWith_K (first := [.ref a]) (h₀ := X.base) I.ok.mod.kin hm.kp (thn (ha.run pos pins s1 σ H1 _ I1 q) fun us s2 ⟨vs, H2, I2, r, q2⟩ => ⟨I2.kIn, ?_⟩) hst hpl
  exact run_fnS (us := .ref a :: us) (vs := .ref a :: vs) F hr b (hx σ) I2 (.cons rfl r) q2
end
end Ol

set_option Elab.async false
set_option linter.all false
set_option maxRecDepth 100000
set_option maxHeartbeats 4000000
namespace Ol
open PySem PySem.Spec PyProof.Rows L2 RZ

theorem walk_zipT {K : PySem.W.Frag} {a b : Addr} {xs ys : List V} {n : Nat} (hn : n = min xs.length ys.length) : Walk (ItzT K a b) n (fun H => SqT K H a xs ∧ SqT K H b ys) (YPair (fun i => xs[i]?) (fun i => ys[i]?)) := by
  subst hn
  refine ⟨fun i _ hi q => ?_, fun _ q => ⟨xs, ys, q.1, q.2, by omega⟩, fun i H v H' _ q y => ?_⟩
  · have h1 : i < xs.length := by omega
    have h2 : i < ys.length := by omega
    exact ⟨xs, ys, xs[i], ys[i], q.1, q.2, by simp [h1], by simp [h2]⟩
  · obtain ⟨T, x, z, h1, h2, h3, h4, h5⟩ := y
    exact ⟨T, x, z, h1, h2, h3, h4 xs q.1, h5 ys q.2⟩

theorem ext_del {H H' : Hp} {D : Addr} (e : Ext H H') : Ext (del H D) (del H' D) := fun b o z => by
  by_cases c : b = D
  · rw [c, del_same] at z; cases z
  · rw [del_ne c] at z ⊢
    exact e _ _ z
theorem del_ext {H : Hp} {D : Addr} : Ext (del H D) H := fun b o z => by
  by_cases c : b = D
  · rw [c, del_same] at z; cases z
  · rw [del_ne c] at z
    exact z
theorem ext_to {H H' : Hp} {D : Addr} (e : Ext H H') (h : H D = none) : Ext H (del H' D) := fun b o z => by
  rw [del_ne (fun c => by rw [c, h] at z; cases z)]
  exact e _ _ z
theorem del_upd {H : Hp} {D : Addr} {o : HO} : del (upd H D o) D = del H D := by
  funext b
  by_cases c : b = D
  · rw [c, del_same, del_same]
  · rw [del_ne c, del_ne c, upd_ne c]
theorem del_at {H : Hp} {D p : Addr} {o u : HO} (h : H p = none) (hD : H D = some u) {H' : Hp} (h' : H' p = some o) : del H' D p = some o := by
  rw [del_ne (fun c => by rw [c, hD] at h; cases h)]
  exact h'
/-- what the second clause is to do in turn i of the first one -/
def Inner (P : Nat → Nat → List V → Hp → Prop) (D : Addr) (H : Hp) (g1 : TG) (tt1 : TT) (te : TE) (vs1 : List Nat) (i : Nat) (σ2 : L2.St) (J1 : It) (H4 : Hp) : Prop :=
  Ext H H4 ∧ ∃ n1 G1 Y1, Walk J1 n1 G1 Y1 ∧
    (∀ Hz, Ext (del H4 D) Hz → G1 Hz) ∧
    (∀ ys Hz, P i n1 ys Hz → P (i + 1) 0 ys Hz) ∧
    ∀ j y Ha Hb ys, j < n1 → Ext (del H4 D) Ha → Ha D = some (.lst ys) → Y1 j Ha y Hb → P i j ys (del Ha D) →
      ∀ (QY : V → Hp → Prop) (QN : Hp → Prop),
        (∀ y H5, Ext Ha H5 → P i (j + 1) (ys ++ [y]) (del H5 D) → QY y H5) →
        (∀ H5, Ext Ha H5 → P i (j + 1) ys (del H5 D) → QN H5) →
        g1 y (wipe σ2 vs1) Hb fun σ3 H5 => wipe σ3 vs1 = wipe σ2 vs1 ∧ tt1 σ3 H5 fun b H6 => if b = true then te σ3 H6 QY else QN H6
/-- a comprehension of two clauses (a test in the second one alone): P holds of both turns, the list so far, and all that stands but the list -/
theorem lc2_acc {J : It} {n : Nat} {G : Hp → Prop} {Y : Nat → Hp → V → Hp → Prop} (w : Walk J n G Y) {g : TG} {wi1 : TI} {g1 : TG} {tt1 : TT} {te : TE} {vs vs1 : List Nat} {σ : L2.St} {H1 : Hp} {D : Addr} {Qd : Hp → Prop}
    (P : Nat → Nat → List V → Hp → Prop) (up : ∀ i j xs H H', Ext H H' → P i j xs H → P i j xs H') (h0 : P 0 0 [] H1) (hD : H1 D = none)
    (hlen : ∀ i j xs H, P i j xs H → xs.length < sizeLine) (hG : ∀ H, Ext H1 H → G H)
    (hs : ∀ i x H H' xs, i < n → Ext H1 H → H D = some (.lst xs) → Y i H x H' → P i 0 xs (del H D) →
      ∀ R : L2.St → It → Hp → Prop, (∀ σ2 J1 H4, Inner P D H g1 tt1 te vs1 i σ2 J1 H4 → R σ2 J1 H4) →
      g x (wipe σ vs) H' fun σ2 H2 => wipe σ2 vs = wipe σ vs ∧ wi1 σ2 H2 (R σ2))
    (hd : ∀ H xs, Ext H1 H → H D = some (.lst xs) → P n 0 xs H → Qd H) :
    ∃ W : Nat → Nat → Hp → Prop, (∃ m, W 0 m (upd H1 D (.lst []))) ∧ ∀ i m H, W i m H →
      (J.stop i H ∧ Qd H) ∨ (J.go i H ∧ ∃ Nx : Hp → Prop, (∀ H', Nx H' → ∃ m', m' < m ∧ W (i + 1) m' H') ∧ ∀ x H', J.yld i H x H' → g x (wipe σ vs) H' fun σ2 H2 => wipe σ2 vs = wipe σ vs ∧ tYes σ2 H2 fun b H3 =>
        if b = true then wi1 σ2 H3 fun J1 H4 => ∃ W1 : Nat → Nat → Hp → Prop, (∃ m, W1 0 m H4) ∧ ∀ j k H, W1 j k H →
          (J1.stop j H ∧ Nx H) ∨ (J1.go j H ∧ ∃ Nx1 : Hp → Prop, (∀ H', Nx1 H' → ∃ k', k' < k ∧ W1 (j + 1) k' H') ∧ ∀ x H', J1.yld j H x H' → g1 x (wipe σ2 vs1) H' fun σ3 H5 => wipe σ3 vs1 = wipe σ2 vs1 ∧ tt1 σ3 H5 fun b H6 =>
            if b = true then te σ3 H6 fun y H7 => ∃ acc, H7 D = some (.lst acc) ∧ acc.length < sizeLine ∧ Nx1 (upd H7 D (.lst (acc ++ [y]))) else Nx1 H6)
        else Nx H3) := by
  have e1 : Ext H1 (upd H1 D (.lst [])) := Ext.new hD
  let Pv : Nat → Hp → Prop := fun i H => ∃ xs, Ext H1 H ∧ H D = some (.lst xs) ∧ P i 0 xs (del H D)
  refine ⟨fun i m H => m = n - i ∧ i ≤ n ∧ Pv i H, ⟨n, by simp, Nat.zero_le _, [], e1, upd_same, up 0 0 [] _ _ (ext_to e1 hD) h0⟩, ?_⟩
  rintro i m H ⟨rfl, hi, xs, e, hx, hp⟩
  have q := hG H e
  by_cases hlt : i < n
  · refine .inr ⟨w.goes i H hlt q, Pv (i + 1), fun H' p' => ⟨n - (i + 1), by omega, rfl, hlt, p'⟩, fun x H' y => ?_⟩
    refine hs i x H H' xs hlt e hx (w.yields i H x H' hlt q y) hp (fun σ2 J1 H4 => ∃ W1 : Nat → Nat → Hp → Prop, (∃ m, W1 0 m H4) ∧ ∀ j k H, W1 j k H →
          (J1.stop j H ∧ Pv (i + 1) H) ∨ (J1.go j H ∧ ∃ Nx1 : Hp → Prop, (∀ H', Nx1 H' → ∃ k', k' < k ∧ W1 (j + 1) k' H') ∧ ∀ x H', J1.yld j H x H' → g1 x (wipe σ2 vs1) H' fun σ3 H5 => wipe σ3 vs1 = wipe σ2 vs1 ∧ tt1 σ3 H5 fun b H6 =>
            if b = true then te σ3 H6 fun y H7 => ∃ acc, H7 D = some (.lst acc) ∧ acc.length < sizeLine ∧ Nx1 (upd H7 D (.lst (acc ++ [y]))) else Nx1 H6)) ?_
    rintro σ2 J1 H4 ⟨e4, n1, G1, Y1, w1, hG1, hend, hst⟩
    have e14 : Ext H1 (del H4 D) := ext_to (e.trans e4) hD
    let Pj : Nat → Hp → Prop := fun j Ha => ∃ ys, Ext (del H4 D) (del Ha D) ∧ Ha D = some (.lst ys) ∧ P i j ys (del Ha D)
    refine ⟨fun j k Ha => k = n1 - j ∧ j ≤ n1 ∧ Pj j Ha, ⟨n1, by simp, Nat.zero_le _, xs, Ext.refl _, e4 _ _ hx, up _ _ _ _ _ (ext_del e4) hp⟩, ?_⟩
    rintro j k Ha ⟨rfl, hj, ys, ea, hy, hpj⟩
    have ea2 : Ext (del H4 D) Ha := ea.trans del_ext
    have q1 := hG1 Ha ea2
    by_cases hl1 : j < n1
    · refine .inr ⟨w1.goes j Ha hl1 q1, Pj (j + 1), fun H' p' => ⟨n1 - (j + 1), by omega, rfl, hl1, p'⟩, fun x1 Hb y1 => ?_⟩
      refine hst j x1 Ha Hb ys hl1 ea2 hy (w1.yields j Ha x1 Hb hl1 q1 y1) hpj _ _ ?_ ?_
      · intro v H5 e5 k
        exact ⟨ys, e5 _ _ hy, hlen _ _ _ _ hpj, ys ++ [v], by rw [del_upd]; exact ea.trans (ext_del e5), upd_same, by rw [del_upd]; exact k⟩
      · intro H5 e5 k
        exact ⟨ys, ea.trans (ext_del e5), e5 _ _ hy, k⟩
    · have ej : j = n1 := by omega
      subst ej
      exact .inl ⟨w1.stops Ha q1, ys, e14.trans ea2, hy, hend _ _ hpj⟩
  · have ei : i = n := by omega
    subst ei
    exact .inl ⟨w.stops H q, hd H xs e hx (up _ _ _ _ _ del_ext hp)⟩
/-- of one clause, in the same words -/
theorem lc1_acc {J : It} {n : Nat} {G : Hp → Prop} {Y : Nat → Hp → V → Hp → Prop} (w : Walk J n G Y) {g : TG} {tt : TT} {te : TE} {vs : List Nat} {σ : L2.St} {H1 : Hp} {D : Addr} {Qd : Hp → Prop}
    (P : Nat → List V → Hp → Prop) (up : ∀ i xs H H', Ext H H' → P i xs H → P i xs H') (h0 : P 0 [] H1) (hD : H1 D = none)
    (hlen : ∀ i xs H, P i xs H → xs.length < sizeLine) (hG : ∀ H, Ext H1 H → G H)
    (hs : ∀ i x H H' xs, i < n → Ext H1 H → H D = some (.lst xs) → Y i H x H' → P i xs (del H D) →
      ∀ (QY : V → Hp → Prop) (QN : Hp → Prop),
        (∀ y H4, Ext H H4 → P (i + 1) (xs ++ [y]) (del H4 D) → QY y H4) →
        (∀ H4, Ext H H4 → P (i + 1) xs (del H4 D) → QN H4) →
        g x (wipe σ vs) H' fun σ2 H2 => wipe σ2 vs = wipe σ vs ∧ tt σ2 H2 fun b H3 => if b = true then te σ2 H3 QY else QN H3)
    (hd : ∀ H xs, Ext H1 H → H D = some (.lst xs) → P n xs H → Qd H) :
    ∃ W : Nat → Nat → Hp → Prop, (∃ m, W 0 m (upd H1 D (.lst []))) ∧ ∀ i m H, W i m H →
      (J.stop i H ∧ Qd H) ∨ (J.go i H ∧ ∃ Nx : Hp → Prop, (∀ H', Nx H' → ∃ m', m' < m ∧ W (i + 1) m' H') ∧ ∀ x H', J.yld i H x H' → g x (wipe σ vs) H' fun σ2 H2 => wipe σ2 vs = wipe σ vs ∧ tt σ2 H2 fun b H3 =>
        if b = true then te σ2 H3 fun y H4 => ∃ acc, H4 D = some (.lst acc) ∧ acc.length < sizeLine ∧ Nx (upd H4 D (.lst (acc ++ [y]))) else Nx H3) := by
  have e1 : Ext H1 (upd H1 D (.lst [])) := Ext.new hD
  refine lc_it w (fun i H => ∃ xs, Ext H1 H ∧ H D = some (.lst xs) ∧ P i xs (del H D)) ⟨[], e1, upd_same, up 0 [] _ _ (ext_to e1 hD) h0⟩ (by rintro i H _ ⟨xs, e, _⟩; exact hG H e) ?_ ?_
  · rintro i x H H' hi ⟨xs, e, hx, hp⟩ y
    refine hs i x H H' xs hi e hx y hp _ _ ?_ ?_
    · intro v H4 e4 k
      exact ⟨xs, e4 _ _ hx, hlen _ _ _ hp, xs ++ [v], Ext.mut (e.trans e4) hD, upd_same, by rw [del_upd]; exact k⟩
    · intro H4 e4 k
      exact ⟨xs, e.trans e4, e4 _ _ hx, k⟩
  · rintro H ⟨xs, e, hx, hp⟩
    exact hd H xs e hx (up _ _ _ _ del_ext hp)
end Ol

set_option Elab.async false
set_option linter.all false
set_option maxRecDepth 100000
set_option maxHeartbeats 4000000
namespace Ol
open PySem PySem.Spec PyProof.Rows L2

theorem lt_anti : ∀ a b : List Nat, ltCps a b = false → ltCps b a = false → a = b
  | [], [], _, _ => rfl
  | [], _ :: _, h, _ => by cases h
  | _ :: _, [], _, h => by cases h
  | a :: r, b :: t, h1, h2 => by
    unfold ltCps at h1 h2
    simp only [Bool.or_eq_false_iff, decide_eq_false_iff_not, Bool.and_eq_false_iff, beq_eq_false_iff_ne] at h1 h2
    have e : a = b := by omega
    subst e
    have r1 : ltCps r t = false := h1.2.resolve_left (fun z => z rfl)
    have r2 : ltCps t r = false := h2.2.resolve_left (fun z => z rfl)
    rw [lt_anti r t r1 r2]
theorem lt_trans : ∀ x y z : List Nat, ltCps y x = false → ltCps z y = false → ltCps z x = false
  | [], _, [], _, _ => rfl
  | [], _, _ :: _, _, _ => rfl
  | _ :: _, [], _, h, _ => by cases h
  | _ :: _, _ :: _, [], _, h => by cases h
  | c :: r, b :: t, d :: u, h1, h2 => by
    unfold ltCps at h1 h2 ⊢
    simp only [Bool.or_eq_false_iff, decide_eq_false_iff_not, Bool.and_eq_false_iff, beq_eq_false_iff_ne] at h1 h2 ⊢
    refine ⟨by omega, ?_⟩
    by_cases e : d = c
    · right
      have e1 : b = c := by omega
      have e2 : d = b := by omega
      exact lt_trans r t u (h1.2.resolve_left (fun z => z e1)) (h2.2.resolve_left (fun z => z e2))
    · exact .inl e
theorem rising_pw : ∀ (p : Str) (l : List Str), risingS p l = true → (p :: l).Pairwise (fun a b => ltCps b.cps.toList a.cps.toList = false)
  | p, [], _ => by simp
  | p, x :: r, h => by
    unfold risingS at h
    rw [Bool.and_eq_true, Bool.not_eq_true'] at h
    have ih := rising_pw x r h.2
    refine List.pairwise_cons.mpr ⟨fun y hy => ?_, ih⟩
    rcases List.mem_cons.mp hy with rfl | hy
    · exact h.1
    · exact lt_trans _ _ _ h.1 (List.rel_of_pairwise_cons ih hy)
theorem sorted_pw : ∀ l : List Str, sortedS l = true → l.Pairwise (fun a b => ltCps b.cps.toList a.cps.toList = false)
  | [], _ => .nil
  | x :: r, h => rising_pw x r h
theorem sorted_one {xs ys : List Str} (h1 : sortedS xs = true) (h2 : sortedS ys = true) (hp : xs.Perm ys) : xs = ys :=
  List.Perm.eq_of_pairwise (fun a b _ _ q1 q2 => by
    have e : a.cps.toList = b.cps.toList := lt_anti _ _ q2 q1
    cases a with | mk a => cases b with | mk b => have e2 : a = b := Array.toList_inj.mp e; rw [e2]) (sorted_pw _ h1) (sorted_pw _ h2) hp

/-! ### data without dicts -/
mutual
inductive Nd : PyData → Prop
  | non : Nd .none
  | bl (b : Bool) : Nd (.bool b)
  | int (i : Int) : Nd (.int i)
  | str (x : Str) : Nd (.str x)
  | lst {ds : List PyData} : NdAll ds → Nd (.list ds)
  | tup {ds : List PyData} : NdAll ds → Nd (.tuple ds)
inductive NdAll : List PyData → Prop
  | nil : NdAll []
  | cons {d : PyData} {ds : List PyData} : Nd d → NdAll ds → NdAll (d :: ds)
end
theorem NdAll.of : ∀ {ds : List PyData}, (∀ d ∈ ds, Nd d) → NdAll ds
  | [], _ => .nil
  | d :: ds, h => .cons (h d List.mem_cons_self) (NdAll.of fun e he => h e (List.mem_cons_of_mem _ he))
mutual
theorem Dq.off {H : Hp} {p : Addr} {kv : List (Key × V)} (hp : H p = some (.dK kv)) : ∀ {v : V} {d : PyData}, Dq H v d → Nd d → Dq (del H p) v d
  | _, _, .non, _ => .non
  | _, _, .bl b, _ => .bl b
  | _, _, .int i, _ => .int i
  | _, _, .str x, _ => .str x
  | _, _, .lst h t, n => .lst (by rw [del_ne (fun z => by rw [z, hp] at h; cases h)]; exact h) (DqAll.off hp t (by cases n; assumption))
  | _, _, .tup h t, n => .tup (by rw [del_ne (fun z => by rw [z, hp] at h; cases h)]; exact h) (DqAll.off hp t (by cases n; assumption))
  | _, _, .dct h t, n => by cases n
theorem DqAll.off {H : Hp} {p : Addr} {kv : List (Key × V)} (hp : H p = some (.dK kv)) : ∀ {vs : List V} {ds : List PyData}, DqAll H vs ds → NdAll ds → DqAll (del H p) vs ds
  | _, _, .nil, _ => .nil
  | _, _, .cons h t, n => .cons (Dq.off hp h (by cases n; assumption)) (DqAll.off hp t (by cases n; assumption))
end
end Ol

set_option Elab.async false
set_option linter.all false
set_option maxRecDepth 100000
set_option maxHeartbeats 4000000
namespace Ol
open PySem PySem.Spec PyProof.Rows L2
/-- data not in a list of data -/
def rNotInQ : R2 := fun x y H Q => ∃ d ds, Sys H ∧ Dq H x d ∧ Dq H y (.list ds) ∧ SeqAt.shaped d = true ∧ SeqAt.shaped (.list ds) = true ∧ Q (.bl (!ds.any fun z => PyData.eqv z d)) H
theorem op_notInQ {X : Cx} (hu : X.A.units + 65 < cLine) : OpR X (compareOp .NotIn) rNotInQ := by
  intro pins s σ H x y v u Q I rx ry h
  obtain ⟨d, ds, S, hd, he, sd, se, q⟩ := h
  obtain ⟨as, r1, _⟩ := Dq.reads I S hd rx
  obtain ⟨bs, r2, _⟩ := Dq.reads I S he ry
  exact SeqAt.notIn_list_reads r2 r1 (SeqAt.canLay_of_shaped se) (SeqAt.canLay_of_shaped sd) (room_in_shaped sd hu) ⟨.bl _, H, I, rfl, q⟩
end Ol

set_option Elab.async false
set_option linter.all false
set_option maxRecDepth 100000
set_option maxHeartbeats 4000000
namespace Ol
open PySem PySem.Spec PyProof.Rows L2
/-- a class catches its own errors -/
theorem exm_same {K : PySem.W.Frag} {S : Addr} (q1 : PySem.W.subIn K (.ref S) (.type "BaseException") = some true) (q2 : PySem.W.isClsIn K S = true)
    (q3 : PySem.W.typeIn K (.ref S) = some (.type "type")) (q4 : PySem.W.subIn K (.ref S) (.ref S) = some true) : PySem.W.exmOne K (.ref S) (.ref S) = some true := by
  have q5 : (PySem.W.clsIn K S).isSome = true := q2
  unfold PySem.W.exmOne
  simp [PySem.W.kitCls, q1, q3, q4, q5]
end Ol

set_option Elab.async false
set_option linter.all false
set_option maxRecDepth 100000
set_option maxHeartbeats 4000000
namespace Ol
open PySem PySem.Spec PyProof.Rows L2
/-- isinstance(e, c): e the error with fields that the suite holds, c a class of the program -/
def rIsX (K : PySem.W.Frag) (a : Addr) (cls : Value) (d : Option Addr) : List V → Hp → VK → Prop := fun xs H Q => ∃ (D c dd : Addr) (fs : List (Str × V)) (b : Bool), xs = [.ref a, .ref c] ∧ cls = .ref D ∧ ExcC K D ∧ d = some dd ∧ H dd = some (.xd fs) ∧
  PySem.W.kitOne K (.ref D) (.ref c) = some b ∧ Q (.bl b) H
theorem call_isX {X : Cx} {a : Addr} {cls : Value} {d : Option Addr} {oe : Obj} {pn : List (Addr × Obj)} (hz : Zc cls d oe) (hf : ∃ vs, oe.data = .fields vs) : CallR (X.suite a ((a, oe) :: pn)) (.builtin "isinstance") (rIsX X.K a cls d) := by
  intro pins s σ H xs us Q I r h
  obtain ⟨D, c, dd, fs, b, rfl, rfl, T, rfl, hdd, e, q⟩ := h
  cases r with
  | cons rx rr =>
    cases rr with
    | cons rt rr =>
      cases rr
      cases rx
      cases rt
      obtain ⟨hget, _⟩ := I.pin (a, oe) (List.mem_append.mpr (.inl List.mem_cons_self))
      obtain ⟨vs, hd⟩ := hf
      have hx : ObjOk X.prog X.w H s.heap dd (.xd fs) := I.hok dd _ hdd
      obtain ⟨mA, hns, hr⟩ := hx
      obtain ⟨od, ho, hl⟩ := lookIn_ns hns
      have J : PySem.W.InstAt s.heap a oe D (some od) := ⟨hget, hz.1, by unfold PySem.W.notCls; rw [hd] <;> rfl, by rw [hz.2]; exact ho⟩
      obtain ⟨cd, hcd, _⟩ := PySem.W.any_some T.hd
      exact PySem.W.kia_one (PySem.W.kitx_exc (by rw [hcd]; rfl) T.hg T.hk T.hs T.ha T.hn T.ht T.hm) I.kIn J e (fun z => nomatch z) fun tk => ⟨.bl b, H, I.kept (t' := tk) fun _ _ z => z, rfl, q⟩
end Ol

set_option Elab.async false
set_option linter.all false
set_option maxRecDepth 100000
set_option maxHeartbeats 8000000
namespace Ol
open PySem PySem.Spec PyProof.Rows L2
/-! ### {k: v for t0 in i0 if .. for t1 in i1 if ..} -/
abbrev DC2 (kx vx t0 i0 : Expr) (f0 : List Expr) (t1 i1 : Expr) (f1 : List Expr) (scope : Scope) (pos : Pos) : Expr := .DictComp kx vx [⟨t0, i0, f0, 0⟩, ⟨t1, i1, f1, 0⟩] scope pos
/-- a clause's tests, one after the other -/
abbrev Asks (fs : List Expr) (env : Env) : Sem Bool := forIn fs true fun c r => if r = true then do let ok ← isTrue c env (eval c env); pure (ForInStep.yield ok) else pure (ForInStep.yield r)
section
variable {kx vx t0 i0 t1 i1 : Expr} {f0 f1 : List Expr} {scope : Scope} {pos : Pos} {env : Env}
theorem first_turn (it : Value) (D : Addr) : compTurn (DC2 kx vx t0 i0 f0 t1 i1 f1 scope pos) 0 it (.ref D) env = (do
    standAt i0.pos
    match ← pyNext it with
    | none => pure (.done .next)
    | some v =>
      letOwnedTupleGo t0 it v
      assign t0 env v
      let mut ok := true
      for c in f0 do
        if ok then ok ← isTrue c env (eval c env)
      if ok then
        let x ← eval i1 env
        standAt i1.pos
        let x ← foldedSetIterable i1 env x
        let _ ← runOwn (.compStart (DC2 kx vx t0 i0 f0 t1 i1 f1 scope pos) 1 (← holding [x] (pyIter x)) (.ref D) env) env
      again (.compLoop (DC2 kx vx t0 i0 f0 t1 i1 f1 scope pos) 0 it (.ref D) env)) := by rfl
theorem second_turn (it : Value) (D : Addr) : compTurn (DC2 kx vx t0 i0 f0 t1 i1 f1 scope pos) 1 it (.ref D) env = (do
    standAt i1.pos
    match ← pyNext it with
    | none => pure (.done .next)
    | some v =>
      letOwnedTupleGo t1 it v
      assign t1 env v
      let mut ok := true
      for c in f1 do
        if ok then ok ← isTrue c env (eval c env)
      if ok then
        (do
          let kv ← eval kx env
          let vv ← holding [kv] (eval vx env)
          standAt { kx.pos with endLine := vx.pos.endLine, endCol := vx.pos.endCol }
          holding [kv, vv] (dictSet D kv vv))
      again (.compLoop (DC2 kx vx t0 i0 f0 t1 i1 f1 scope pos) 1 it (.ref D) env)) := by rfl
variable {prog : Program} {w : World} {A : Around} {R : Result → Shared → Prop} {s : Shared} {it : Value} {D : Addr}
/-- where an error of the block goes -/
abbrev Bad (prog : Program) (w : World) (A : Around) (env : Env) (R : Result → Shared → Prop) : Value → Shared → Prop := notedBy (model prog w) A env fun e s2 => R (.error e) s2
theorem first_loop (plain : ∀ x, foldedSetIterable i1 env x = pure x) (St : Nat → Shared → Prop)
    (turn : ∀ n s, St n s → wpAny (model prog w) A (pyNext it) (fun got s1 => match got with
      | none => R (.ok .next) s1
      | some v => wpAny (model prog w) A (letOwnedTupleGo t0 it v) (fun _ s2 => wpAny (model prog w) A (assign t0 env v) (fun _ s3 =>
          wpAny (model prog w) A (Asks f0 env) (fun ok s4 =>
            if ok = true then
              wpAny (model prog w) A (eval i1 env) (fun x s5 => wpAny (model prog w) A (pyIter x) (fun it1 s6 =>
                codeAny (model prog w) A (.compStart (DC2 kx vx t0 i0 f0 t1 i1 f1 scope pos) 1 it1 (.ref D) env) (fun r s7 => match r with
                  | .ok _ => ∃ m, m < n ∧ St m s7
                  | .error _ => False) s6) (Bad prog w A env R) s5) (Bad prog w A env R) s4
            else ∃ m, m < n ∧ St m s4) (Bad prog w A env R) s3) (Bad prog w A env R) s2) (Bad prog w A env R) s1) (Bad prog w A env R) s)
    (n : Nat) (start : St n s) : codeAny (model prog w) A (.compLoop (DC2 kx vx t0 i0 f0 t1 i1 f1 scope pos) 0 it (.ref D) env) R s := by
  refine codeAny_loop rfl St ?_ n start
  intro n s now
  show wpAny _ A ((compTurn (DC2 kx vx t0 i0 f0 t1 i1 f1 scope pos) 0 it (.ref D) env).onRaise (fun x => do noteFrame x env; theTreesLotGoes x)) _ _ s
  apply wpAny_noted
  rw [first_turn]
  apply wpAny_bind; apply wpAny_standAt; apply wpAny_bind
  apply wpAny_mono (turn n s now) _ (fun _ _ z => z)
  intro got s1 q1
  cases got with
  | none => exact wpAny_pure q1
  | some v =>
    apply wpAny_bind; apply wpAny_mono q1 _ (fun _ _ z => z); intro _ s2 q2
    apply wpAny_bind; apply wpAny_mono q2 _ (fun _ _ z => z); intro _ s3 q3
    apply wpAny_bind; apply wpAny_mono q3 _ (fun _ _ z => z); intro ok s4 q4
    cases ok with
    | false => exact wpAny_pure ⟨rfl, q4⟩
    | true =>
      apply wpAny_bind; apply wpAny_mono q4 _ (fun _ _ z => z); intro x s5 q5
      apply wpAny_bind; apply wpAny_standAt; apply wpAny_bind; apply wpAny_of_eq (plain x)
      apply wpAny_bind; apply wpAny_holding; apply wpAny_mono q5 _ (fun _ _ z => z); intro it1 s6 q6
      refine wpAny_bind (wpAny_runOwn ?_)
      rw [Around.mark_none]
      apply codeAny_mono q6
      intro r s7 q7
      cases r with
      | error e => exact q7.elim
      | ok f => first | exact wpAny_pure ⟨rfl, q7⟩ | exact wpAny_bind (wpAny_pure (wpAny_pure ⟨rfl, q7⟩))
theorem second_loop (St : Nat → Shared → Prop)
    (turn : ∀ n s, St n s → wpAny (model prog w) A (pyNext it) (fun got s1 => match got with
      | none => R (.ok .next) s1
      | some v => wpAny (model prog w) A (letOwnedTupleGo t1 it v) (fun _ s2 => wpAny (model prog w) A (assign t1 env v) (fun _ s3 =>
          wpAny (model prog w) A (Asks f1 env) (fun ok s4 =>
            if ok = true then
              wpAny (model prog w) A (eval kx env) (fun kv s5 => wpAny (model prog w) A (eval vx env) (fun vv s6 =>
                wpAny (model prog w) A (dictSet D kv vv) (fun _ s7 => ∃ m, m < n ∧ St m s7) (Bad prog w A env R) s6) (Bad prog w A env R) s5) (Bad prog w A env R) s4
            else ∃ m, m < n ∧ St m s4) (Bad prog w A env R) s3) (Bad prog w A env R) s2) (Bad prog w A env R) s1) (Bad prog w A env R) s)
    (n : Nat) (start : St n s) : codeAny (model prog w) A (.compLoop (DC2 kx vx t0 i0 f0 t1 i1 f1 scope pos) 1 it (.ref D) env) R s := by
  refine codeAny_loop rfl St ?_ n start
  intro n s now
  show wpAny _ A ((compTurn (DC2 kx vx t0 i0 f0 t1 i1 f1 scope pos) 1 it (.ref D) env).onRaise (fun x => do noteFrame x env; theTreesLotGoes x)) _ _ s
  apply wpAny_noted
  rw [second_turn]
  apply wpAny_bind; apply wpAny_standAt; apply wpAny_bind
  apply wpAny_mono (turn n s now) _ (fun _ _ z => z)
  intro got s1 q1
  cases got with
  | none => exact wpAny_pure q1
  | some v =>
    apply wpAny_bind; apply wpAny_mono q1 _ (fun _ _ z => z); intro _ s2 q2
    apply wpAny_bind; apply wpAny_mono q2 _ (fun _ _ z => z); intro _ s3 q3
    apply wpAny_bind; apply wpAny_mono q3 _ (fun _ _ z => z); intro ok s4 q4
    cases ok with
    | false => exact wpAny_pure ⟨rfl, q4⟩
    | true =>
      apply wpAny_bind; apply wpAny_bind; apply wpAny_mono q4 _ (fun _ _ z => z); intro kv s5 q5
      apply wpAny_bind; apply wpAny_holding; apply wpAny_mono q5 _ (fun _ _ z => z); intro vv s6 q6
      apply wpAny_bind; apply wpAny_standAt; apply wpAny_holding; apply wpAny_mono q6 _ (fun _ _ z => z); intro _ s7 q7
      exact wpAny_pure ⟨rfl, q7⟩
/-- the second clause begins -/
theorem second_start (own : codeAny (model prog w) A (.compLoop (DC2 kx vx t0 i0 f0 t1 i1 f1 scope pos) 1 it (.ref D) env) R s)
    (anew : wpAny (model prog w) A (pyIter it) (fun it2 s2 => codeAny (model prog w) A (.compLoop (DC2 kx vx t0 i0 f0 t1 i1 f1 scope pos) 1 it2 (.ref D) env) R s2) (Bad prog w A env R) s) :
    codeAny (model prog w) A (.compStart (DC2 kx vx t0 i0 f0 t1 i1 f1 scope pos) 1 it (.ref D) env) R s := by
  apply codeAny_of_tree
  show wpAny _ _ ((compStart (DC2 kx vx t0 i0 f0 t1 i1 f1 scope pos) 1 it (.ref D) env).onRaise (fun x => do noteFrame x env; standAt theWindowsPlace)) _ _ s
  apply wpAny_notedAt
  unfold compStart
  show wpAny _ _ (ask >>= _) _ _ s
  apply wpAny_bind; apply wpAny_askSetting; apply wpAny_ite
  split
  · first
      | exact wpAny_bind (wpAny_pure (wpAny_pure ⟨rfl, own⟩))
      | exact wpAny_pure ⟨rfl, own⟩
  · apply wpAny_bind; apply wpAny_rule
    show wpAny _ _ (standAt i1.pos >>= _) _ _ s
    apply wpAny_bind; apply wpAny_standAt; apply wpAny_bind
    apply wpAny_mono anew _ (fun _ _ z => z)
    intro it2 s2 q2
    exact wpAny_pure ⟨rfl, q2⟩
end
end Ol

set_option Elab.async false
set_option linter.all false
set_option maxRecDepth 100000
set_option maxHeartbeats 16000000
namespace Ol
open PySem PySem.Spec PyProof.Rows L2
/-- a dict comprehension of two clauses: the outer walk's measure W, for each of its things the inner walk's V; keys are ints or texts -/
def tDc2 (wi : TI) (g : TG) (tt : TT) (wi1 : TI) (g1 : TG) (tt1 : TT) (tk tv : TE) (vs vs1 : List Nat) : TE := fun σ H Q => wi σ H fun J Ha => ∀ D, Ha D = none → ∃ W : Nat → Nat → Hp → Prop, (∃ m, W 0 m (upd Ha D (.dK []))) ∧ ∀ i m Hb, W i m Hb →
  (J.stop i Hb ∧ Q (.ref D) Hb) ∨ (J.go i Hb ∧ ∃ On : Hp → Prop, (∀ Hc, On Hc → ∃ m2, m2 < m ∧ W (i + 1) m2 Hc) ∧ ∀ x Hc, J.yld i Hb x Hc → g x (wipe σ vs) Hc fun σ2 Hd => wipe σ2 vs = wipe σ vs ∧ tt σ2 Hd fun b He =>
    if b = true then wi1 σ2 He fun J1 Hf => ∃ V1 : Nat → Nat → Hp → Prop, (∃ k, V1 0 k Hf) ∧ ∀ j k Hg, V1 j k Hg →
      (J1.stop j Hg ∧ On Hg) ∨ (J1.go j Hg ∧ ∃ On1 : Hp → Prop, (∀ Hh, On1 Hh → ∃ k2, k2 < k ∧ V1 (j + 1) k2 Hh) ∧ ∀ y Hh, J1.yld j Hg y Hh → g1 y (wipe σ2 vs1) Hh fun σ3 Hi => wipe σ3 vs1 = wipe σ2 vs1 ∧ tt1 σ3 Hi fun b1 Hj =>
        if b1 = true then tk σ3 Hj fun key Hk => tv σ3 Hk fun val Hl => ∃ kvs k, key = kV k ∧ Hl D = some (.dK kvs) ∧ kvs.length < sizeLine ∧ On1 (upd Hl D (.dK (putK kvs k val))) else On1 Hj)
    else On He)
theorem wipe_apart {σ : L2.St} {vs vs1 : List Nat} (sub : ∀ i ∈ vs1, i ∈ vs) {j : Nat} {v : V} (h : (wipe σ vs)[j]? = some (some v)) : (wipe σ vs1)[j]? = some (some v) := by
  obtain ⟨e, out⟩ := wipe_some h
  rw [wipe_out fun z => out (sub j z)]
  exact e
section
variable {X : Cx}
theorem dc2_core {pins : List (Addr × Obj)} {s : Shared} {σ : L2.St} {H : Hp} {Q : VK} {kx vx t0 i0 t1 i1 : Expr} {f0 f1 : List Expr} {scope : Scope} {own : List (Str × Nat)} {vs1 : List Nat} {pos at_ : Pos} {wi wi1 : TI} {g g1 : TG} {tt tt1 : TT} {tk tv : TE} {use : Option (Value → Sem Unit)} {Qf : Value → Shared → Prop}
    (calm : X.calm = true) (nd : X.N.Nodup) (I : Inv X pins σ H s) (src : PI X t0 i0 wi) (ok : BlkOk X.N X.env.scope scope own) (sub : ∀ i ∈ vs1, i ∈ own.map (·.2))
    (pg : ∀ (s : Shared) (H : Hp) (C : Addr) (cl : List (Str × Addr)) (fp : List Addr), PG (X.blk s H scope (compEnvC scope cl C X.env) fp) t0 g)
    (pt : ∀ (s : Shared) (H : Hp) (C : Addr) (cl : List (Str × Addr)) (fp : List Addr), PTs (X.blk s H scope (compEnvC scope cl C X.env) fp) f0 tt)
    (src1 : ∀ (s : Shared) (H : Hp) (C : Addr) (cl : List (Str × Addr)) (fp : List Addr), PI (X.blk s H scope (compEnvC scope cl C X.env) fp) t1 i1 wi1)
    (pg1 : ∀ (s : Shared) (H : Hp) (C : Addr) (cl : List (Str × Addr)) (fp : List Addr), PG (X.blk s H scope (compEnvC scope cl C X.env) fp) t1 g1)
    (pt1 : ∀ (s : Shared) (H : Hp) (C : Addr) (cl : List (Str × Addr)) (fp : List Addr), PTs (X.blk s H scope (compEnvC scope cl C X.env) fp) f1 tt1)
    (pk : ∀ (s : Shared) (H : Hp) (C : Addr) (cl : List (Str × Addr)) (fp : List Addr), PE (X.blk s H scope (compEnvC scope cl C X.env) fp) kx tk)
    (pw : ∀ (s : Shared) (H : Hp) (C : Addr) (cl : List (Str × Addr)) (fp : List Addr), PE (X.blk s H scope (compEnvC scope cl C X.env) fp) vx tv)
    (plain : ∀ x, foldedSetIterable i0 X.env x = pure x) (plain1 : ∀ env x, foldedSetIterable i1 env x = pure x)
    (h : tDc2 wi g tt wi1 g1 tt1 tk tv (own.map (·.2)) vs1 σ H Q)
    (done : ∀ D C s2 ns H2, Inv X pins σ H2 s2 → Q (.ref D) H2 → s2.heap.Ns C ns → FpOk X pins H2 C → compPost (model X.prog X.w) X.A X.xe use Qf (.ref D) C (.ok .next) s2) :
    wpAny (model X.prog X.w) X.A (comprehension (DC2 kx vx t0 i0 f0 t1 i1 f1 scope pos) scope X.env at_ newDict false (eval i0 X.env) use) Qf X.xe s := by
  have cells : ∀ y ∈ scope.names, y.2 = .free → ∃ c, X.env.cells.lookup y.1 = some c := by
    intro y my free
    exact I.ok.has _ (ok.free y my free)
  apply wpAny_comprehension_free (use := use) rfl plain (closure_ok cells) ok.kind (fun y my free => by rw [ok.uniq y my, free])
  apply thn (src.run pins s σ H _ I h)
  intro seen sa at_src
  apply thn at_src
  rintro itv s2 ⟨it, fp, tn, J, H2, rfl, I2, T, place, foot, q⟩
  refine wpAny_newObj_type (newEnv_comp ?_)
  generalize atD : s2.heap.objs.size = D
  obtain ⟨W, ⟨m0, w0⟩, go_on⟩ := q D (I2.hok.fresh (Nat.le_of_eq atD))
  -- the dict, empty
  generalize made : ({ s2 with heap := s2.heap.push { cls := .type "dict", data := .dict #[] } } : Shared) = s3
  have heap3 : s3.heap = s2.heap.push { cls := .type "dict", data := .dict #[] } := by rw [← made]
  have stays : ∀ b o, s2.heap.get? b = some o → s3.heap.get? b = some o := fun b o z => by
    rw [heap3]
    exact Heap.get?_push_of_some _ z
  have I3 : Inv X pins σ (upd H2 D (.dK [])) s3 := by
    rw [← made]
    apply I2.laid (t' := s2.toks) (fun b o z => Heap.get?_push_of_some _ z) (Nat.le_of_eq atD)
    rw [← atD]
    exact dk_empty s2.heap I2.big
  have foot3 : ∀ b ∈ fp, FpOk X pins (upd H2 D (.dK [])) b ∧ b < s3.heap.objs.size := by
    intro b mb
    obtain ⟨o, got, _⟩ := T.obj _ _ place b mb
    have lt := Heap.lt_size got
    have ne : b ≠ D := atD ▸ Nat.ne_of_lt lt
    constructor
    · exact ⟨by rw [upd_ne ne]; exact (foot b mb).1, (foot b mb).2⟩
    · rw [heap3, Heap.size_push]
      exact Nat.lt_succ_of_lt lt
  have place3 : tn 0 s3.heap := T.keep _ _ _ place fun b _ o z => stays b o z
  have I4 := block_start I3 ok nd foot3
  generalize ecl : cellsFrom (s3.heap.objs.size + 1) scope.names (cloFrom X.env.cells scope.names []) = cl at I4
  have pg := pg s3 (upd H2 D (.dK [])) s3.heap.objs.size cl fp
  have pt := pt s3 (upd H2 D (.dK [])) s3.heap.objs.size cl fp
  have src1 := src1 s3 (upd H2 D (.dK [])) s3.heap.objs.size cl fp
  have pg1 := pg1 s3 (upd H2 D (.dK [])) s3.heap.objs.size cl fp
  have pt1 := pt1 s3 (upd H2 D (.dK [])) s3.heap.objs.size cl fp
  have pk := pk s3 (upd H2 D (.dK [])) s3.heap.objs.size cl fp
  have pw := pw s3 (upd H2 D (.dK [])) s3.heap.objs.size cl fp
  show codeAny _ _ (.compStart (DC2 kx vx t0 i0 f0 t1 i1 f1 scope pos) 0 (.ref it) (.ref D) (compEnvC scope cl s3.heap.objs.size X.env)) (compPost (model X.prog X.w) X.A X.xe use Qf (.ref D) s3.heap.objs.size) { s3 with heap := pushCells (s3.heap.push { cls := .type "dict", data := .dict #[] }) scope.names }
  have blank : ∀ b ∈ fp, (upd H2 D (.dK [])) b = none := fun b mb => (foot3 b mb).1.1
  generalize ece : compEnvC scope cl s3.heap.objs.size X.env = ce at I4 pg pt src1 pg1 pt1 pk pw ⊢
  have here : ce.locals = s3.heap.objs.size := by subst ece; rfl
  generalize e3 : upd H2 D (.dK []) = H3 at I3 I4 pg pt src1 pg1 pt1 pk pw w0 blank foot3
  generalize e4 : ({ s3 with heap := pushCells (s3.heap.push { cls := .type "dict", data := .dict #[] }) scope.names } : Shared) = s4 at I4 ⊢
  have place4 : tn 0 s4.heap := T.keep _ _ _ place3 fun b _ o z => by
    rw [← e4]
    exact pushCells_keeps _ _ _ _ (Heap.get?_push_of_some _ z)
  have foots : ∀ {σ' : L2.St} {H' : Hp} {s' : Shared}, Inv (X.blk s3 H3 scope ce fp) [] σ' H' s' → (∀ b ∈ fp, H' b = none) → ∀ b ∈ fp, FpOk (X.blk s3 H3 scope ce fp) [] H' b := by
    intro σ' H' s' I' no b mb
    have ex := I'.ok.exf b mb
    refine ⟨no b mb, ex.1, I'.ok.exfs b mb, .inl mb, fun x c z => ex.2 x c z, ?_⟩
    intro p mp
    have mp' : p ∈ ([] : List (Addr × Obj)) ++ [] := mp
    simp at mp'
  have whole : codeAny (model X.prog X.w) X.A (.compLoop (DC2 kx vx t0 i0 f0 t1 i1 f1 scope pos) 0 (.ref it) (.ref D) ce) (compPost (model X.prog X.w) X.A X.xe use Qf (.ref D) s3.heap.objs.size) s4 := by
    refine first_loop (plain1 ce) (fun n s' => ∃ i H', Inv (X.blk s3 H3 scope ce fp) [] (wipe σ (own.map (·.2))) H' s' ∧ tn i s'.heap ∧ (∀ b ∈ fp, H' b = none) ∧ W i n H') ?_ m0 ⟨0, H3, I4, place4, blank, w0⟩
    rintro n s5 ⟨i, H5, I5, p5, b5, w5⟩
    rcases go_on i n H5 w5 with ⟨stop, fin⟩ | ⟨go, On, next, step⟩
    · apply thnF (T.done (X.blk s3 H3 scope ce fp) rfl rfl rfl calm i [] s5 _ H5 (fun _ _ => False) I5 (foots I5 b5) p5 stop)
      rintro got s6 ⟨rfl, I6⟩
      have I7 : Inv X pins σ H5 s6 := I3.call' (ch := fp) I6.os I6.base I6.hok I6.bare fun b mb =>
        let z := (foot3 b mb).1.2
        ⟨z.2.2.1, z.1, z.2.2.2.1, z.2.2.2.2⟩
      have none_here : H5 s3.heap.objs.size = none := by
        have z : H5 ce.locals = none := I6.free
        exact here ▸ z
      obtain ⟨ns, at_ns, _⟩ := I6.loc
      have at_ns : s6.heap.Ns ce.locals ns := at_ns
      rw [here] at at_ns
      exact done D s3.heap.objs.size s6 ns H5 I7 fin at_ns (I3.fpOk (Nat.le_refl _) none_here)
    · apply thnF (T.item (X.blk s3 H3 scope ce fp) rfl rfl rfl calm i [] s5 _ H5 (fun _ _ => False) I5 (foots I5 b5) p5 go)
      rintro got s6 ⟨u, rfl, at_u⟩
      apply thnF at_u
      rintro _ s7 ⟨x, H7, I7, rx, y7, p7, b7⟩
      apply thnF (pg.run _ s7 _ H7 x u _ (I7.pinned (foots I7 b7) (T.obj _ _ p7)) rx (step x H7 y7))
      rintro _ s8 ⟨σ8, H8, I8, hw, q8⟩
      apply thnF (pt.run _ s8 σ8 H8 _ I8 q8)
      rintro b s9 ⟨H9, I9, q9⟩
      -- back at the outer walk
      have back : ∀ {σ9 : L2.St} {s' : Shared} {H' : Hp}, Inv (X.blk s3 H3 scope ce fp) ([] ++ pinsAt fp s7.heap) σ9 H' s' → (wipe σ (own.map (·.2))).length = σ9.length →
          (∀ (j : Nat) v, (wipe σ (own.map (·.2)))[j]? = some (some v) → σ9[j]? = some (some v)) → On H' → ∃ m, m < n ∧ ∃ i H', Inv (X.blk s3 H3 scope ce fp) [] (wipe σ (own.map (·.2))) H' s' ∧ tn i s'.heap ∧ (∀ b ∈ fp, H' b = none) ∧ W i m H' := by
        intro σ9 s' H' I' len know on
        obtain ⟨m, lt, w'⟩ := next H' on
        have pinned : ∀ c ∈ fp, ∀ o, s7.heap.get? c = some o → s'.heap.get? c = some o ∧ H' c = none := by
          intro c mc o got
          have z := I'.pin (c, o) (List.mem_append_right _ (List.mem_append_right _ (mem_pinsAt mc got)))
          exact ⟨z.1, z.2.1⟩
        refine ⟨m, lt, i + 1, H', (I'.unpinned (pins := [])).weak len know, T.keep _ _ _ p7 (fun c mc o got => (pinned c mc o got).1), ?_, w'⟩
        intro c mc
        obtain ⟨o, got, _⟩ := T.obj _ _ p7 c mc
        exact (pinned c mc o got).2
      have len8 : (wipe σ (own.map (·.2))).length = σ8.length := hw ▸ wipe_length σ8 _
      have know8 : ∀ (j : Nat) v, (wipe σ (own.map (·.2)))[j]? = some (some v) → σ8[j]? = some (some v) := by
        intro j v z
        rw [← hw] at z
        exact (wipe_some z).1
      have know9 : ∀ (j : Nat) v, (wipe σ (own.map (·.2)))[j]? = some (some v) → (wipe σ8 vs1)[j]? = some (some v) := by
        intro j v z
        rw [← hw] at z
        exact wipe_apart sub z
      by_cases yes : b = true
      case neg =>
        rw [if_neg yes] at q9 ⊢
        exact back I9 len8 know8 q9
      rw [if_pos yes] at q9 ⊢
      apply thnF (src1.run _ s9 σ8 H9 _ I9 q9)
      intro seen1 sb at1
      apply thnF at1
      rintro itv1 s11 ⟨it1, fp1, tn1, J1, H11, rfl, I11, T1, p11, foot1, V1, ⟨m1, w1⟩, turn1⟩
      have foots1 : ∀ {H' : Hp}, (∀ c ∈ fp1, H' c = none) → ∀ c ∈ fp1, FpOk (X.blk s3 H3 scope ce fp) ([] ++ pinsAt fp s7.heap) H' c := fun no c mc => ⟨no c mc, (foot1 c mc).2⟩
      have inner : codeAny (model X.prog X.w) X.A (.compLoop (DC2 kx vx t0 i0 f0 t1 i1 f1 scope pos) 1 (.ref it1) (.ref D) ce)
          (fun r s' => match r with
            | .ok _ => ∃ m, m < n ∧ ∃ i H', Inv (X.blk s3 H3 scope ce fp) [] (wipe σ (own.map (·.2))) H' s' ∧ tn i s'.heap ∧ (∀ b ∈ fp, H' b = none) ∧ W i m H'
            | .error _ => False) s11 := by
        refine second_loop (fun k s' => ∃ j H', Inv (X.blk s3 H3 scope ce fp) ([] ++ pinsAt fp s7.heap) (wipe σ8 vs1) H' s' ∧ tn1 j s'.heap ∧ (∀ c ∈ fp1, H' c = none) ∧ V1 j k H') ?_ m1
          ⟨0, H11, I11.weak (wipe_length _ _) (fun j v z => (wipe_some z).1), p11, fun c mc => (foot1 c mc).1, w1⟩
        rintro k s12 ⟨j, H12, I12, p12, b12, w12⟩
        rcases turn1 j k H12 w12 with ⟨stop1, on⟩ | ⟨go1, On1, next1, step1⟩
        · apply thnF (T1.done (X.blk s3 H3 scope ce fp) rfl rfl rfl calm j _ s12 (wipe σ8 vs1) H12 (fun _ _ => False) I12 (foots1 b12) p12 stop1)
          rintro got s13 ⟨rfl, I13⟩
          exact back I13 (len8.trans (wipe_length σ8 vs1).symm) know9 on
        · apply thnF (T1.item (X.blk s3 H3 scope ce fp) rfl rfl rfl calm j _ s12 (wipe σ8 vs1) H12 (fun _ _ => False) I12 (foots1 b12) p12 go1)
          rintro got s13 ⟨u1, rfl, at_u1⟩
          apply thnF at_u1
          rintro _ s14 ⟨x1, H14, I14, rx1, y14, p14, b14⟩
          apply thnF (pg1.run _ s14 (wipe σ8 vs1) H14 x1 u1 _ (I14.pinned (foots1 b14) (T1.obj _ _ p14)) rx1 (step1 x1 H14 y14))
          rintro _ s15 ⟨σ15, H15, I15, hw15, q15⟩
          apply thnF (pt1.run _ s15 σ15 H15 _ I15 q15)
          rintro b1 s16 ⟨H16, I16, q16⟩
          have back1 : ∀ {s' : Shared} {H' : Hp}, Inv (X.blk s3 H3 scope ce fp) (([] ++ pinsAt fp s7.heap) ++ pinsAt fp1 s14.heap) σ15 H' s' → On1 H' →
              ∃ m, m < k ∧ ∃ j H', Inv (X.blk s3 H3 scope ce fp) ([] ++ pinsAt fp s7.heap) (wipe σ8 vs1) H' s' ∧ tn1 j s'.heap ∧ (∀ c ∈ fp1, H' c = none) ∧ V1 j m H' := by
            intro s' H' I' on1
            obtain ⟨m, lt, w'⟩ := next1 H' on1
            have pinned : ∀ c ∈ fp1, ∀ o, s14.heap.get? c = some o → s'.heap.get? c = some o ∧ H' c = none := by
              intro c mc o got
              have z := I'.pin (c, o) (List.mem_append_right _ (List.mem_append_right _ (mem_pinsAt mc got)))
              exact ⟨z.1, z.2.1⟩
            refine ⟨m, lt, j + 1, H', I'.unpinned.weak (by rw [← hw15, wipe_length]) ?_, T1.keep _ _ _ p14 (fun c mc o got => (pinned c mc o got).1), ?_, w'⟩
            · intro l v z
              rw [← hw15] at z
              exact (wipe_some z).1
            · intro c mc
              obtain ⟨o, got, _⟩ := T1.obj _ _ p14 c mc
              exact (pinned c mc o got).2
          by_cases yes1 : b1 = true
          case neg =>
            rw [if_neg yes1] at q16 ⊢
            exact back1 I16 q16
          rw [if_pos yes1] at q16 ⊢
          apply thnF (pk.run _ s16 σ15 H16 _ I16 q16)
          rintro uk s17 ⟨key, H17, I17, rk, q17⟩
          apply thnF (pw.run _ s17 σ15 H17 _ I17 q17)
          rintro uv s18 ⟨val, H18, I18, rv, kvs, kk, rfl, hD18, few, on1⟩
          exact d_dictSet (X := X.blk s3 H3 scope ce fp) I18 hD18 few rk rv fun s19 I19 => back1 I19 on1
      exact second_start inner (T1.self X.A 0 _ _ _ p11 inner)
  exact codeAny_compStart_dict whole (T.self X.A 0 _ _ _ place4 whole)
/-- as a value -/
theorem pe_dc2 {kx vx t0 i0 t1 i1 : Expr} {f0 f1 : List Expr} {scope : Scope} {own : List (Str × Nat)} {vs1 : List Nat} {pos : Pos} {wi wi1 : TI} {g g1 : TG} {tt tt1 : TT} {tk tv : TE} (calm : X.calm = true) (nd : X.N.Nodup) (src : PI X t0 i0 wi) (ok : BlkOk X.N X.env.scope scope own) (sub : ∀ i ∈ vs1, i ∈ own.map (·.2))
    (pg : ∀ (s : Shared) (H : Hp) (C : Addr) (cl : List (Str × Addr)) (fp : List Addr), PG (X.blk s H scope (compEnvC scope cl C X.env) fp) t0 g)
    (pt : ∀ (s : Shared) (H : Hp) (C : Addr) (cl : List (Str × Addr)) (fp : List Addr), PTs (X.blk s H scope (compEnvC scope cl C X.env) fp) f0 tt)
    (src1 : ∀ (s : Shared) (H : Hp) (C : Addr) (cl : List (Str × Addr)) (fp : List Addr), PI (X.blk s H scope (compEnvC scope cl C X.env) fp) t1 i1 wi1)
    (pg1 : ∀ (s : Shared) (H : Hp) (C : Addr) (cl : List (Str × Addr)) (fp : List Addr), PG (X.blk s H scope (compEnvC scope cl C X.env) fp) t1 g1)
    (pt1 : ∀ (s : Shared) (H : Hp) (C : Addr) (cl : List (Str × Addr)) (fp : List Addr), PTs (X.blk s H scope (compEnvC scope cl C X.env) fp) f1 tt1)
    (pk : ∀ (s : Shared) (H : Hp) (C : Addr) (cl : List (Str × Addr)) (fp : List Addr), PE (X.blk s H scope (compEnvC scope cl C X.env) fp) kx tk)
    (pw : ∀ (s : Shared) (H : Hp) (C : Addr) (cl : List (Str × Addr)) (fp : List Addr), PE (X.blk s H scope (compEnvC scope cl C X.env) fp) vx tv)
    (plain : ∀ x, foldedSetIterable i0 X.env x = pure x := by intro _; rfl) (plain1 : ∀ env x, foldedSetIterable i1 env x = pure x := by intro _ _; rfl) :
    PE X (DC2 kx vx t0 i0 f0 t1 i1 f1 scope pos) (tDc2 wi g tt wi1 g1 tt1 tk tv (own.map (·.2)) vs1) := by
  constructor
  intro pins s σ H Q I h
  rw [arm_eval_DictComp]
  apply dc2_core (use := none) calm nd I src ok sub pg pt src1 pg1 pt1 pk pw plain plain1 h
  intro D C s2 ns H2 I2 q at_ns f
  refine ⟨ns, at_ns, fun h2 same => ?_⟩
  obtain ⟨z0, z1, _, z3, z4, z5⟩ := f
  exact ⟨.ref D, H2, I2.turned (t' := s2.toks) (fun b o ne z => (same.2 b ne).trans z) z0 z1 z3 z4 z5, rfl, q⟩
theorem sw_dict {kx vx : Expr} {gs : List Comprehension} {scope : Scope} {pos py : Pos} {y : Str} {l : Nat} {env : Env} (fn : env.scope.kind = .function) (loc : env.scope.names.lookup y = some .local) (row : (py.line == pos.line) = true)
    (no : (scope.names.any fun (n, k) => n == y && (k == .local || k == .cell)) = false) : swapsWith (.DictComp kx vx gs scope pos) (some (.Name y py)) l env = pure true := by
  have kind : env.kindOf y = some .local := loc
  have blk : env.blockKind = .function := by
    unfold Env.blockKind
    rw [fn]
    rfl
  unfold swapsWith
  simp only [blk, kind, no, Expr.pos, row]
  rfl
/-- stored in a plain name of the def -/
theorem ps_setDc2 {i : Nat} {y : Str} {py spos : Pos} {kx vx t0 i0 t1 i1 : Expr} {f0 f1 : List Expr} {scope : Scope} {own : List (Str × Nat)} {vs1 : List Nat} {pos : Pos} {wi wi1 : TI} {g g1 : TG} {tt tt1 : TT} {tk tv : TE} (calm : X.calm = true) (nd : X.N.Nodup) (hy : X.N[i]? = some y) (loc : X.env.scope.names.lookup y = some .local)
    (sw : swapsWith (DC2 kx vx t0 i0 f0 t1 i1 f1 scope pos) (some (.Name y py)) spos.line X.env = pure true) (src : PI X t0 i0 wi) (ok : BlkOk X.N X.env.scope scope own) (sub : ∀ i ∈ vs1, i ∈ own.map (·.2))
    (pg : ∀ (s : Shared) (H : Hp) (C : Addr) (cl : List (Str × Addr)) (fp : List Addr), PG (X.blk s H scope (compEnvC scope cl C X.env) fp) t0 g)
    (pt : ∀ (s : Shared) (H : Hp) (C : Addr) (cl : List (Str × Addr)) (fp : List Addr), PTs (X.blk s H scope (compEnvC scope cl C X.env) fp) f0 tt)
    (src1 : ∀ (s : Shared) (H : Hp) (C : Addr) (cl : List (Str × Addr)) (fp : List Addr), PI (X.blk s H scope (compEnvC scope cl C X.env) fp) t1 i1 wi1)
    (pg1 : ∀ (s : Shared) (H : Hp) (C : Addr) (cl : List (Str × Addr)) (fp : List Addr), PG (X.blk s H scope (compEnvC scope cl C X.env) fp) t1 g1)
    (pt1 : ∀ (s : Shared) (H : Hp) (C : Addr) (cl : List (Str × Addr)) (fp : List Addr), PTs (X.blk s H scope (compEnvC scope cl C X.env) fp) f1 tt1)
    (pk : ∀ (s : Shared) (H : Hp) (C : Addr) (cl : List (Str × Addr)) (fp : List Addr), PE (X.blk s H scope (compEnvC scope cl C X.env) fp) kx tk)
    (pw : ∀ (s : Shared) (H : Hp) (C : Addr) (cl : List (Str × Addr)) (fp : List Addr), PE (X.blk s H scope (compEnvC scope cl C X.env) fp) vx tv)
    (plain : ∀ x, foldedSetIterable i0 X.env x = pure x := by intro _; rfl) (plain1 : ∀ env x, foldedSetIterable i1 env x = pure x := by intro _ _; rfl) :
    PS X (.Assign [.Name y py] (DC2 kx vx t0 i0 f0 t1 i1 f1 scope pos) spos) (tAsg (tDc2 wi g tt wi1 g1 tt1 tk tv (own.map (·.2)) vs1) (gName i)) := by
  constructor
  intro pins s σ H D I h
  rw [exec_Assign_Name_used _ _ _ _ sw]
  apply wpAny_bind; apply wpAny_standAt; apply wpAny_bind
  show wpAny _ X.A (do
    let _ ← comprehension (DC2 kx vx t0 i0 f0 t1 i1 f1 scope pos) scope X.env (firstIterPos [⟨t0, i0, f0, 0⟩, ⟨t1, i1, f1, 0⟩] pos) newDict false (eval i0 X.env) (some (assign (.Name y py) X.env))) _ _ s
  apply wpAny_bind
  apply thn (Q := fun _ s2 => SP X pins D .next s2)
  · have h2 : tDc2 wi g tt wi1 g1 tt1 tk tv (own.map (·.2)) vs1 σ H (fun x H1 => gName i x σ H1 D.nx) := h
    apply dc2_core (Qf := fun _ s2 => SP X pins D .next s2) calm nd I src ok sub pg pt src1 pg1 pt1 pk pw plain plain1 h2
    intro L C s2 ns H2 I2 q at_ns f
    obtain ⟨z0, z1, _, z3, z4, z5⟩ := f
    show wpAny _ _ (assign (.Name y py) X.env (.ref L)) _ _ _
    refine wpAny_assign_Name (store_ok2 (v := V.ref L) I2 nd hy (.inl loc) rfl ?_ (.inr loc))
    rintro s3 I3 ⟨c, sb, own⟩
    have apart : C ≠ c := by
      rcases own with z | z
      · rw [z]
        exact z1
      · exact fun e => z4 y c z e.symm
    refine ⟨ns, at_ns.sameBut sb apart, fun h3 same => ?_⟩
    exact ⟨_, H2, I3.turned (t' := s3.toks) (fun b o ne z => (same.2 b ne).trans z) z0 z1 z3 z4 z5, q⟩
  · intro _ s2 q
    exact wpAny_pure (wpAny_pure q)
end
end Ol

set_option Elab.async false
set_option linter.all false
set_option maxRecDepth 100000
set_option maxHeartbeats 4000000
namespace Ol
open PySem PySem.Spec PyProof.Rows L2
/-- what the second clause is to do in turn i of the first one; the dict stands at D -/
def InnerD (P : Nat → Nat → List (Key × V) → Hp → Prop) (D : Addr) (H : Hp) (g1 : TG) (tt1 : TT) (tk tv : TE) (vs1 : List Nat) (i : Nat) (σ2 : L2.St) (J1 : It) (H4 : Hp) : Prop :=
  Ext H H4 ∧ ∃ n1 G1 Y1, Walk J1 n1 G1 Y1 ∧
    (∀ Hz, Ext (del H4 D) Hz → G1 Hz) ∧
    (∀ kvs Hz, P i n1 kvs Hz → P (i + 1) 0 kvs Hz) ∧
    ∀ j y Ha Hb kvs, j < n1 → Ext (del H4 D) Ha → Ha D = some (.dK kvs) → Y1 j Ha y Hb → P i j kvs (del Ha D) →
      ∀ (QY : V → V → Hp → Prop) (QN : Hp → Prop),
        (∀ k v H5, Ext Ha H5 → P i (j + 1) (putK kvs k v) (del H5 D) → QY (kV k) v H5) →
        (∀ H5, Ext Ha H5 → P i (j + 1) kvs (del H5 D) → QN H5) →
        g1 y (wipe σ2 vs1) Hb fun σ3 H5 => wipe σ3 vs1 = wipe σ2 vs1 ∧ tt1 σ3 H5 fun b H6 => if b = true then tk σ3 H6 fun key H7 => tv σ3 H7 fun val H8 => QY key val H8 else QN H6
/-- P holds of both turns, the dict so far, and all that stands but the dict -/
theorem dc2_acc {J : It} {n : Nat} {G : Hp → Prop} {Y : Nat → Hp → V → Hp → Prop} (w : Walk J n G Y) {g : TG} {wi1 : TI} {g1 : TG} {tt1 : TT} {tk tv : TE} {vs vs1 : List Nat} {σ : L2.St} {H1 : Hp} {D : Addr} {Qd : Hp → Prop}
    (P : Nat → Nat → List (Key × V) → Hp → Prop) (up : ∀ i j kvs H H', Ext H H' → P i j kvs H → P i j kvs H') (h0 : P 0 0 [] H1) (hD : H1 D = none)
    (few : ∀ i j kvs H, P i j kvs H → kvs.length < sizeLine) (hG : ∀ H, Ext H1 H → G H)
    (step : ∀ i x H H' kvs, i < n → Ext H1 H → H D = some (.dK kvs) → Y i H x H' → P i 0 kvs (del H D) →
      ∀ R : L2.St → It → Hp → Prop, (∀ σ2 J1 H4, InnerD P D H g1 tt1 tk tv vs1 i σ2 J1 H4 → R σ2 J1 H4) →
      g x (wipe σ vs) H' fun σ2 H2 => wipe σ2 vs = wipe σ vs ∧ wi1 σ2 H2 (R σ2))
    (last : ∀ H kvs, Ext H1 H → H D = some (.dK kvs) → P n 0 kvs H → Qd H) :
    ∃ W : Nat → Nat → Hp → Prop, (∃ m, W 0 m (upd H1 D (.dK []))) ∧ ∀ i m Hb, W i m Hb →
      (J.stop i Hb ∧ Qd Hb) ∨ (J.go i Hb ∧ ∃ On : Hp → Prop, (∀ Hc, On Hc → ∃ m2, m2 < m ∧ W (i + 1) m2 Hc) ∧ ∀ x Hc, J.yld i Hb x Hc → g x (wipe σ vs) Hc fun σ2 Hd => wipe σ2 vs = wipe σ vs ∧ tYes σ2 Hd fun b He =>
        if b = true then wi1 σ2 He fun J1 Hf => ∃ V1 : Nat → Nat → Hp → Prop, (∃ k, V1 0 k Hf) ∧ ∀ j k Hg, V1 j k Hg →
          (J1.stop j Hg ∧ On Hg) ∨ (J1.go j Hg ∧ ∃ On1 : Hp → Prop, (∀ Hh, On1 Hh → ∃ k2, k2 < k ∧ V1 (j + 1) k2 Hh) ∧ ∀ y Hh, J1.yld j Hg y Hh → g1 y (wipe σ2 vs1) Hh fun σ3 Hi => wipe σ3 vs1 = wipe σ2 vs1 ∧ tt1 σ3 Hi fun b1 Hj =>
            if b1 = true then tk σ3 Hj fun key Hk => tv σ3 Hk fun val Hl => ∃ kvs k, key = kV k ∧ Hl D = some (.dK kvs) ∧ kvs.length < sizeLine ∧ On1 (upd Hl D (.dK (putK kvs k val))) else On1 Hj)
        else On He) := by
  have e1 : Ext H1 (upd H1 D (.dK [])) := Ext.new hD
  let Pv : Nat → Hp → Prop := fun i H => ∃ kvs, Ext H1 H ∧ H D = some (.dK kvs) ∧ P i 0 kvs (del H D)
  refine ⟨fun i m H => m = n - i ∧ i ≤ n ∧ Pv i H, ⟨n, by simp, Nat.zero_le _, [], e1, upd_same, up 0 0 [] _ _ (ext_to e1 hD) h0⟩, ?_⟩
  rintro i m H ⟨rfl, hi, kvs, e, hx, hp⟩
  have q := hG H e
  by_cases hlt : i < n
  · refine .inr ⟨w.goes i H hlt q, Pv (i + 1), fun H' p' => ⟨n - (i + 1), by omega, rfl, hlt, p'⟩, fun x H' y => ?_⟩
    refine step i x H H' kvs hlt e hx (w.yields i H x H' hlt q y) hp (fun σ2 J1 Hf => ∃ V1 : Nat → Nat → Hp → Prop, (∃ k, V1 0 k Hf) ∧ ∀ j k Hg, V1 j k Hg →
          (J1.stop j Hg ∧ Pv (i + 1) Hg) ∨ (J1.go j Hg ∧ ∃ On1 : Hp → Prop, (∀ Hh, On1 Hh → ∃ k2, k2 < k ∧ V1 (j + 1) k2 Hh) ∧ ∀ y Hh, J1.yld j Hg y Hh → g1 y (wipe σ2 vs1) Hh fun σ3 Hi => wipe σ3 vs1 = wipe σ2 vs1 ∧ tt1 σ3 Hi fun b1 Hj =>
            if b1 = true then tk σ3 Hj fun key Hk => tv σ3 Hk fun val Hl => ∃ kvs k, key = kV k ∧ Hl D = some (.dK kvs) ∧ kvs.length < sizeLine ∧ On1 (upd Hl D (.dK (putK kvs k val))) else On1 Hj)) ?_
    rintro σ2 J1 H4 ⟨e4, n1, G1, Y1, w1, hG1, hend, hst⟩
    have e14 : Ext H1 (del H4 D) := ext_to (e.trans e4) hD
    let Pj : Nat → Hp → Prop := fun j Ha => ∃ ks, Ext (del H4 D) (del Ha D) ∧ Ha D = some (.dK ks) ∧ P i j ks (del Ha D)
    refine ⟨fun j k Ha => k = n1 - j ∧ j ≤ n1 ∧ Pj j Ha, ⟨n1, by simp, Nat.zero_le _, kvs, Ext.refl _, e4 _ _ hx, up _ _ _ _ _ (ext_del e4) hp⟩, ?_⟩
    rintro j k Ha ⟨rfl, hj, ks, ea, hy, hpj⟩
    have ea2 : Ext (del H4 D) Ha := ea.trans del_ext
    have q1 := hG1 Ha ea2
    by_cases hl1 : j < n1
    · refine .inr ⟨w1.goes j Ha hl1 q1, Pj (j + 1), fun H' p' => ⟨n1 - (j + 1), by omega, rfl, hl1, p'⟩, fun x1 Hb y1 => ?_⟩
      refine hst j x1 Ha Hb ks hl1 ea2 hy (w1.yields j Ha x1 Hb hl1 q1 y1) hpj (fun key val Hl => ∃ kvs k, key = kV k ∧ Hl D = some (.dK kvs) ∧ kvs.length < sizeLine ∧ Pj (j + 1) (upd Hl D (.dK (putK kvs k val)))) _ ?_ ?_
      · intro k v H5 e5 z
        exact ⟨ks, k, rfl, e5 _ _ hy, few _ _ _ _ hpj, putK ks k v, by rw [del_upd]; exact ea.trans (ext_del e5), upd_same, by rw [del_upd]; exact z⟩
      · intro H5 e5 z
        exact ⟨ks, ea.trans (ext_del e5), e5 _ _ hy, z⟩
    · have ej : j = n1 := by omega
      subst ej
      exact .inl ⟨w1.stops Ha q1, ks, e14.trans ea2, hy, hend _ _ hpj⟩
  · have ei : i = n := by omega
    subst ei
    exact .inl ⟨w.stops H q, last H kvs e hx (up _ _ _ _ _ del_ext hp)⟩
end Ol

set_option Elab.async false
set_option linter.all false
set_option maxRecDepth 100000
set_option maxHeartbeats 4000000
namespace Ol
open PySem PySem.Spec PyProof.Rows L2

theorem lt_irr : ∀ a : List Nat, ltCps a a = false
  | [] => rfl
  | a :: r => by
    unfold ltCps
    rw [lt_irr r]
    simp
theorem lt_asym : ∀ a b : List Nat, ltCps a b = true → ltCps b a = false
  | [], [], h => by cases h
  | [], _ :: _, _ => rfl
  | _ :: _, [], h => by cases h
  | a :: r, b :: t, h => by
    unfold ltCps at h ⊢
    simp only [Bool.or_eq_true, decide_eq_true_eq, Bool.and_eq_true, beq_iff_eq] at h
    simp only [Bool.or_eq_false_iff, decide_eq_false_iff_not, Bool.and_eq_false_iff, beq_eq_false_iff_ne]
    rcases h with h | ⟨h1, h2⟩
    · exact ⟨by omega, .inl (by omega)⟩
    · exact ⟨by omega, .inr (lt_asym r t h2)⟩
/-- the least of texts -/
theorem minD_strs : ∀ (xs : List Str) (x : Str), ∃ m ∈ x :: xs, PySem.W.minD (.str x) (xs.map PyData.str) = .str m ∧ ∀ y ∈ x :: xs, ltCps y.cps.toList m.cps.toList = false
  | [], x => ⟨x, List.mem_cons_self, rfl, fun y hy => by
      rw [List.mem_singleton.mp hy]
      exact lt_irr _⟩
  | y :: xs, x => by
    by_cases c : ltCps y.cps.toList x.cps.toList = true
    · obtain ⟨m, hm, e, h⟩ := minD_strs xs y
      have em : PySem.W.minD (.str x) ((y :: xs).map PyData.str) = PySem.W.minD (.str y) (xs.map PyData.str) := by
        unfold PySem.W.minD
        rw [List.map_cons, List.foldl_cons, PySem.W.dataLt_str, ← ltCps_eq, c, if_pos rfl]
      refine ⟨m, List.mem_cons_of_mem _ hm, em.trans e, fun z hz => ?_⟩
      rcases List.mem_cons.mp hz with rfl | hz
      · exact lt_trans _ _ _ (h y List.mem_cons_self) (lt_asym _ _ c)
      · exact h z hz
    · have c' : ltCps y.cps.toList x.cps.toList = false := Bool.eq_false_iff.mpr c
      obtain ⟨m, hm, e, h⟩ := minD_strs xs x
      have em : PySem.W.minD (.str x) ((y :: xs).map PyData.str) = PySem.W.minD (.str x) (xs.map PyData.str) := by
        unfold PySem.W.minD
        rw [List.map_cons, List.foldl_cons, PySem.W.dataLt_str, ← ltCps_eq, c', if_neg (by decide)]
      refine ⟨m, ?_, em.trans e, fun z hz => ?_⟩
      · rcases List.mem_cons.mp hm with rfl | hm
        · exact List.mem_cons_self
        · exact List.mem_cons_of_mem _ (List.mem_cons_of_mem _ hm)
      · rcases List.mem_cons.mp hz with rfl | hz
        · exact h _ List.mem_cons_self
        · rcases List.mem_cons.mp hz with rfl | hz
          · exact lt_trans _ _ _ (h x List.mem_cons_self) c'
          · exact h z (List.mem_cons_of_mem _ hz)
theorem reads_strs (h : Heap) : ∀ {us : List Value} {xs : List Str}, Vals (xs.map V.str) us → ReadsAll h us (xs.map PyData.str) []
  | [], [], .nil => .nil
  | _ :: _, _ :: _, .cons r rr => by
    obtain ⟨t, rfl⟩ := r
    exact .cons (as := []) (bs := []) (.str _ t) (reads_strs h rr)
theorem depth_strs : ∀ xs : List Str, PyData.depthAll (xs.map PyData.str) ≤ 1
  | [] => by simp [PyData.depthAll]
  | x :: xs => by
    have := depth_strs xs
    simp [PyData.depthAll, PyData.depth]
    omega
/-- min(xs) of texts -/
def rMinS (K : PySem.W.Frag) : List V → Hp → VK → Prop := fun vs H Q => ∃ (a : Addr) (xs : List Str), vs = [V.ref a] ∧ SqL K H a (xs.map V.str) ∧ xs ≠ [] ∧ ∀ m, m ∈ xs → (∀ y ∈ xs, ltCps y.cps.toList m.cps.toList = false) → Q (.str m) H
theorem call_minS {X : Cx} {k : Nat} (hc : X.calm = true) (hr : Room k X.A) : CallR X (.builtin "min") (rMinS X.K) := by
  intro pins s σ H vs us Q I r h
  obtain ⟨a, xs, rfl, hs, hne, q⟩ := h
  obtain ⟨its, rv, hl, _⟩ := I.list hs
  rw [Vals.ref1 r]
  cases xs with
  | nil => exact absurd rfl hne
  | cons x xs =>
    refine PySem.W.min_list_data (x := .str x) (xs := xs.map PyData.str) (as := []) (I.ok.hd hc) hl.isList (reads_strs _ (xs := x :: xs) rv) ⟨fun y hy z hz => ?_, fun y hy => ?_⟩ ?_ fun i v h' tk bs hv rd hk => ?_
    · have hy' : y ∈ (x :: xs).map PyData.str := hy
      have hz' : z ∈ (x :: xs).map PyData.str := hz
      obtain ⟨y', _, rfl⟩ := List.mem_map.mp hy'
      obtain ⟨z', _, rfl⟩ := List.mem_map.mp hz'
      simp [PySem.W.alike]
    · have hy' : y ∈ (x :: xs).map PyData.str := hy
      obtain ⟨y', _, rfl⟩ := List.mem_map.mp hy'
      exact fun z => nomatch z
    · have d1 : PyData.depthAll ((x :: xs).map PyData.str) ≤ 1 := depth_strs _
      have u1 := hr.units
      have : PyData.depthAll (PyData.str x :: xs.map PyData.str) ≤ 1 := d1
      omega
    · obtain ⟨m, hm, e, hmin⟩ := minD_strs xs x
      rw [e] at rd
      cases rd with
      | str _ t => exact ⟨.str m, H, I.kept hk, ⟨t, rfl⟩, q m hm hmin⟩
end Ol

set_option Elab.async false
set_option linter.all false
set_option maxRecDepth 100000
set_option maxHeartbeats 4000000
namespace Ol
open PySem PySem.Spec PyProof.Rows L2 HotX L2H
/-! A list comprehension over a list, while an exception is handled. -/
section
variable {prog : Program} {w : World} {A : Around} {E : Value → Shared → Prop} {sz : Shared}
theorem list_end_hot {it l x1 : Addr} {i : Nat} {items : Array Value} {Qz : Option Value → Shared → Prop} (hot : HotAt A x1 sz.heap)
    (hitz : sz.heap.IsListIter it l i) (hlz : sz.heap.IsList l items) (hxz : items[i]? = none)
    (hQz : ∀ h', Heap.ExtBut it sz.heap h' → Qz none { sz with heap := h' }) : wpAny (model prog w) A (pyNext (.ref it)) Qz E sz := by
  obtain ⟨o, hoz, hc, hd⟩ := id hitz
  obtain ⟨olz, holz, _, nlz, hdlz⟩ := hlz
  obtain ⟨hhz, o1z, vs1z, h1z, d1z, c1z⟩ := hot
  have ne : x1 ≠ it := fun z => by
    rw [z, hoz] at h1z
    cases h1z
    rw [hd] at d1z
    cases d1z
    cases c1z
  unfold pyNext
  refine wpAny_bind (wpAny_attempt (wpAny_callSpecial?_slot (name := Str.ofString "__next__") hitz.typeIs slot_listiter_next
    (wpAny_call_entry slot_listiter_next hitz.typeIs entry_listiter_next ?_ (args_listiter_next _))))
  show wpAny _ _ (field (.ref it) 0 >>= _) _ _ sz
  refine wpAny_bind (wpAny_field hoz hd (x := .ref l) rfl ?_)
  show wpAny _ _ (if (Value.ref l == Value.none) = true then _ else _) _ _ sz
  rw [if_neg (show ¬ ((Value.ref l == Value.none) = true) from Bool.false_ne_true)]
  show wpAny _ _ (field (.ref it) 1 >>= _) _ _ sz
  refine wpAny_bind (wpAny_field hoz hd (x := .int i 0) rfl ?_)
  show wpAny _ _ (seqItems? (.ref l) >>= _) _ _ sz
  refine wpAny_bind (wpAny_seqItems holz hdlz ?_)
  simp only [Int.toNat_natCast, hxz]
  refine wpAny_bind (wpAny_rule (wpAny_bind (wpAny_setField hoz hd (by simp) ?_)))
  show wpAny _ _ (newExc (.type "StopIteration") [] >>= _) _ _ _
  refine wpAny_bind ?_
  simp only [newExc, newTuple]
  refine wpAny_bind (wpAny_newObj_type ?_ (by size_fits))
  refine wpAny_bind (m := firstArgMember _ _) (wpAny_of_eq (a := Value.none) (by first | rfl | (simp only [firstArgMember]; rfl)) ?_)
  refine wpAny_newObj_type ?_ (by size_fits)
  have h2 := Heap.get?_push_of_some { cls := .type "tuple", data := .seq #[] } ((Heap.get?_update_other sz.heap (Obj.mapFields fun x => x.setIfInBounds 0 Value.none) (Ne.symm ne)).trans h1z)
  refine raiseNew_hot ⟨hhz, o1z, vs1z, Heap.get?_push_of_some _ h2, d1z, c1z⟩ (Nat.ne_of_lt (Heap.lt_size h2)) (Heap.get?_push_size _ rfl) rfl (by first | (simp; done) | (simp; omega) | (simp only [Array.size_append]; simp; omega)) ?_
  refine wpAny_bind (wpAny_isInstance (T := "StopIteration") (b := true) ⟨_, Heap.get?_update_self _ (Heap.get?_push_size _ rfl) rfl, rfl⟩ isSubtype_stop ?_)
  refine wpAny_pure (hQz _ fun b uz hb e => ?_)
  have eb := (((Heap.SameBut.update sz.heap it (Obj.mapFields fun x => x.setIfInBounds 0 Value.none)).extBut.push { cls := .type "tuple", data := .seq #[] }) b uz hb e)
  rw [Heap.get?_update_other _ _ (Nat.ne_of_gt (Heap.lt_size eb))]
  exact Heap.get?_push_of_some _ eb
end
/-! ### the block, the handled exception pinned -/
section
variable {X : Cx} {pins : List (Addr × Obj)} {σ : L2.St} {Hz : Hp} {sz : Shared}
theorem block_pin {scope : Scope} {own : List (Str × Nat)} {fp : List Addr} (Iz : Inv X pins σ Hz sz) (ok : BlkOk X.N X.env.scope scope own) (hN : X.N.Nodup) (hfp : ∀ b ∈ fp, FpOk X pins Hz b ∧ b < sz.heap.objs.size) {p : Addr × Obj} (hp : p ∈ X.pn) :
    Inv (X.blk sz Hz scope (compEnvC scope (cellsFrom (sz.heap.objs.size + 1) scope.names (cloFrom X.env.cells scope.names [])) sz.heap.objs.size X.env) fp) [p] (wipe σ (own.map (·.2))) Hz { sz with heap := pushCells (sz.heap.push { cls := .type "dict", data := .dict #[] }) scope.names } := by
  have B := block_start Iz ok hN hfp
  obtain ⟨g, fH, nlz, nf, nc⟩ := Iz.pin p (List.mem_append_left _ hp)
  refine ⟨B.ok, B.os, B.bare, B.base, B.loc, B.cell, B.free, B.freeC, fun q hq => ?_, B.hok, B.len⟩
  have e : q = p := by simpa using hq
  subst e
  refine ⟨pushCells_keeps _ _ _ _ (Heap.get?_push_of_some _ g), fH, ?_, fun z => ?_, nc⟩
  · show q.1 ≠ sz.heap.objs.size
    exact Nat.ne_of_lt (Heap.lt_size g)
  · rcases List.mem_cons.mp (Iz.stkSub q.1 z) with y | y
    · exact nlz y
    · exact nf y
/-- the handled exception, by its pin -/
theorem hot_of {A : Around} {p : Addr × Obj} (h : Hot1 A p) {X : Cx} {pins : List (Addr × Obj)} {σ : L2.St} {Hz : Hp} {sz : Shared} (Iz : Inv X pins σ Hz sz) (hp : p ∈ X.pn ++ pins) : HotAt A p.1 sz.heap := by
  obtain ⟨hhz, v1, e1, c1z⟩ := h
  exact ⟨hhz, p.2, v1, (Iz.pin p hp).1, e1, c1z⟩
/-- one more item of a list -/
theorem list_item {tg : Expr} {a it : Addr} {i : Nat} {E : Value → Shared → Prop} (Iz : Inv X pins σ Hz sz) (hf : FpOk X pins Hz it) (st : sz.heap.IsListIter it a i) (hgz : (Itl X.K a).go i Hz) :
    wpAny (model X.prog X.w) X.A (pyNext (.ref it)) (fun r s1z => ∃ uz, r = some uz ∧
      wpAny (model X.prog X.w) X.A (letOwnedTupleGo tg (.ref it) uz) (fun _ s2z => ∃ x H', Inv X pins σ H' s2z ∧ RelV x uz ∧ (Itl X.K a).yld i Hz x H' ∧ s2z.heap.IsListIter it a (i + 1) ∧ H' it = none) E s1z) E sz := by
  obtain ⟨xs, x, hq, hxz⟩ := hgz
  obtain ⟨its, rvz, q, hz⟩ := Iz.list hq
  obtain ⟨uz, huz, ru⟩ := rvz.get hxz
  obtain ⟨f0, f1, f2, f3, f4, f5⟩ := hf
  refine wpAny_pyNext_list_item st q.isList (x := uz) (by simpa using huz) fun h' st' sb => ?_
  have I1z : Inv X pins σ Hz { sz with heap := h' } := Iz.turned (t' := sz.toks) (fun b o hb e => (sb.2 b hb).trans e) f0 f1 f3 f4 f5
  obtain ⟨o, e, c, d⟩ := id st'
  exact ⟨uz, rfl, go_of (s := { sz with heap := h' }) e c d (by decide) ⟨x, Hz, I1z, ru, ⟨rfl, fun ys hy => by rw [Iz.list_inj hy hq]; exact hxz⟩, st', f0⟩⟩
/-- no more items -/
theorem list_done {a it x1 : Addr} {i : Nat} {E : Value → Shared → Prop} (Iz : Inv X pins σ Hz sz) (hot : HotAt X.A x1 sz.heap) (hf : FpOk X pins Hz it) (st : sz.heap.IsListIter it a i) (hgz : (Itl X.K a).stop i Hz) :
    wpAny (model X.prog X.w) X.A (pyNext (.ref it)) (fun r s1z => r = none ∧ Inv X pins σ Hz s1z) E sz := by
  obtain ⟨xs, hq, hxz⟩ := hgz
  obtain ⟨its, rvz, q, hz⟩ := Iz.list hq
  obtain ⟨f0, f1, f2, f3, f4, f5⟩ := hf
  have hlz := rvz.length
  exact list_end_hot hot st q.isList (by simp; omega) fun h' eb => ⟨rfl, Iz.turned (t' := sz.toks) (fun b o hb e => eb b o hb e) f0 f1 f3 f4 f5⟩
theorem lc_coreH {Qz : VK} {eltz tg iter : Expr} {ifsz : List Expr} {scope : Scope} {own : List (Str × Nat)} {pos pos' : Pos} {tl : TE} {g : TG} {tt : TT} {te : TE} {use : Option (Value → Sem Unit)} {Qfz : Value → Shared → Prop}
    (hc : HotC X) (hN : X.N.Nodup) (Iz : Inv X pins σ Hz sz) (hi : PE X iter tl) (ok : BlkOk X.N X.env.scope scope own)
    (hgz : ∀ (sz : Shared) (Hz : Hp) (C : Addr) (cl : List (Str × Addr)) (fp : List Addr), PG (X.blk sz Hz scope (compEnvC scope cl C X.env) fp) tg g) (htz : ∀ (sz : Shared) (Hz : Hp) (C : Addr) (cl : List (Str × Addr)) (fp : List Addr), PTs (X.blk sz Hz scope (compEnvC scope cl C X.env) fp) ifsz tt)
    (hez : ∀ (sz : Shared) (Hz : Hp) (C : Addr) (cl : List (Str × Addr)) (fp : List Addr), PE (X.blk sz Hz scope (compEnvC scope cl C X.env) fp) eltz te) (hsz : ∀ x, foldedSetIterable iter X.env x = pure x)
    (h : tLc (iList X.K tl) g tt te (own.map (·.2)) σ Hz Qz)
    (hRRz : ∀ D C s' m H', Inv X pins σ H' s' → Qz (.ref D) H' → s'.heap.Ns C m → FpOk X pins H' C → compPost (model X.prog X.w) X.A X.xe use Qfz (.ref D) C (.ok .next) s') :
    wpAny (model X.prog X.w) X.A (comprehension (.ListComp eltz [⟨tg, iter, ifsz, 0⟩] scope pos) scope X.env pos' (newList []) false (eval iter X.env) use) Qfz X.xe sz := by
  obtain ⟨p, hp1, hp⟩ := hc
  have hfreez : ∀ y ∈ scope.names, y.2 = .free → ∃ c, X.env.cells.lookup y.1 = some c := fun y hy e => by
    rcases ok.free y hy e with k | k
    · exact Iz.ok.has _ (.inl k)
    · exact Iz.ok.has _ (.inr k)
  refine wpAny_comprehension_free (use := use) rfl hsz (closure_ok hfreez) ok.kind (fun y hy e => by rw [ok.uniq y hy, e])
    (thn (hi.run pins sz σ Hz _ Iz h) fun xv s1z hxz => ?_)
  obtain ⟨x, H2z, I1z, r1, a, ea, ⟨xs, hq⟩, q⟩ := hxz
  subst ea
  cases r1
  obtain ⟨its, rvz, pl, hz⟩ := I1z.list hq
  have hpy : wpAny (model X.prog X.w) X.A (pyIter (.ref a)) (fun itv s2z => ∃ it, itv = .ref it ∧ Inv X pins σ H2z s2z ∧ s2z.heap.IsListIter it a 0 ∧ FpOk X pins H2z it) X.xe s1z :=
    wpAny_pyIter_list pl.isList ⟨_, rfl, I1z.kept (t' := s1z.toks) fun b o e => Heap.get?_push_of_some _ e, ⟨_, Heap.get?_push_size _ rfl, rfl, rfl⟩, I1z.fpOk (Nat.le_refl _) (I1z.hok.fresh (Nat.le_refl _))⟩
  refine thn hpy fun itv s2z ⟨it, ei, I2z, st2, f2⟩ => ?_
  subst ei
  refine wpAny_newObj_type (newEnv_comp ?_) (by show 0 ≤ sizeLine; decide)
  generalize hDz : s2z.heap.objs.size = D
  have hDnz : H2z D = none := I2z.hok.fresh (Nat.le_of_eq hDz)
  obtain ⟨W, ⟨m0, w0⟩, turnz⟩ := q D hDnz
  -- the list that is made
  generalize hs3z : ({ s2z with heap := s2z.heap.push { cls := .type "list", data := .seq ([] : List Value).toArray } } : Shared) = s3z
  have I3z : Inv X pins σ (upd H2z D (.lst [])) s3z := by
    rw [← hs3z]
    refine I2z.laid (t' := s2z.toks) (fun b o e => Heap.get?_push_of_some _ e) (Nat.le_of_eq hDz) ⟨Nat.zero_le _, [], 0, .nil, ?_⟩
    rw [← hDz]
    exact Heap.get?_push_size _ rfl
  have h3 : s3z.heap = s2z.heap.push { cls := .type "list", data := .seq ([] : List Value).toArray } := by rw [← hs3z]
  have tobj : ∀ {i : Nat} {h : Heap}, h.IsListIter it a i → ∀ b ∈ [it], ∃ o, h.get? b = some o ∧ ∀ v, o.data ≠ .cell v := fun {i h} st b hb => by
    obtain rfl : b = it := by simpa using hb
    obtain ⟨o, e, c, d⟩ := st
    exact ⟨o, e, fun v z => by rw [d] at z; cases z⟩
  have ilt : it < s2z.heap.objs.size := by
    obtain ⟨o, e, _⟩ := id st2
    exact Heap.lt_size e
  have f3 : ∀ b ∈ [it], FpOk X pins (upd H2z D (.lst [])) b ∧ b < s3z.heap.objs.size := fun b hb => by
    obtain rfl : b = it := by simpa using hb
    refine ⟨⟨?_, f2.2⟩, by rw [h3, Heap.size_push]; exact Nat.lt_succ_of_lt ilt⟩
    rw [upd_ne (by rw [← hDz]; exact Nat.ne_of_lt ilt)]
    exact f2.1
  have st3 : s3z.heap.IsListIter it a 0 := st2.at fun o e => by rw [h3]; exact Heap.get?_push_of_some _ e
  have I4z := block_pin I3z ok hN f3 hp
  have pg := hgz s3z (upd H2z D (.lst [])) s3z.heap.objs.size (cellsFrom (s3z.heap.objs.size + 1) scope.names (cloFrom X.env.cells scope.names [])) [it]
  have pt := htz s3z (upd H2z D (.lst [])) s3z.heap.objs.size (cellsFrom (s3z.heap.objs.size + 1) scope.names (cloFrom X.env.cells scope.names [])) [it]
  have pe := hez s3z (upd H2z D (.lst [])) s3z.heap.objs.size (cellsFrom (s3z.heap.objs.size + 1) scope.names (cloFrom X.env.cells scope.names [])) [it]
  show codeAny _ _ (.compStart (.ListComp eltz [⟨tg, iter, ifsz, 0⟩] scope pos) 0 (.ref it) (.ref D) (compEnvC scope (cellsFrom (s3z.heap.objs.size + 1) scope.names (cloFrom X.env.cells scope.names [])) s3z.heap.objs.size X.env)) (compPost (model X.prog X.w) X.A X.xe use Qfz (.ref D) s3z.heap.objs.size) { s3z with heap := pushCells (s3z.heap.push { cls := .type "dict", data := .dict #[] }) scope.names }
  have nfp : (upd H2z D (.lst [])) it = none := (f3 it (by simp)).1.1
  generalize hcez : compEnvC scope (cellsFrom (s3z.heap.objs.size + 1) scope.names (cloFrom X.env.cells scope.names [])) s3z.heap.objs.size X.env = ce at I4z pg pt pe ⊢
  have cL : ce.locals = s3z.heap.objs.size := by subst hcez; rfl
  generalize hH3z : upd H2z D (.lst []) = H3z at I3z I4z pg pt pe w0 nfp f3
  generalize hs4z : ({ s3z with heap := pushCells (s3z.heap.push { cls := .type "dict", data := .dict #[] }) scope.names } : Shared) = s4z at I4z ⊢
  have st4 : s4z.heap.IsListIter it a 0 := st3.at fun o e => by rw [← hs4z]; exact pushCells_keeps _ _ _ _ (Heap.get?_push_of_some _ e)
  have pne : p.1 ≠ it := fun z => by
    obtain ⟨o, e, c, d⟩ := id st4
    have g := (I4z.pin p (by simp)).1
    rw [z, e] at g
    cases g
    obtain ⟨_, vs, dd, cc⟩ := hp1
    rw [d] at dd
    cases dd
    cases cc
  have stat : ∀ {σ' : L2.St} {H' : Hp} {s' : Shared}, Inv (X.blk s3z H3z scope ce [it]) [p] σ' H' s' → H' it = none → FpOk (X.blk s3z H3z scope ce [it]) [p] H' it := fun {σ' H' s'} I' hn =>
    ⟨hn, (I'.ok.exf it (by simp)).1, I'.ok.exfs it (by simp), .inl (by simp), fun x c e => (I'.ok.exf it (by simp)).2 x c e, fun r hr => by
      have e : r = p := by simpa using hr
      rw [e]
      exact pne⟩
  have loop : codeAny (model X.prog X.w) X.A (.compLoop (.ListComp eltz [⟨tg, iter, ifsz, 0⟩] scope pos) 0 (.ref it) (.ref D) ce) (compPost (model X.prog X.w) X.A X.xe use Qfz (.ref D) s3z.heap.objs.size) s4z := by
    refine compLoop_any (fun n s' => ∃ i H', Inv (X.blk s3z H3z scope ce [it]) [p] (wipe σ (own.map (·.2))) H' s' ∧ s'.heap.IsListIter it a i ∧ H' it = none ∧ W i n H') ?_ m0 ⟨0, H3z, I4z, st4, nfp, w0⟩
    rintro n s5z ⟨i, H5z, I5z, st5, n5, w5⟩
    rcases turnz i n H5z w5 with ⟨stopz, qq⟩ | ⟨goz, Nx, hNx, stepz⟩
    · have td := list_done (X := X.blk s3z H3z scope ce [it]) (E := fun _ _ => False) I5z (hot_of hp1 I5z (by simp)) (stat I5z n5) st5 stopz
      refine thnF td fun r s6z ⟨hr, I6z⟩ => ?_
      subst hr
      -- the def's context again
      have I7z : Inv X pins σ H5z s6z := I3z.call' (ch := [it]) I6z.os I6z.base I6z.hok I6z.bare fun b hb => ⟨(f3 b hb).1.2.2.2.1, (f3 b hb).1.2.1, (f3 b hb).1.2.2.2.2.1, (f3 b hb).1.2.2.2.2.2⟩
      have nC : H5z s3z.heap.objs.size = none := by
        have z : H5z ce.locals = none := I6z.free
        rw [cL] at z
        exact z
      obtain ⟨m, hn, _⟩ := I6z.loc
      have hn : s6z.heap.Ns ce.locals m := hn
      rw [cL] at hn
      exact hRRz D s3z.heap.objs.size s6z m H5z I7z qq hn (I3z.fpOk (Nat.le_refl _) nC)
    · have ti := list_item (X := X.blk s3z H3z scope ce [it]) (tg := tg) (E := fun _ _ => False) I5z (stat I5z n5) st5 goz
      refine thnF ti fun r s6z ⟨uz, hr, h6⟩ => ?_
      subst hr
      refine thnF h6 fun _ s7z ⟨x, H7z, I7z, r7, y7, st7, n7⟩ => ?_
      have sf : ∀ b ∈ [it], FpOk (X.blk s3z H3z scope ce [it]) [p] H7z b := fun b hb => by
        have e : b = it := by simpa using hb
        rw [e]
        exact stat I7z n7
      have I7' := I7z.pinned sf (tobj st7)
      refine thnF (pg.run _ s7z _ H7z x uz _ I7' r7 (stepz x H7z y7)) fun _ s8z ⟨σ8, H8z, I8z, hw8, q8⟩ => ?_
      refine thnF (pt.run _ s8z σ8 H8z _ I8z q8) fun b s9z ⟨H9z, I9z, q9z⟩ => ?_
      -- a turnz ends
      have fin : ∀ {s' : Shared} {H' : Hp}, Inv (X.blk s3z H3z scope ce [it]) ([p] ++ pinsAt [it] s7z.heap) σ8 H' s' → Nx H' → ∃ m, m < n ∧ ∃ i H', Inv (X.blk s3z H3z scope ce [it]) [p] (wipe σ (own.map (·.2))) H' s' ∧ s'.heap.IsListIter it a i ∧ H' it = none ∧ W i m H' := fun {s' H'} I' nx => by
        obtain ⟨m', hm, w'⟩ := hNx H' nx
        obtain ⟨o7, e7, _⟩ := tobj st7 it (by simp)
        have pin' := I'.pin (it, o7) (List.mem_append_right _ (List.mem_append_right _ (mem_pinsAt (by simp) e7)))
        have hlz : (wipe σ (own.map (·.2))).length = σ8.length := by rw [← hw8, wipe_length]
        refine ⟨m', hm, i + 1, H', (I'.unpinned (pins := [p])).weak hlz (fun j v e => ?_), st7.at fun o e => ?_, pin'.2.1, w'⟩
        · rw [← hw8] at e
          exact (wipe_some e).1
        · rw [e7] at e
          cases e
          exact pin'.1
      cases b with
      | false =>
        simp only [Bool.false_eq_true, if_false] at q9z ⊢
        exact fin I9z q9z
      | true =>
        simp only [if_true] at q9z ⊢
        refine thnF (pe.run _ s9z σ8 H9z _ I9z q9z) fun z s10z ⟨yv, H10z, I10z, r10, acc, hD10z, hz10z, nx⟩ => ?_
        exact app_ok (X := X.blk s3z H3z scope ce [it]) I10z hD10z hz10z r10 fun s11z I11z => fin I11z nx
  exact codeAny_compStart_list loop (wpAny_pyIter_listiter st4 loop)
/-- as a value -/
theorem pe_lcH {eltz tg iter : Expr} {ifsz : List Expr} {scope : Scope} {own : List (Str × Nat)} {pos : Pos} {tl : TE} {g : TG} {tt : TT} {te : TE} (hc : HotC X) (hN : X.N.Nodup) (hi : PE X iter tl) (ok : BlkOk X.N X.env.scope scope own)
    (hgz : ∀ (sz : Shared) (Hz : Hp) (C : Addr) (cl : List (Str × Addr)) (fp : List Addr), PG (X.blk sz Hz scope (compEnvC scope cl C X.env) fp) tg g) (htz : ∀ (sz : Shared) (Hz : Hp) (C : Addr) (cl : List (Str × Addr)) (fp : List Addr), PTs (X.blk sz Hz scope (compEnvC scope cl C X.env) fp) ifsz tt)
    (hez : ∀ (sz : Shared) (Hz : Hp) (C : Addr) (cl : List (Str × Addr)) (fp : List Addr), PE (X.blk sz Hz scope (compEnvC scope cl C X.env) fp) eltz te) (hsz : ∀ x, foldedSetIterable iter X.env x = pure x := by intro _; rfl) :
    PE X (.ListComp eltz [⟨tg, iter, ifsz, 0⟩] scope pos) (tLc (iList X.K tl) g tt te (own.map (·.2))) := by
  refine ⟨fun pins sz σ Hz Qz Iz h => ?_⟩
  rw [eval_ListComp]
  refine lc_coreH hc hN Iz hi ok hgz htz hez hsz h fun D C s' m H' I' q hn f => ⟨m, hn, fun h'' sb => ?_⟩
  obtain ⟨f0, f1, f2, f3, f4, f5⟩ := f
  exact ⟨.ref D, H', I'.turned (t' := s'.toks) (fun b o hb e => (sb.2 b hb).trans e) f0 f1 f3 f4 f5, rfl, q⟩
end
end Ol

set_option Elab.async false
set_option linter.all false
set_option maxRecDepth 100000
set_option maxHeartbeats 4000000
namespace Ol
open PySem PySem.Spec PyProof.Rows L2 HotX L2H
/-! Own errors with fields whose context is None: made, raised, let out of defs and methods. -/
section
variable {X : Cx} {e : Expr} {es : List Expr} {ta : TA} {p pos : Pos}
theorem mk_endN {pins : List (Addr × Obj)} {σ : L2.St} {H1z H2z : Hp} {Qz : XK} {hp hp2 h2 : Heap} {g1 g2 : Array GenState} {d1z d2 : Drawn} {t1 t2 : Nat} {os1 os2 : OsState} {a C d : Addr} {fs : List (Str × V)} (T : Raises X (.ref C)) (J1 : Inv X pins σ H1z ⟨hp, g1, d1z, t1, os1⟩)
    (ha : hp.objs.size ≤ a) (k : ∀ b o, hp.get? b = some o → hp2.get? b = some o) (un : Un (frs X.stack) [] (upd H1z a (exo a C none)) H2z hp2 h2) (hok : HOk X.prog X.w H2z h2) (hoz : os2 = os1) (hb : AllBare g2) (ea : H2z a = some (exo a C (some d)))
    (ed : H2z d = some (exd d fs)) (hd1 : H1z d = none) (q : Qz (.ref C) (some d) (upd (del H2z a) d (.xd fs))) : L2N.MkP X pins σ Qz (.ref a) ⟨h2, g2, d2, t2, os2⟩ := by
  obtain ⟨t0, G, J, kG, ge, hoe, na⟩ := mk_end0 (d2 := d2) (t2 := t2) J1 ha k un hok hoz hb ea ed hd1
  exact ⟨a, _, _, ⟨G, g2, d2, t2, os2⟩, _, .ref C, some d, rfl, J, kG, ge, hoe, ⟨rfl, rfl, fun vs y => by cases y; rfl⟩, rfl, rfl, na, rfl, hb, T, q⟩
theorem pmk_oexN {CX : CXT} {x : Str} {C fI : Addr} {k : Nat} {fd : FuncData} {ps : List Str} {sp : Sp} {ds : List Value} {dvs : List V} (T : OexC X.K C) (iC : PySem.W.findIn X.K (.ref C) "__init__" = some (some (.ref fI))) (tI : PySem.W.typeIn X.K (.ref fI) = some (.type "function"))
    (F1 : FnOk X.prog X.w X.K X.mg X.base CX k fI fd ps sp) (hr : Room (k + 1) X.A) (hb : Binds X.K fd ps ds) (hd : Vals dvs ds) (hxz : Passes CX X (fun _ _ _ => False)) (hgz : Gl X x) (hm : X.mg x = some (.ref C)) (ha : PA X (e :: es) ta)
    (hdbz : (x == ("__debug__" : Str)) = false := by decide) (hez : starEach (e :: es) X.env = (false, eval e X.env) :: starEach es X.env := by rfl) (hplz : (backTo pos (starEach es X.env)).any (·.1) = false := by rfl) :
    L2N.PMk X (.Call (.Name x p) (e :: es) [] pos) (tMkO C sp dvs ta) := by
  intro pins sz σ Hz Qz Iz h
  obtain ⟨nm, q, N, bs, bm, sn, sub, ab, col, dd, k0, k1, k2, k3, k5, hC, hbm⟩ := T.cls
  refine wpAny_Call_Name_kw (ld_glob Iz hgz hm ?_ hdbz)
  refine PySem.W.callWith_K (h₀ := X.base) Iz.ok.mod.kin T.kC (thn (ha.run pos pins sz σ Hz _ Iz h) fun usz s1z ⟨vs, H1z, J1, r1, hz, q1⟩ => ⟨J1.kIn, ?_⟩) hez hplz
  show wpAny _ _ (call (.ref C) usz) _ _ _
  obtain ⟨hp, g, drz, tk, osz⟩ := s1z
  have sz1 : hp.objs.size ≤ hp.objs.size + 1 := Nat.le_succ _
  have new1 : H1z (hp.objs.size + 1) = none := J1.hok.fresh sz1
  have q0 := q1 (hp.objs.size + 1) new1
  have keep2 : ∀ b o, hp.get? b = some o → ((hp.push (PySem.W.kdv_tup usz)).push (PySem.HandSPX.excO C hp.objs.size)).get? b = some o := fun b o z => Heap.get?_push_of_some _ (Heap.get?_push_of_some _ z)
  have at2 : ((hp.push (PySem.W.kdv_tup usz)).push (PySem.HandSPX.excO C hp.objs.size)).get? (hp.objs.size + 1) = some (PySem.HandSPX.excO C hp.objs.size) := by heap_get
  have J2 : Inv X pins σ (upd H1z (hp.objs.size + 1) (exo (hp.objs.size + 1) C none)) ⟨(hp.push (PySem.W.kdv_tup usz)).push (PySem.HandSPX.excO C hp.objs.size), g, drz, tk, osz⟩ :=
    J1.laid (t' := tk) (a := hp.objs.size + 1) (o := exo (hp.objs.size + 1) C none) (h' := (hp.push (PySem.W.kdv_tup usz)).push (PySem.HandSPX.excO C hp.objs.size)) keep2 sz1 (exo_ok at2)
  have r2 : Vals (V.ref (hp.objs.size + 1) :: (vs ++ dvs)) (Value.ref (hp.objs.size + 1) :: (usz ++ ds)) := .cons rfl (r1.append hd)
  have len2 : (Value.ref (hp.objs.size + 1) :: usz ++ ds).length = ps.length := by
    have y := r2.length
    rw [F1.len _ _ _ _ q0] at y
    exact y.symm
  have few : usz.length ≤ sizeLine := by rw [← Paired.length r1, sizeLine_eq]; omega
  refine wpAny_call (PySem.HandSPX.call_own F.excBase_ValueError (fun Y => PySem.HandSPX.refsVE_contains Y bm hbm) (J1.kIn _ _ hC) (PySem.W.looks_findIn J1.kIn iC) (fun self => PySem.W.bind_fn J1.kIn self tI) few
    (codeAny_mono (F1.run _ X.stack _ _ ⟨Value.ref (hp.objs.size + 1) :: usz, []⟩ (Value.ref (hp.objs.size + 1) :: (usz ++ ds)) _ _ (fun _ _ _ => False) (hr.make C usz []) (J2.env0.make C usz []) (hb _ (Value.ref (hp.objs.size + 1) :: usz) J2.kIn len2) r2 q0) fun r s' z' => ?_))
  cases r with
  | error er => exact hxz pins σ _ _ er s' J2 z'
  | ok fl =>
    cases fl with
    | ret uz =>
      obtain ⟨v, H2z, os2, bare2, un2, hok2, rvz, ev, d, fs, ea, ed, hd1, q2⟩ := z'
      subst ev
      obtain ⟨h2, g2, d2, t2, os'⟩ := s'
      exact ⟨rvz, mk_endN (raises_own T.exC T.tyC) J1 sz1 keep2 un2 hok2 os2 bare2 ea ed hd1 q2⟩
    | next => exact z'.elim
    | brk => exact z'.elim
    | cont => exact z'.elim
theorem passAtN {W : L2.WX} (tk : L2N.Takes X W) (σ : L2.St) : PassesAt (L2N.CX X.prog X.w) X σ (WE W σ) := fun _ _ _ y s' Iz c => tk y s' (L2N.XE.of_call Iz (fun _ _ _ h => h) c)
end
section
variable {P : Program} {w : World} {K : PySem.W.Frag} {mg : Str → Option Value} {base : Heap}
theorem okXN {x qual : Str} {st : Stmt} {f : Addr} {fd : FuncData} {N ps : List Str} {k : Nat} {sp : Sp} (F : Fun K x qual st f fd) (S : FnScope N ps (defScope st)) (lenz : ∀ vs Hz Qz E, sp vs Hz Qz E → vs.length = ps.length)
    (hbodyz : ∀ (cdv : Value) (A : Around) (outer : List Env) (sz : Shared) (Hz : Hp) (vs : List V) (Qz : VK) (E : XK), Room k (A.deeper (envOfC qual (defScope st) sz.heap.objs.size f cdv)) → sp vs Hz Qz E →
      ∃ t, PSs (cxOf (L2N.CX P w) P w K mg base N qual (defScope st) f cdv A outer sz Hz E) (defBody st) t ∧ t { nx := fun _ H' => Qz .non H', rt := Qz } (start N vs) Hz) : FnOk P w K mg base (L2N.CX P w) (k + 1) f fd ps sp := by
  obtain ⟨oc, od, kV, doc, pm, an, cdv, ct, osl, rfl, lkz, hcdz⟩ := F.ex
  exact fn_of lkz hcdz S lenz fun A outer sz Hz vs Qz E hr hsp => hbodyz cdv A outer sz Hz vs Qz E hr hsp
/-- a method that may let such errors out, and its promise -/
structure CmN (P : Program) (w : World) (K : PySem.W.Frag) (mg : Str → Option Value) (base : Heap) (C : Addr) (k : Nat) (m : Str) (ps : List Str) (sp : Sp) : Prop where
  has : ∃ (f : Addr) (fd : FuncData), FnOk P w K mg base (L2N.CX P w) k f fd ps sp ∧ Meth K C m f ∧ Binds K fd ps []
/-- a def that may -/
structure CaN (P : Program) (w : World) (K : PySem.W.Frag) (mg : Str → Option Value) (base : Heap) (k : Nat) (x : Str) (ps : List Str) (sp : Sp) : Prop where
  has : ∃ (f : Addr) (fd : FuncData), FnOk P w K mg base (L2N.CX P w) k f fd ps sp ∧ mg x = some (.ref f) ∧ PySem.W.keepIn K (.ref f) = true ∧ Binds K fd ps []
end
section
variable {X : Cx} {k : Nat} {C : Addr} {ps : List Str} {sp : Sp} {m : Str} {o e : Expr} {es : List Expr} {ta : TE} {t : TA} {apos pos : Pos} {E : L2.St → XK}
theorem pe_cmN {pl : Sem Bool} (M : CmN X.prog X.w X.K X.mg X.base C k m ps sp) (c : Cls X.K C) (hr : Room k X.A) (hxz : ∀ σ, PassesAt (L2N.CX X.prog X.w) X σ (E σ)) (hez : PE X o ta) (ha : PA X (e :: es) t)
    (hstz : starEach (e :: es) X.env = (false, eval e X.env) :: starEach es X.env := by rfl) (hplz : (backTo pos (starEach es X.env)).any (·.1) = false := by rfl)
    (htz : eval (.Call (.Attribute o m apos) (e :: es) [] pos) X.env = (do
      let ov ← eval o X.env
      standAt apos.atName
      let (f, first) ← holding [ov] (getMethod ov m pl)
      callWith pos f first (backTo pos (starEach (e :: es) X.env)) (backToKw pos (keywordEach [] X.env))) := by rfl) :
    PE X (.Call (.Attribute o m apos) (e :: es) [] pos) (tMethX C m sp E ta t) := by
  obtain ⟨f, fd, F, hm, b⟩ := M.has
  refine ⟨fun pins sz σ Hz Qz Iz h => ?_⟩
  refine PySem.W.methodCall_KW (pl := pl) (thn (hez.run pins sz σ Hz _ Iz h) fun uz s1z ⟨x, H1z, I1z, rx, a, dx, fs, ex, ea, l, q⟩ => ?_) htz
  subst ex
  obtain rfl : uz = Value.ref a := rx
  refine getmeth_ok I1z ea c hm l ?_
  refine PySem.W.callWith_K (first := [.ref a]) (h₀ := X.base) Iz.ok.mod.kin hm.kp (thn (ha.run pos pins s1z σ H1z _ I1z q) fun usz s2z ⟨vs, H2z, I2z, r, q2⟩ => ⟨I2z.kIn, ?_⟩) hstz hplz
  exact run_fnS (us := .ref a :: usz) (vs := .ref a :: vs) F hr b (hxz σ) I2z (.cons rfl r) q2
/-- the suite bears the handled exception -/
theorem hot_suite {X : Cx} {a : Addr} {oe : Obj} {cls : Value} {d : Option Addr} {pn : List (Addr × Obj)} (hz : L2N.Zn cls d oe) (hf : ∃ vs, oe.data = .fields vs) : HotC (X.suite a ((a, oe) :: pn)) := by
  obtain ⟨vs, hd⟩ := hf
  exact ⟨(a, oe), ⟨rfl, vs, hd, hz.2.2 vs hd⟩, List.mem_cons_self⟩
end
end Ol

set_option Elab.async false
set_option linter.all false
set_option maxRecDepth 100000
set_option maxHeartbeats 4000000
namespace K25
open PySem PySem.Spec PyProof.Rows L2 Ol
open TL (tl)
def topS (i : Nat) : Stmt := PySem.Challenge.pw_openlanes_k25_moves_refused.main.body.getD i (.Pass ⟨0, 0, 0, 0⟩)
section
variable {P : Program} {w : World} {K : PySem.W.Frag} {mg : Str → Option Value} {base : Heap}
def isBoundD : PyData → Bool
  | .int i => decide (1 ≤ i)
  | _ => false
abbrev s_is_bound : Stmt := (topS 38)
theorem sc_is_bound : FnScope ["thing"] ["thing"] (defScope s_is_bound) := ⟨rfl, rfl, rfl, by decide +kernel, rfl, by decide +kernel, by decide +kernel⟩
theorem ok_is_bound {f : Addr} {fd : FuncData} (F : Fun K "is_bound" "is_bound" s_is_bound f fd) (C1 : Ca P w K mg base 1 "is_integer" ["thing"] (spPred Any isIntD)) :
    FnOk P w K mg base CX0 2 f fd ["thing"] (spPred Any isBoundD) := by
  refine F.ok sc_is_bound (fun vs H Q E h => ?_) (fun cdv A outer s H vs Q E hr h => ?_)
  · obtain ⟨v, d, rfl, _⟩ := h
    rfl
  · obtain ⟨v, d, rfl, hd, hz, q⟩ := h
    refine ⟨_, (pss_one (ps_ret (pe_and (pe_ca C1 (hr.mono (by decide)) (by rfl) (pa_cons (pv 0) pa_nil)) (pe_one (pe_cmpR op_ge (pv 0) pe_int (nomark _)))))), ?_⟩
    refine ⟨_, rfl, v, d, rfl, hd, trivial, fun H1 e1 => ⟨_, rfl, ?_⟩⟩
    refine ite2 (fun h => ?_) (fun h => ?_)
    · obtain ⟨i, rfl, rfl⟩ := dq_int hd h
      refine ⟨_, rfl, _, _, rfl, rfl, ?_⟩
      exact q H1 e1
    · have e : isBoundD d = false := by
        cases d with
        | int i => exact absurd rfl h
        | _ => rfl
      have q' := q H1 e1
      rw [e] at q'
      exact q'
/-- names with whole numbers, as a dict holds them -/
def kvI (ps : List (Str × Int)) : List (Key × V) := ps.map fun p => (.inr p.1, .int p.2)
def spIsBounds : Sp := fun vs H Q _ => ∃ (a : Addr) (ps : List (Str × Int)), vs = [.ref a] ∧ H a = some (.dK (kvI ps)) ∧ ps ≠ [] ∧ ps.length ≤ 1000 ∧
  (∀ p ∈ ps, isNameS p.1 = true ∧ 1 ≤ p.2) ∧ ∀ H', Ext H H' → Q (.bl true) H'
abbrev s_is_bounds : Stmt := (topS 39)
theorem sc_is_bounds : FnScope ["thing", "name", "bound"] ["thing"] (defScope s_is_bounds) := ⟨rfl, rfl, rfl, by decide +kernel, rfl, by decide +kernel, by decide +kernel⟩
theorem ok_is_bounds {f : Addr} {fd : FuncData} (F : Fun K "is_bounds" "is_bounds" s_is_bounds f fd) (T : BT mg)
    (C3 : Ca P w K mg base 1 "is_name" ["thing"] (spPred Ok1 isNameD)) (C4 : Ca P w K mg base 2 "is_bound" ["thing"] (spPred Any isBoundD)) :
    FnOk P w K mg base CX0 3 f fd ["thing"] spIsBounds := by
  refine F.ok sc_is_bounds (fun vs H Q E h => ?_) (fun cdv A outer s H vs Q E hr h => ?_)
  · obtain ⟨a, ps, rfl, _⟩ := h
    rfl
  · obtain ⟨a, ps, rfl, ha, hne, hl, hps, q⟩ := h
    refine ⟨_, (pss_cons (ps_if (PW.pt (pw_or (pt_not (pt_val (pe_callB call_isi (by rfl) T.n_isinstance (by decide +kernel) (pa_cons (pv 0) (pa_cons (pe_bltn (v := .ty "dict") (by rfl) T.n_dict (by decide +kernel) rfl) pa_nil))))) (pw_or1 (pt_cmpR op_eq (pe_callB call_lenD (by rfl) T.n_len (by decide +kernel) (pa_cons (pv 0) pa_nil)) pe_int (nomark _)))))
      (pss_one (ps_ret pe_bl))
      pss_nil)
    (pss_one (ps_ret (pe_callB (cr_all rfl) (by rfl) T.n_all (by decide +kernel) (pa_cons (pe_lock (pe_lc (own := [("name", 1), ("bound", 2)]) (g := gTup K 2 (gCons (gName 1) (gCons (gName 2) gNil))) (tt := tYes) rfl sc_is_bounds.nd (pi_items (pv 0)) (blkOk_by (N := ["thing", "name", "bound"]) (sc := defScope s_is_bounds) (by decide +kernel)) (fun _ _ _ _ _ => (pg_tup (by rfl) (pgs_cons (pg_name (i := 1) sc_is_bounds.nd rfl (.inl rfl)) (pgs_cons (pg_name (i := 2) sc_is_bounds.nd rfl (.inl rfl)) pgs_nil)))) (fun _ _ _ _ _ => pts_nil) (fun _ _ _ _ _ => (pe_and (pe_ca C3 (hr.mono (by decide)) (by rfl) (pa_cons (pv 1) pa_nil)) (pe_one (pe_ca C4 (hr.mono (by decide)) (by rfl) (pa_cons (pv 2) pa_nil))))))) pa_nil))))), ?_⟩
    refine ⟨_, rfl, _, _, _, _, _, rfl, .ty "dict", .base (.dK ha), ki_dict (.dict []), _, rfl, ?_⟩
    refine iteF ?_
    refine ⟨_, rfl, a, _, rfl, ha, rfl, _, rfl, ?_⟩
    have hlen : (kvI ps).length = ps.length := by unfold kvI; rw [List.length_map]
    refine ite2 (fun g => ?_) (fun _ => ?_)
    · have z := of_decide_eq_true g
      injection z with z
      rw [hlen] at z
      cases ps with
      | nil => exact absurd rfl hne
      | cons p ps => simp at z; omega
    refine ⟨a, _, ha, trivial, fun od => ⟨_, rfl, a, od, _, rfl, upd_same, fun D hD => ?_⟩⟩
    have nD : D ≠ a := fun z => by rw [z, upd_same] at hD; cases hD
    refine lc_acc walk_items (fun i xs _ => xs = List.replicate i (V.bl true)) (fun _ _ _ _ _ h => h) rfl hD (fun i xs _ h => by rw [h, List.length_replicate]; exact Nat.le_refl _) (by rw [hlen]; exact Nat.le_trans hl (by decide)) (fun H' e => e _ _ upd_same) ?_ ?_
    · rintro i x H1 H2 xs hi e1 ⟨T', y1, y2, rfl, hT, rfl, g1, g2⟩ hp QY QN kY kN
      have hi' : i < ps.length := by rw [← hlen]; exact hi
      have hk : (kvI ps)[i]? = some (.inr ps[i].1, .int ps[i].2) := by
        unfold kvI
        rw [List.getElem?_map, List.getElem?_eq_getElem hi']
        rfl
      have k1 : y1 = .str ps[i].1 := by
        have z := g1
        dsimp only at z
        rw [hk] at z
        exact (Option.some.inj z).symm
      have k2 : y2 = .int ps[i].2 := by
        have z := g2
        dsimp only at z
        rw [hk] at z
        exact (Option.some.inj z).symm
      subst k1
      subst k2
      obtain ⟨b1, b2⟩ := hps _ (List.getElem_mem hi')
      have eT := Ext.new (o := .tup [.str ps[i].1, .int ps[i].2]) hT
      refine ⟨T', _, rfl, SqT.of upd_same, rfl, _, _, rfl, _, _, rfl, rfl, rfl, ?_⟩
      refine tyes ?_
      refine ⟨_, rfl, _, _, rfl, .str _, (fun x hx => by cases hx; exact name_tx b1), fun H3 e3 => ⟨_, rfl, ?_⟩⟩
      rw [if_pos (show isNameD (.str ps[i].1) = true from b1)]
      refine ⟨_, rfl, _, _, rfl, .int _, trivial, fun H4 e4 => ?_⟩
      rw [show isBoundD (.int ps[i].2) = true from decide_eq_true b2]
      refine kY _ H4 ((eT.trans e3).trans e4) fun Hz _ hh => ?_
      rw [hh, List.replicate_succ']
    · rintro H1 xs e1 hx hp
      subst hp
      refine ⟨e1 _ _ upd_same, D, List.replicate (kvI ps).length true, rfl, SqL.of ?_, ?_⟩
      · rw [upd_ne nD, hx, List.map_replicate]
      · have e2 : Ext H (upd H1 a (.dK (kvI ps))) := fun b o z => by
          by_cases c : b = a
          · rw [c] at z ⊢
            rw [upd_same, ← ha, z]
          · rw [upd_ne c]
            exact e1 _ _ (by rw [upd_ne c]; exact z)
        have ea : (List.replicate (kvI ps).length true).all id = true := by simp
        rw [ea]
        exact q _ e2
end
end K25

set_option Elab.async false
set_option linter.all false
set_option maxRecDepth 100000
set_option maxHeartbeats 4000000
namespace K25
open PySem PySem.Spec PyProof.Rows L2 Ol
open TL (tl)
section
variable {P : Program} {w : World} {K : PySem.W.Frag} {mg : Str → Option Value} {base : Heap}
/-- the state of a lane, as data -/
def stD (c : Nat) (b : Bool) : PyData := .tuple [.int (c : Int), .bool b]
def optD : Option (Nat × Bool) → PyData
  | none => .none
  | some s => stD s.1 s.2
theorem st_inv {H : Hp} {v : V} {c : Nat} {b : Bool} (h : Dq H v (stD c b)) : ∃ a, v = .ref a ∧ H a = some (.tup [.int (c : Int), .bl b]) := by
  generalize e : stD c b = d at h
  cases h with
  | tup h t =>
    unfold stD at e
    cases e
    cases t with
    | cons t1 t2 =>
      cases t1
      cases t2 with
      | cons t3 t4 =>
        cases t3
        cases t4
        exact ⟨_, rfl, h⟩
  | _ => cases e
theorem st_new {H : Hp} {p : Addr} {c : Nat} {b : Bool} : Dq (upd H p (.tup [.int (c : Int), .bl b])) (.ref p) (stD c b) :=
  .tup upd_same (.cons (.int _) (.cons (.bl _) .nil))
def beh4 (word : Str) (c : Nat) (b : Bool) : Option (Nat × Bool) := if word = "close" ∧ b = false then some (c, true) else none
def beh3 (word : Str) (c : Nat) (b : Bool) : Option (Nat × Bool) := if word = "ended" ∧ b = true ∧ c = 0 then some (c, b) else beh4 word c b
def beh2 (word : Str) (c : Nat) (b : Bool) : Option (Nat × Bool) := if word = "take" ∧ 0 < c then some (c - 1, b) else beh3 word c b
/-- the state that an arm leaves -/
def beh (word : Str) (c : Nat) (b : Bool) (bd : Int) : Option (Nat × Bool) := if word = "send" ∧ b = false ∧ (c : Int) < bd then some (c + 1, false) else beh2 word c b
def spBehind : Sp := fun vs H Q _ => ∃ (word : Str) (v : V) (c : Nat) (b : Bool) (bd : Int), vs = [.str word, v, .int bd] ∧ Dq H v (stD c b) ∧
  ∀ (r : V) (H' : Hp), Ext H H' → Dq H' r (optD (beh word c b bd)) → Q r H'
theorem dec_word {a b : Str} : decide (V.str a = V.str b) = true ↔ a = b := by
  rw [decide_eq_true_eq]
  exact ⟨fun h => by injection h, fun h => by rw [h]⟩
abbrev s_state_behind : Stmt := (topS 23)
theorem sc_state_behind : FnScope ["word", "state", "bound", "count", "closed"] ["word", "state", "bound"] (defScope s_state_behind) := ⟨rfl, rfl, rfl, by decide +kernel, rfl, by decide +kernel, by decide +kernel⟩
theorem ok_state_behind {f : Addr} {fd : FuncData} (F : Fun K "state_behind" "state_behind" s_state_behind f fd) :
    FnOk P w K mg base CX0 1 f fd ["word", "state", "bound"] spBehind := by
  refine F.ok sc_state_behind (fun vs H Q E h => ?_) (fun cdv A outer s H vs Q E hr h => ?_)
  · obtain ⟨word, v, c, b, bd, rfl, _⟩ := h
    rfl
  · obtain ⟨word, v, c, b, bd, rfl, hv, q⟩ := h
    obtain ⟨a, rfl, ha⟩ := st_inv hv
    refine cutB (fun σ H' => σ = [some (.str word), some (.ref a), some (.int bd), some (.int (c : Int)), some (.bl b)] ∧ H' = H) ?_ ⟨_, (ps_asg (pv 1) (pg_tup (by rfl) (pgs_cons (pg_name (i := 3) sc_state_behind.nd rfl (.inl rfl)) (pgs_cons (pg_name (i := 4) sc_state_behind.nd rfl (.inl rfl)) pgs_nil)))), fun nx hn => ?_⟩
    rotate_left
    · exact ⟨_, rfl, a, _, rfl, SqT.of ha, rfl, _, _, rfl, _, _, rfl, rfl, hn _ _ ⟨rfl, rfl⟩⟩
    refine cutW _ (fun σ H' => σ = [some (.str word), some (.ref a), some (.int bd), some (.int (c : Int)), some (.bl b)] ∧ H' = H ∧ beh word c b bd = beh2 word c b) ⟨_, (ps_if (PW.pt (pw_and (pt_cmpR op_eq (pv 0) pe_str (nomark _)) (pw_and (pt_not (pt_val (pv 4))) (pw_and1 (pt_cmpR op_lt (pv 3) (pv 2) (nomark _))))))
      (pss_one (ps_ret (pe_tup (pa_cons (pe_op op_add (pv 3) pe_int) (pa_cons pe_bl pa_nil)))))
      pss_nil), ?_⟩ ?_
    · rintro nx hn σ H' ⟨rfl, rfl⟩
      refine ⟨_, rfl, rfl, _, rfl, ?_⟩
      refine ite2 (fun g0 => ?_) (fun g0 => ?_)
      · have g0' := dec_word.mp g0
        refine ⟨_, rfl, _, rfl, ?_⟩
        refine ite2 (fun g1 => ?_) (fun g1 => ?_)
        · have g1' : b = false := by cases b with | true => cases g1 | false => rfl
          refine ⟨_, rfl, _, rfl, _, _, rfl, rfl, _, rfl, ?_⟩
          refine ite2 (fun g2 => ?_) (fun g2 => ?_)
          · have g2' := of_decide_eq_true g2
            refine ⟨_, rfl, _, _, rfl, rfl, by show 2 ≤ sizeLine; decide, fun p hp => ?_⟩
            refine q _ _ (Ext.new hp) ?_
            unfold beh
            rw [if_pos ⟨g0', g1', g2'⟩]
            have e : ((c : Int) + 1) = ((c + 1 : Nat) : Int) := by omega
            show Dq (upd H' p (.tup [.int ((c : Int) + 1), .bl false])) _ _
            rw [e]
            exact st_new
          · exact hn _ _ ⟨rfl, rfl, by unfold beh; rw [if_neg (fun z => g2 (decide_eq_true z.2.2))]⟩
        · refine iteF ?_
          refine hn _ _ ⟨rfl, rfl, ?_⟩
          unfold beh
          rw [if_neg (fun z => g1 (by rw [z.2.1]; rfl))]
      · refine iteF ?_
        refine hn _ _ ⟨rfl, rfl, ?_⟩
        unfold beh
        rw [if_neg (fun z => g0 (dec_word.mpr z.1))]
    refine cutW _ (fun σ H' => σ = [some (.str word), some (.ref a), some (.int bd), some (.int (c : Int)), some (.bl b)] ∧ H' = H ∧ beh word c b bd = beh3 word c b) ⟨_, (ps_if (PW.pt (pw_and (pt_cmpR op_eq (pv 0) pe_str (nomark _)) (pw_and1 (pt_cmpR op_gt (pv 3) pe_int (nomark _)))))
      (pss_one (ps_ret (pe_tup (pa_cons (pe_op op_sub (pv 3) pe_int) (pa_cons (pv 4) pa_nil)))))
      pss_nil), ?_⟩ ?_
    · rintro nx hn σ H' ⟨rfl, rfl, eb⟩
      refine ⟨_, rfl, rfl, _, rfl, ?_⟩
      refine ite2 (fun g0 => ?_) (fun g0 => ?_)
      · have g0' := dec_word.mp g0
        refine ⟨_, rfl, _, _, rfl, rfl, _, rfl, ?_⟩
        refine ite2 (fun g2 => ?_) (fun g2 => ?_)
        · have g2' : (0 : Int) < c := of_decide_eq_true g2
          refine ⟨_, rfl, _, _, rfl, rfl, _, rfl, by show 2 ≤ sizeLine; decide, fun p hp => ?_⟩
          refine q _ _ (Ext.new hp) ?_
          rw [eb]
          unfold beh2
          rw [if_pos ⟨g0', by omega⟩]
          have e : ((c : Int) - 1) = ((c - 1 : Nat) : Int) := by omega
          show Dq (upd H' p (.tup [.int ((c : Int) - 1), .bl b])) _ _
          rw [e]
          exact st_new
        · refine hn _ _ ⟨rfl, rfl, ?_⟩
          rw [eb]
          unfold beh2
          rw [if_neg (fun z => g2 (decide_eq_true (by have := z.2; omega)))]
      · refine iteF ?_
        refine hn _ _ ⟨rfl, rfl, ?_⟩
        rw [eb]
        unfold beh2
        rw [if_neg (fun z => g0 (dec_word.mpr z.1))]
    refine cutW _ (fun σ H' => σ = [some (.str word), some (.ref a), some (.int bd), some (.int (c : Int)), some (.bl b)] ∧ H' = H ∧ beh word c b bd = beh4 word c b) ⟨_, (ps_if (PW.pt (pw_and (pt_cmpR op_eq (pv 0) pe_str (nomark _)) (pw_and (pt_val (pv 4)) (pw_and1 (pt_cmpR op_eq (pv 3) pe_int (nomark _))))))
      (pss_one (ps_ret (pv 1)))
      pss_nil), ?_⟩ ?_
    · rintro nx hn σ H' ⟨rfl, rfl, eb⟩
      refine ⟨_, rfl, rfl, _, rfl, ?_⟩
      refine ite2 (fun g0 => ?_) (fun g0 => ?_)
      · have g0' := dec_word.mp g0
        refine ⟨_, rfl, _, rfl, ?_⟩
        refine ite2 (fun g1 => ?_) (fun g1 => ?_)
        · refine ⟨_, rfl, rfl, _, rfl, ?_⟩
          refine ite2 (fun g2 => ?_) (fun g2 => ?_)
          · have g2' : c = 0 := by
              have z := of_decide_eq_true g2
              injection z with z
              omega
            refine ⟨_, rfl, q _ _ (Ext.refl _) ?_⟩
            rw [eb]
            unfold beh3
            rw [if_pos ⟨g0', g1, g2'⟩]
            exact hv
          · refine hn _ _ ⟨rfl, rfl, ?_⟩
            rw [eb]
            unfold beh3
            rw [if_neg (fun z => g2 (decide_eq_true (by rw [z.2.2]; rfl)))]
        · refine iteF ?_
          refine hn _ _ ⟨rfl, rfl, ?_⟩
          rw [eb]
          unfold beh3
          rw [if_neg (fun z => g1 z.2.1)]
      · refine iteF ?_
        refine hn _ _ ⟨rfl, rfl, ?_⟩
        rw [eb]
        unfold beh3
        rw [if_neg (fun z => g0 (dec_word.mpr z.1))]
    refine ⟨_, pss_cons (ps_if (PW.pt (pw_and (pt_cmpR op_eq (pv 0) pe_str (nomark _)) (pw_and1 (pt_not (pt_val (pv 4))))))
      (pss_one (ps_ret (pe_tup (pa_cons (pv 3) (pa_cons pe_bl pa_nil)))))
      pss_nil) (pss_one (ps_ret pe_non)), ?_⟩
    rintro σ H' ⟨rfl, rfl, eb⟩
    refine ⟨_, rfl, rfl, _, rfl, ?_⟩
    refine ite2 (fun g0 => ?_) (fun g0 => ?_)
    · have g0' := dec_word.mp g0
      refine ⟨_, rfl, _, rfl, ?_⟩
      refine ite2 (fun g1 => ?_) (fun g1 => ?_)
      · have g1' : b = false := by cases b with | true => cases g1 | false => rfl
        refine ⟨_, rfl, by show 2 ≤ sizeLine; decide, fun p hp => ?_⟩
        refine q _ _ (Ext.new hp) ?_
        rw [eb]
        unfold beh4
        rw [if_pos ⟨g0', g1'⟩]
        exact st_new
      · refine q _ _ (Ext.refl _) ?_
        rw [eb]
        unfold beh4
        rw [if_neg (fun z => g1 (by rw [z.2]; rfl))]
        exact .non
    · refine iteF ?_
      refine q _ _ (Ext.refl _) ?_
      rw [eb]
      unfold beh4
      rw [if_neg (fun z => g0 (dec_word.mpr z.1))]
      exact .non
end
end K25

set_option Elab.async false
set_option linter.all false
set_option maxRecDepth 100000
set_option maxHeartbeats 4000000
namespace K25
open PySem PySem.Spec PyProof.Rows L2 Ol
open TL (tl)
section
variable {P : Program} {w : World} {K : PySem.W.Frag} {mg : Str → Option Value} {base : Heap}
def spReplaced : Sp := fun vs H Q _ => ∃ (a : Addr) (xs : List V) (n : Nat) (v : V), vs = [.ref a, .int n, v] ∧ H a = some (.tup xs) ∧ n < xs.length ∧ xs.length ≤ 1000 ∧
  ∀ p H', Ext H H' → H' p = some (.tup (xs.set n v)) → Q (.ref p) H'
abbrev s_replaced : Stmt := (topS 24)
theorem sc_replaced : FnScope ["row", "index", "item"] ["row", "index", "item"] (defScope s_replaced) := ⟨rfl, rfl, rfl, by decide +kernel, rfl, by decide +kernel, by decide +kernel⟩
theorem sl_any {K' : PySem.W.Frag} {H : Hp} {a : Addr} {xs : List V} {lo hi : Option Int} {Q : V → Hp → Prop} (h : H a = some (.tup xs))
    (k : ∀ p H', Ext H H' → H' p = some (.tup (cutV xs lo hi)) → Q (.ref p) H') : rSlA K' (.ref a) lo hi H Q := by
  refine ⟨a, xs, rfl, SqT.of h, fun z => k _ _ (Ext.refl _) ?_, fun _ p hp => k _ _ (Ext.new hp) upd_same⟩
  rw [h]
  unfold cutV
  rw [z.1, z.2]
  simp
theorem cat_any {K' : PySem.W.Frag} {H : Hp} {a b : Addr} {xs ys : List V} {Q : V → Hp → Prop} (h : H a = some (.tup xs)) (h2 : H b = some (.tup ys)) (hl : xs.length + ys.length ≤ sizeLine)
    (k : ∀ p H', Ext H H' → H' p = some (.tup (xs ++ ys)) → Q (.ref p) H') : rCatA K' (.ref a) (.ref b) H Q := by
  refine ⟨a, b, xs, ys, rfl, rfl, SqT.of h, SqT.of h2, hl, fun z => k _ _ (Ext.refl _) ?_, fun _ z => k _ _ (Ext.refl _) ?_, fun _ _ p hp => k _ _ (Ext.new hp) upd_same⟩
  · rw [h2, z]
    rfl
  · rw [h, z, List.append_nil]
theorem ok_replaced {f : Addr} {fd : FuncData} (F : Fun K "replaced" "replaced" s_replaced f fd) :
    FnOk P w K mg base CX0 1 f fd ["row", "index", "item"] spReplaced := by
  refine F.ok sc_replaced (fun vs H Q E h => ?_) (fun cdv A outer s H vs Q E hr h => ?_)
  · obtain ⟨a, xs, n, v, rfl, _⟩ := h
    rfl
  · obtain ⟨a, xs, n, v, rfl, ha, hn, hl, q⟩ := h
    refine ⟨_, (pss_one (ps_ret (pe_op op_catA (pe_op op_catA (pe_slice sl_tupA (pv 0) po_none (po_some (pv 1))) (pe_tup (pa_cons (pv 2) pa_nil))) (pe_slice sl_tupA (pv 0) (po_some (pe_op op_add (pv 1) pe_int)) po_none)))), ?_⟩
    refine ⟨_, rfl, _, rfl, _, rfl, sl_any ha fun p1 H1 e1 h1 => ?_⟩
    refine ⟨_, rfl, by show 1 ≤ sizeLine; decide, fun p2 hp2 => ?_⟩
    have e2 := Ext.new (o := .tup [v]) hp2
    have c1 : (cutV xs none (some (n : Int))) = xs.take n := by
      unfold cutV
      rw [HT.sIx_none, HT.sIx_nat, Nat.min_eq_left (Nat.le_of_lt hn)]
      simp
    rw [c1] at h1
    refine cat_any (e2 _ _ h1) upd_same (by rw [List.length_take]; exact Nat.le_trans (show _ ≤ 1000 + 1 by simp; omega) (by decide)) fun p3 H3 e3 h3 => ?_
    have e03 := (e1.trans e2).trans e3
    refine ⟨_, rfl, _, rfl, _, _, rfl, rfl, _, rfl, ?_⟩
    dsimp only [tNoPart]

    refine sl_any (e03 _ _ ha) fun p4 H4 e4 h4 => ?_
    have c2 : (cutV xs (some ((n : Int) + 1)) none) = xs.drop (n + 1) := by
      unfold cutV
      rw [HT.sIx_none, show ((n : Int) + 1) = ((n + 1 : Nat) : Int) by omega, HT.sIx_nat, Nat.min_eq_left hn]
      rw [List.take_of_length_le (by rw [List.length_drop]; omega)]
    rw [c2] at h4
    refine cat_any (e4 _ _ h3) h4 (by rw [List.length_append, List.length_take, List.length_drop]; exact Nat.le_trans (show _ ≤ 1000 + 1 + 1000 by simp; omega) (by decide)) fun p5 H5 e5 h5 => ?_
    refine q _ _ ((e03.trans e4).trans e5) ?_
    rw [h5, List.set_eq_take_append_cons_drop, if_pos hn, List.append_assoc]
    rfl
end
end K25

set_option Elab.async false
set_option linter.all false
set_option maxRecDepth 100000
set_option maxHeartbeats 4000000
namespace K25
open PySem PySem.Spec PyProof.Rows L2 Ol
open TL (tl)
/-- the fields -/
def lf (n b s : Addr) : List (Str × V) := [("_names", .ref n), ("_bounds", .ref b), ("_spots", .ref s)]
theorem n_b : ¬ (("_names" : Str) = "_bounds") := by decide +kernel
theorem n_s : ¬ (("_names" : Str) = "_spots") := by decide +kernel
theorem b_s : ¬ (("_bounds" : Str) = "_spots") := by decide +kernel
theorem b_n : ¬ (("_bounds" : Str) = "_names") := by decide +kernel
theorem s_n : ¬ (("_spots" : Str) = "_names") := by decide +kernel
theorem s_b : ¬ (("_spots" : Str) = "_bounds") := by decide +kernel
theorem lf_n (n b s : Addr) : (lf n b s).lookup ("_names" : Str) = some (.ref n) := by
  unfold lf
  rw [List.lookup_cons_self]
theorem lf_b (n b s : Addr) : (lf n b s).lookup ("_bounds" : Str) = some (.ref b) := by
  unfold lf
  rw [List.lookup_cons, beq_eq_false_iff_ne.mpr b_n]
  dsimp only
  rw [List.lookup_cons_self]
theorem lf_s (n b s : Addr) : (lf n b s).lookup ("_spots" : Str) = some (.ref s) := by
  unfold lf
  rw [List.lookup_cons, beq_eq_false_iff_ne.mpr s_n]
  dsimp only
  rw [List.lookup_cons, beq_eq_false_iff_ne.mpr s_b]
  dsimp only
  rw [List.lookup_cons_self]
theorem lf_no (n b s : Addr) {m : Str} (h1 : ¬ m = "_names") (h2 : ¬ m = "_bounds") (h3 : ¬ m = "_spots") : (lf n b s).lookup m = none := by
  unfold lf
  rw [List.lookup_cons, beq_eq_false_iff_ne.mpr h1]
  dsimp only
  rw [List.lookup_cons, beq_eq_false_iff_ne.mpr h2]
  dsimp only
  rw [List.lookup_cons, beq_eq_false_iff_ne.mpr h3]
  rfl
theorem put1 (n : Addr) : putF "_names" (.ref n) [] = ([("_names", V.ref n)] : List (Str × V)) := rfl
theorem put2 (n b : Addr) : putF "_bounds" (.ref b) [("_names", V.ref n)] = ([("_names", V.ref n), ("_bounds", V.ref b)] : List (Str × V)) := by
  show (if ("_names" : Str) = "_bounds" then _ else (("_names" : Str), V.ref n) :: putF "_bounds" (V.ref b) []) = _
  rw [if_neg n_b]
  rfl
theorem put3 (n b s : Addr) : putF "_spots" (.ref s) [("_names", V.ref n), ("_bounds", V.ref b)] = lf n b s := by
  show (if ("_names" : Str) = "_spots" then _ else (("_names" : Str), V.ref n) :: (if ("_bounds" : Str) = "_spots" then _ else (("_bounds" : Str), V.ref b) :: putF "_spots" (V.ref s) [])) = _
  rw [if_neg n_s, if_neg b_s]
  rfl
/-- Lanes with these names and bounds stand at p -/
def LanesAt (C : Addr) (H : Hp) (p : Addr) (ns : List Str) (bs : List Int) : Prop :=
  ∃ dx n b s, H p = some (.ins C dx (lf n b s)) ∧ H n = some (.tup (ns.map V.str)) ∧ H b = some (.tup (bs.map V.int)) ∧ H s = some (.dK (spots ns)) ∧
    bs.length = ns.length ∧ ns.Nodup ∧ ns.length ≤ 60 ∧ (∀ x ∈ ns, isNameS x = true) ∧ (∀ i ∈ bs, 1 ≤ i)
theorem LanesAt.up {C : Addr} {H H' : Hp} {p : Addr} {ns : List Str} {bs : List Int} (e : Ext H H') : LanesAt C H p ns bs → LanesAt C H' p ns bs
  | ⟨dx, n, b, s, h1, h2, h3, h4, r⟩ => ⟨dx, n, b, s, e _ _ h1, e _ _ h2, e _ _ h3, e _ _ h4, r⟩
/-- what the text says of the class -/
structure LT (K : PySem.W.Frag) (mg : Str → Option Value) (C : Addr) : Prop where
  cl : Cls K C
  nN : NoAttr K C "_names"
  nB : NoAttr K C "_bounds"
  nS : NoAttr K C "_spots"
  gC : mg "Lanes" = some (.ref C)
  n_enum : mg "enumerate" = none
  n_zip : mg "zip" = none
abbrev cL (i : Nat) : Stmt := inClass (topS 40) i
section
variable {P : Program} {w : World} {K : PySem.W.Frag} {mg : Str → Option Value} {base : Heap} {C : Addr}
def bdOf (ps : List (Str × Int)) (x : Str) : Int := ((ps.find? fun p => decide (p.1 = x)).map (·.2)).getD 0
def spInit (C : Addr) : Sp := fun vs H Q _ => ∃ (H0 : Hp) (p dx a : Addr) (ps : List (Str × Int)), vs = [.ref p, .ref a] ∧ H0 p = none ∧ Ext H0 H ∧ H p = some (.ins C dx []) ∧ H0 a = some (.dK (kvI ps)) ∧
  ps ≠ [] ∧ ps.length ≤ 60 ∧ (∀ q ∈ ps, isNameS q.1 = true ∧ 1 ≤ q.2) ∧ (ps.map (·.1)).Nodup ∧
  ∀ H' ns, Ext H0 H' → ns.Perm (ps.map (·.1)) → sortedS ns = true → LanesAt C H' p ns (ns.map (bdOf ps)) → Q .non H'
theorem sc_init : FnScope ["self", "bounds", "name", "spot"] ["self", "bounds"] (defScope (cL 0)) := ⟨rfl, rfl, rfl, by decide +kernel, rfl, by decide +kernel, by decide +kernel⟩
theorem tyes' {σ : L2.St} {H : Hp} {Q : Bool → Hp → Prop} (h : Q true H) : tYes σ H Q := h
theorem range_getD {α β : Type} (h : α → β) (d : α) : ∀ l : List α, (List.range l.length).map (fun i => h (l.getD i d)) = l.map h
  | [] => rfl
  | a :: l => by
    rw [List.length_cons, List.range_succ_eq_map, List.map_cons, List.map_map, List.map_cons]
    congr 1
    exact range_getD h d l
theorem kvI_val {ps : List (Str × Int)} {x : Str} (h : x ∈ ps.map (·.1)) : valV (kvI ps) (.inr x) = some (.int (bdOf ps x)) := by
  induction ps with
  | nil => cases h
  | cons p ps ih =>
    unfold kvI bdOf
    rw [List.map_cons, List.find?_cons]
    by_cases c : p.1 = x
    · rw [valV_pos (by rw [c]), decide_eq_true c]
      rfl
    · rw [valV_neg (fun z => c (Sum.inr.inj z)), decide_eq_false c]
      rw [List.map_cons, List.mem_cons] at h
      exact ih (h.resolve_left fun z => c z.symm)
theorem bd_mem {ps : List (Str × Int)} {x : Str} (h : x ∈ ps.map (·.1)) : ∃ p ∈ ps, p.1 = x ∧ p.2 = bdOf ps x := by
  induction ps with
  | nil => cases h
  | cons p ps ih =>
    unfold bdOf
    rw [List.find?_cons]
    by_cases c : p.1 = x
    · rw [decide_eq_true c]
      exact ⟨p, List.mem_cons_self, c, rfl⟩
    · rw [decide_eq_false c]
      rw [List.map_cons, List.mem_cons] at h
      obtain ⟨r, h1, h2, h3⟩ := ih (h.resolve_left fun z => c z.symm)
      exact ⟨r, List.mem_cons_of_mem _ h1, h2, h3⟩
theorem ok_init {f : Addr} {fd : FuncData} (F : Fun K "__init__" "Lanes.__init__" (cL 0) f fd) (T : BT mg) (L : LT K mg C)
    (C5 : Ca P w K mg base 3 "is_bounds" ["thing"] spIsBounds) :
    FnOk P w K mg base CX0 4 f fd ["self", "bounds"] (spInit C) := by
  refine F.ok sc_init (fun vs H Q E h => ?_) (fun cdv A outer s H vs Q E hr h => ?_)
  · obtain ⟨H0, p, dx, a, ps, rfl, _⟩ := h
    rfl
  · obtain ⟨H0, p, dx, a, ps, rfl, hp0, e0, hp, ha, hne, hl, hps, hnd, q⟩ := h
    refine ⟨_, (pss_cons (ps_if (pt_not (pt_val (pe_ca C5 (hr.mono (by decide)) (by rfl) (pa_cons (pv 1) pa_nil)))) (pss_one ps_never) pss_nil)
      (pss_cons (ps_fld (pv 0) (pe_callTy call_tuple_of (by rfl) T.n_tuple (by decide +kernel) (pa_cons (pe_callB (call_sortedD rfl) (by rfl) T.n_sorted (by decide +kernel) (pa_cons (pv 1) pa_nil)) pa_nil)) rfl)
      (pss_cons (ps_fld (pv 0) (pe_callTy call_tuple_of (by rfl) T.n_tuple (by decide +kernel) (pa_cons (pe_lc (own := [("name", 2)]) (g := gName 2) (tt := tYes) rfl sc_init.nd (pi_tup (pe_fld (pv 0) rfl)) (blkOk_by (N := ["self", "bounds", "name", "spot"]) (sc := defScope (cL 0)) (by decide +kernel)) (fun _ _ _ _ _ => pg_name (i := 2) sc_init.nd rfl (.inl rfl)) (fun _ _ _ _ _ => pts_nil) (fun _ _ _ _ _ => pe_dget (hu_of hr) (pv 1) (pv 2) (fun _ _ => rfl))) pa_nil)) rfl)
      (pss_one (ps_fld (pv 0) (pe_dc (own := [("name", 2), ("spot", 3)]) (g := gTup K 2 (gCons (gName 3) (gCons (gName 2) gNil))) (tt := tYes) rfl sc_init.nd (pi_enumT (by rfl) L.n_enum (pa_cons (pe_fld (pv 0) rfl) pa_nil)) (blkOk_by (N := ["self", "bounds", "name", "spot"]) (sc := defScope (cL 0)) (by decide +kernel)) (fun _ _ _ _ _ => pg_tup (by rfl) (pgs_cons (pg_name (i := 3) sc_init.nd rfl (.inl rfl)) (pgs_cons (pg_name (i := 2) sc_init.nd rfl (.inl rfl)) pgs_nil))) (fun _ _ _ _ _ => pts_nil) (fun _ _ _ _ _ => pv 2) (fun _ _ _ _ _ => pv 3)) rfl))))), ?_⟩
    have kl : (kvI ps).map (·.1) = (ps.map (·.1)).map Sum.inr := by
      unfold kvI
      rw [List.map_map, List.map_map]
      rfl
    refine ⟨_, rfl, a, ps, rfl, e0 _ _ ha, hne, Nat.le_trans hl (by decide), hps, fun H1 e1 => ⟨_, rfl, ?_⟩⟩
    refine iteF ?_
    have e01 := e0.trans e1
    refine ⟨_, rfl, a, _, _, rfl, Rd.of (e01 _ _ ha), kl, (by rw [List.length_map]; omega), fun ns l hperm hso hl1 => ?_⟩
    have hx2 : H1 a = some (.dK (kvI ps)) := e01 _ _ ha
    have hpH : H1 p = some (.ins C dx []) := e1 _ _ hp
    have nd : ns.Nodup := hperm.nodup_iff.mpr hnd
    have len : ns.length = ps.length := by rw [hperm.length_eq, List.length_map]
    have el := Ext.new (o := .lst (ns.map V.str)) hl1
    refine ⟨l, _, rfl, .inl ⟨SqL.of upd_same, fun n hn => ?_⟩⟩
    have en := Ext.new (o := .tup (ns.map V.str)) hn
    refine ⟨_, rfl, p, C, dx, [], rfl, (el.trans en) _ _ hpH, L.cl, L.nN, (by show 0 < 1000; decide), ?_⟩
    rw [put1]
    have e4 : Ext H0 (upd (upd (upd H1 l (.lst (ns.map V.str))) n (.tup (ns.map V.str))) p (.ins C dx [("_names", .ref n)])) := Ext.mut (e01.trans (el.trans en)) hp0
    have npn : p ≠ n := fun z => by
      have := (el _ _ hpH)
      rw [z, hn] at this
      cases this
    have h4n : (upd (upd (upd H1 l (.lst (ns.map V.str))) n (.tup (ns.map V.str))) p (.ins C dx [("_names", .ref n)])) n = some (.tup (ns.map V.str)) := by
      rw [upd_ne (Ne.symm npn)]
      exact upd_same
    have h4p : (upd (upd (upd H1 l (.lst (ns.map V.str))) n (.tup (ns.map V.str))) p (.ins C dx [("_names", .ref n)])) p = some (.ins C dx [("_names", .ref n)]) := upd_same
    generalize hH4 : upd (upd (upd H1 l (.lst (ns.map V.str))) n (.tup (ns.map V.str))) p (.ins C dx [("_names", .ref n)]) = H4 at *
    refine ⟨_, rfl, p, C, dx, _, _, rfl, h4p, L.cl, L.nN, rfl, n, rfl, ⟨_, SqT.of h4n⟩, fun D hD => ?_⟩
    have nm : ∀ i, i < ns.length → ns.getD i Str.empty ∈ ps.map (·.1) := fun i hi => by
      rw [List.getD_eq_getElem?_getD, List.getElem?_eq_getElem hi]
      exact hperm.mem_iff.mp (List.getElem_mem hi)
    have ml : (ns.map V.str).length = ns.length := List.length_map ..
    refine lc_det (w := walk_tup (xs := ns.map V.str)) (fun i => V.str (ns.getD i Str.empty)) (fun _ => true) (fun i => V.int (bdOf ps (ns.getD i Str.empty))) hD (by rw [ml]; exact Nat.le_trans (by omega) (show 60 ≤ sizeLine by decide)) ?_ (fun H' e => SqT.of (e _ _ h4n)) (fun _ _ _ _ _ h => tyes' h) ?_ ?_
    · rintro i Hi x H' hi ⟨rfl, hx⟩
      refine ⟨rfl, ?_⟩
      rw [List.getElem?_map] at hx
      rw [ml] at hi
      rw [List.getElem?_eq_getElem hi] at hx
      rw [List.getD_eq_getElem?_getD, List.getElem?_eq_getElem hi]
      exact (Option.some.inj hx).symm
    · intro i Hi hi _ e Q' q'
      rw [ml] at hi
      have hai : Hi a = some (.dK (kvI ps)) := (e4.trans e) _ _ ha
      have g := DGet.k (k := .inr (ns.getD i Str.empty)) hai
      rw [kvI_val (nm i hi)] at g
      exact ⟨_, rfl, _, rfl, a, _, rfl, g, q'⟩
    have e5 := Ext.new (o := .lst ((ns.map (bdOf ps)).map V.int)) hD
    have mm : (((List.range (ns.map V.str).length).filter fun _ => true).map fun i => V.int (bdOf ps (ns.getD i Str.empty))) = (ns.map (bdOf ps)).map V.int := by
      rw [ml, List.filter_eq_self.mpr (fun _ _ => rfl), List.map_map]
      exact range_getD (V.int ∘ bdOf ps) Str.empty ns
    rw [mm]
    refine ⟨D, _, rfl, .inl ⟨SqL.of upd_same, fun b hb => ?_⟩⟩
    have e6 := Ext.new (o := .tup ((ns.map (bdOf ps)).map V.int)) hb
    have e46 := e5.trans e6
    refine ⟨_, rfl, p, C, dx, _, rfl, e46 _ _ h4p, L.cl, L.nB, (by show 1 < 1000; decide), ?_⟩
    rw [put2]
    have e7 := Ext.mut (o := .ins C dx [("_names", .ref n), ("_bounds", .ref b)]) (e4.trans e46) hp0
    have npb : p ≠ b := fun z => by
      have := e5 _ _ h4p
      rw [z, hb] at this
      cases this
    have h7n : (upd (upd (upd H4 D (.lst ((ns.map (bdOf ps)).map V.int))) b (.tup ((ns.map (bdOf ps)).map V.int))) p (.ins C dx [("_names", .ref n), ("_bounds", .ref b)])) n = some (.tup (ns.map V.str)) := by
      rw [upd_ne (Ne.symm npn)]
      exact e46 _ _ h4n
    have h7b : (upd (upd (upd H4 D (.lst ((ns.map (bdOf ps)).map V.int))) b (.tup ((ns.map (bdOf ps)).map V.int))) p (.ins C dx [("_names", .ref n), ("_bounds", .ref b)])) b = some (.tup ((ns.map (bdOf ps)).map V.int)) := by
      rw [upd_ne (Ne.symm npb)]
      exact upd_same
    have h7p : (upd (upd (upd H4 D (.lst ((ns.map (bdOf ps)).map V.int))) b (.tup ((ns.map (bdOf ps)).map V.int))) p (.ins C dx [("_names", .ref n), ("_bounds", .ref b)])) p = some (.ins C dx [("_names", .ref n), ("_bounds", .ref b)]) := upd_same
    generalize upd (upd (upd H4 D (.lst ((ns.map (bdOf ps)).map V.int))) b (.tup ((ns.map (bdOf ps)).map V.int))) p (.ins C dx [("_names", .ref n), ("_bounds", .ref b)]) = H7 at *
    refine ⟨_, rfl, p, C, dx, _, _, rfl, h7p, L.cl, L.nN, rfl, n, _, rfl, SqT.of h7n, fun D2 hD2 => ?_⟩
    refine dc_it (w := walk_enumT (xs := ns.map V.str)) (fun i Hi => Ext H7 Hi ∧ Hi D2 = some (.dK (spots (ns.take i)))) ⟨Ext.new hD2, upd_same⟩ (fun i Hi _ h => SqT.of (h.1 _ _ h7n)) ?_ ?_
    · rintro i v Hi H' hi ⟨ei, hdi⟩ ⟨T', y1, y2, rfl, hT, rfl, g1, g2⟩
      rw [ml] at hi
      cases g1
      dsimp only at g2
      rw [List.getElem?_map, List.getElem?_eq_getElem hi] at g2
      cases g2
      have eT := Ext.new (o := .tup [.int (i : Int), .str ns[i]]) hT
      refine ⟨T', _, rfl, SqT.of upd_same, rfl, _, _, rfl, _, _, rfl, rfl, rfl, ?_⟩
      refine tyes ?_
      have hns : ns[i] ∉ ns.take i := fun z => by
        obtain ⟨j, hj, ej⟩ := List.getElem_of_mem z
        rw [List.length_take] at hj
        rw [List.getElem_take] at ej
        exact List.pairwise_iff_getElem.mp nd j i (by omega) hi (by omega) ej
      refine ⟨_, rfl, _, rfl, spots (ns.take i), .inr ns[i], rfl, eT _ _ hdi, ?_, Ext.mut (ei.trans eT) hD2, ?_⟩
      · rw [spots_len, List.length_take]
        exact Nat.lt_of_le_of_lt (show _ ≤ 60 by omega) (by decide)
      · rw [upd_same, putK_new (spots_none hns), List.take_add_one, List.getElem?_eq_getElem hi]
        show _ = some (HO.dK (spots (ns.take i ++ [ns[i]])))
        rw [spots_snoc, List.length_take, Nat.min_eq_left (Nat.le_of_lt hi)]
    · rintro H8 ⟨e8, h8d⟩
      rw [ml, List.take_length] at h8d
      refine ⟨_, rfl, p, C, dx, _, rfl, e8 _ _ h7p, L.cl, L.nS, (by show 2 < 1000; decide), ?_⟩
      rw [put3]
      have npD : p ≠ D2 := fun z => by rw [← z, h7p] at hD2; cases hD2
      refine q _ ns (Ext.mut (e7.trans e8) hp0) hperm hso ⟨dx, n, b, D2, upd_same, ?_, ?_, ?_, List.length_map .., nd, by omega, ?_, ?_⟩
      · rw [upd_ne (Ne.symm npn)]; exact e8 _ _ h7n
      · rw [upd_ne (Ne.symm npb)]; exact e8 _ _ h7b
      · rw [upd_ne (Ne.symm npD)]; exact h8d
      · intro x hx
        obtain ⟨r, hr1, hr2, _⟩ := bd_mem (hperm.mem_iff.mp hx)
        rw [← hr2]
        exact (hps r hr1).1
      · intro i hi
        obtain ⟨x, hx, rfl⟩ := List.mem_map.mp hi
        obtain ⟨r, hr1, _, hr3⟩ := bd_mem (hperm.mem_iff.mp hx)
        rw [← hr3]
        exact (hps r hr1).2
end
end K25

set_option Elab.async false
set_option linter.all false
set_option maxRecDepth 100000
set_option maxHeartbeats 4000000
namespace K25
open PySem PySem.Spec PyProof.Rows L2 Ol
open TL (tl)
theorem DqAll_get {H : Hp} : ∀ {xs : List V} {ds : List PyData}, DqAll H xs ds → ∀ (i : Nat) (d : PyData), ds[i]? = some d → ∃ v, xs[i]? = some v ∧ Dq H v d
  | _, _, .nil, i, d, h => by simp at h
  | _, _, .cons a t, 0, d, h => by
    cases h
    exact ⟨_, rfl, a⟩
  | _, _, .cons a t, i + 1, d, h => DqAll_get t i d h
theorem DqAll_set {H : Hp} : ∀ {xs : List V} {ds : List PyData}, DqAll H xs ds → ∀ (i : Nat) (v : V) (d : PyData), Dq H v d → DqAll H (xs.set i v) (ds.set i d)
  | _, _, .nil, i, v, d, h => .nil
  | _, _, .cons a t, 0, v, d, h => .cons h t
  | _, _, .cons a t, i + 1, v, d, h => .cons a (DqAll_set t i v d h)
/-- a content, as data -/
def ctL (cs : List (Nat × Bool)) : List PyData := cs.map fun s => stD s.1 s.2
def ctD (cs : List (Nat × Bool)) : PyData := .tuple (ctL cs)
theorem ct_inv {H : Hp} {v : V} {cs : List (Nat × Bool)} (h : Dq H v (ctD cs)) : ∃ a xs, v = .ref a ∧ H a = some (.tup xs) ∧ DqAll H xs (ctL cs) ∧ xs.length = cs.length := by
  obtain ⟨a, xs, ds, rfl, e, h1, h2⟩ := dq_tup h rfl
  unfold ctD at e
  cases e
  exact ⟨a, xs, rfl, h1, h2, by rw [h2.len]; unfold ctL; rw [List.length_map]⟩
section
variable {P : Program} {w : World} {K : PySem.W.Frag} {mg : Str → Option Value} {base : Heap} {C : Addr}
/-! ### thing in lanes -/
def spHas (C : Addr) : Sp := fun vs H Q _ => ∃ (p : Addr) (ns : List Str) (bs : List Int) (x : Str), vs = [.ref p, .str x] ∧ LanesAt C H p ns bs ∧ isNameS x = true ∧
  ∀ H', Ext H H' → Q (.bl (decide (x ∈ ns))) H'
theorem sc_has : FnScope ["self", "thing"] ["self", "thing"] (defScope (cL 4)) := ⟨rfl, rfl, rfl, by decide +kernel, rfl, by decide +kernel, by decide +kernel⟩
theorem spots_mem {ns : List Str} (hd : ns.Nodup) (x : Str) : (valV (spots ns) (.inr x)).isSome = decide (x ∈ ns) := by
  by_cases h : x ∈ ns
  · obtain ⟨i, hi, e⟩ := List.getElem_of_mem h
    rw [decide_eq_true h, ← e, spots_val hd hi]
    rfl
  · rw [decide_eq_false h, spots_none h]
    rfl
theorem ok_has {f : Addr} {fd : FuncData} (F : Fun K "__contains__" "Lanes.__contains__" (cL 4) f fd) (T : BT mg) (L : LT K mg C) :
    FnOk P w K mg base CX0 2 f fd ["self", "thing"] (spHas C) := by
  refine F.ok sc_has (fun vs H Q E h => ?_) (fun cdv A outer s H vs Q E hr h => ?_)
  · obtain ⟨p, ns, bs, x, rfl, _⟩ := h
    rfl
  · obtain ⟨p, ns, bs, x, rfl, hL, hx, q⟩ := h
    refine ⟨_, (pss_one (ps_ret (pe_and (pe_callB call_isi (by rfl) T.n_isinstance (by decide +kernel) (pa_cons (pv 1) (pa_cons (pe_bltn (v := .ty "str") (by rfl) T.n_str (by decide +kernel) rfl) pa_nil))) (pe_one (pe_cmp (pc_din (hu_of hr) (pv 1) (pe_fld (pv 0) rfl)) rfl))))), ?_⟩
    obtain ⟨dx, n, b, sp, h1, h2, h3, h4, _, hnd, _⟩ := id hL
    refine ⟨_, rfl, _, _, _, _, _, rfl, .ty "str", ty_of (.str x), ki_str (.str x), _, rfl, ?_⟩
    refine ite2 (fun _ => ?_) (fun g => absurd rfl g)
    refine ⟨_, rfl, _, rfl, p, C, dx, _, _, rfl, h1, L.cl, L.nS, lf_s _ _ _, sp, _, rfl, DGet.k (k := Sum.inr x) h4, ?_⟩
    rw [spots_mem hnd]
    exact q _ (Ext.refl H)
/-! ### the index of a lane -/
def spSpot (C : Addr) : Sp := fun vs H Q _ => ∃ (p : Addr) (ns : List Str) (bs : List Int) (i : Nat) (hi : i < ns.length), vs = [.ref p, .str ns[i]] ∧ LanesAt C H p ns bs ∧
  ∀ H', Ext H H' → Q (.int (i : Int)) H'
theorem sc_spot : FnScope ["self", "lane"] ["self", "lane"] (defScope (cL 7)) := ⟨rfl, rfl, rfl, by decide +kernel, rfl, by decide +kernel, by decide +kernel⟩
theorem ok_spot {f : Addr} {fd : FuncData} (F : Fun K "_spot" "Lanes._spot" (cL 7) f fd) (L : LT K mg C)
    (M : Cm P w K mg base C 2 "__contains__" ["self", "thing"] (spHas C)) :
    FnOk P w K mg base CX0 3 f fd ["self", "lane"] (spSpot C) := by
  refine F.ok sc_spot (fun vs H Q E h => ?_) (fun cdv A outer s H vs Q E hr h => ?_)
  · obtain ⟨p, ns, bs, i, hi, rfl, _⟩ := h
    rfl
  · obtain ⟨p, ns, bs, i, hi, rfl, hL, q⟩ := h
    refine ⟨_, (pss_cons (ps_if (pt_cmpR (op_notInM M (hr.mono (by decide))) (pv 1) (pv 0) (by rfl)) (pss_one ps_never) pss_nil)
      (pss_one (ps_ret (pe_dget (hu_of hr) (pe_fld (pv 0) rfl) (pv 1) (fun _ _ => rfl))))), ?_⟩
    have hm : ns[i] ∈ ns := List.getElem_mem hi
    obtain ⟨dx, n, b, sp, h1, h2, h3, h4, hl, hnd, hl2, hns, hbs⟩ := id hL
    refine ⟨_, rfl, _, rfl, p, dx, _, rfl, h1, p, ns, bs, _, rfl, hL, hns _ hm, fun H1 e1 => ⟨_, rfl, ?_⟩⟩
    rw [decide_eq_true hm]
    refine ⟨_, rfl, ?_⟩
    refine iteF ?_
    refine ⟨_, rfl, p, C, dx, _, _, rfl, e1 _ _ h1, L.cl, L.nS, lf_s _ _ _, _, rfl, sp, _, rfl, ?_, q _ e1⟩
    have g := DGet.k (k := Sum.inr ns[i]) (e1 _ _ h4)
    rw [spots_val hnd hi] at g
    exact g
/-! ### the state behind an arm -/
def spBeh (C : Addr) : Sp := fun vs H Q _ => ∃ (p : Addr) (ns : List Str) (bs : List Int) (v : V) (cs : List (Nat × Bool)) (word : Str) (i : Nat) (hi : i < ns.length) (st : Nat × Bool) (bd : Int), vs = [.ref p, v, .str word, .int (i : Int)] ∧ LanesAt C H p ns bs ∧ Dq H v (ctD cs) ∧
  cs[i]? = some st ∧ bs[i]? = some bd ∧ ∀ (r : V) (H' : Hp), Ext H H' → Dq H' r (optD (beh word st.1 st.2 bd)) → Q r H'
theorem sc_beh : FnScope ["self", "content", "word", "spot"] ["self", "content", "word", "spot"] (defScope (cL 8)) := ⟨rfl, rfl, rfl, by decide +kernel, rfl, by decide +kernel, by decide +kernel⟩
theorem ok_beh {f : Addr} {fd : FuncData} (F : Fun K "_behind" "Lanes._behind" (cL 8) f fd) (L : LT K mg C)
    (C7 : Ca P w K mg base 1 "state_behind" ["word", "state", "bound"] spBehind) :
    FnOk P w K mg base CX0 2 f fd ["self", "content", "word", "spot"] (spBeh C) := by
  refine F.ok sc_beh (fun vs H Q E h => ?_) (fun cdv A outer s H vs Q E hr h => ?_)
  · obtain ⟨p, ns, bs, v, cs, word, i, hi, st, bd, rfl, _⟩ := h
    rfl
  · obtain ⟨p, ns, bs, v, cs, word, i, hi, st, bd, rfl, hL, hv, hcs, hb, q⟩ := h
    refine ⟨_, (pss_one (ps_ret (pe_ca C7 (hr.mono (by decide)) (by rfl) (pa_cons (pv 2) (pa_cons (pe_ix ix_tup (pv 1) (pv 3) (fun _ _ => rfl)) (pa_cons (pe_ix ix_tup (pe_fld (pv 0) rfl) (pv 3) (fun _ _ => rfl)) pa_nil)))))), ?_⟩
    obtain ⟨dx, n, b, sp, h1, h2, h3, h4, hl, hnd, hl2, hns, hbs⟩ := id hL
    obtain ⟨a, xs, rfl, ha, hxs, hxl⟩ := ct_inv hv
    obtain ⟨u, hu, du⟩ := DqAll_get hxs i (stD st.1 st.2) (by unfold ctL; rw [List.getElem?_map, hcs]; rfl)
    refine ⟨_, rfl, _, rfl, _, rfl, a, _, _, _, rfl, rfl, SqT.of ha, atI_nat hu, _, rfl, p, C, dx, _, _, rfl, h1, L.cl, L.nB, lf_b _ _ _, _, rfl, b, _, _, _, rfl, rfl, SqT.of h3, atI_nat (by rw [List.getElem?_map, hb]; rfl), word, u, st.1, st.2, bd, rfl, du, q⟩
end
end K25

set_option Elab.async false
set_option linter.all false
set_option maxRecDepth 100000
set_option maxHeartbeats 4000000
namespace K25
open PySem PySem.Spec PyProof.Rows L2 Ol
open TL (tl)
section
variable {P : Program} {w : World} {K : PySem.W.Frag} {mg : Str → Option Value} {base : Heap} {C S : Addr}
/-! ### is_open -/
def spOpen (C : Addr) : Sp := fun vs H Q _ => ∃ (p : Addr) (ns : List Str) (bs : List Int) (v : V) (cs : List (Nat × Bool)) (word : Str) (i : Nat) (hi : i < ns.length) (st : Nat × Bool) (bd : Int), vs = [.ref p, v, .str word, .str ns[i]] ∧ LanesAt C H p ns bs ∧ Dq H v (ctD cs) ∧
  cs[i]? = some st ∧ bs[i]? = some bd ∧ ∀ (H' : Hp), Ext H H' → Q (.bl (beh word st.1 st.2 bd).isSome) H'
theorem sc_open : FnScope ["self", "content", "word", "lane"] ["self", "content", "word", "lane"] (defScope (cL 13)) := ⟨rfl, rfl, rfl, by decide +kernel, rfl, by decide +kernel, by decide +kernel⟩
theorem opt_non {H : Hp} {r : V} {o : Option (Nat × Bool)} (h : Dq H r (optD o)) : (!decide (r = V.non)) = o.isSome := by
  cases o with
  | none =>
    have h' : Dq H r .none := h
    cases h'
    rfl
  | some s =>
    obtain ⟨a, rfl, _⟩ := st_inv (show Dq H r (stD s.1 s.2) from h)
    rfl
theorem ok_open {f : Addr} {fd : FuncData} (F : Fun K "is_open" "Lanes.is_open" (cL 13) f fd) (L : LT K mg C)
    (MS : Cm P w K mg base C 3 "_spot" ["self", "lane"] (spSpot C)) (MB : Cm P w K mg base C 2 "_behind" ["self", "content", "word", "spot"] (spBeh C)) :
    FnOk P w K mg base CX0 4 f fd ["self", "content", "word", "lane"] (spOpen C) := by
  refine F.ok sc_open (fun vs H Q E h => ?_) (fun cdv A outer s H vs Q E hr h => ?_)
  · obtain ⟨p, ns, bs, v, cs, word, i, hi, st, bd, rfl, _⟩ := h
    rfl
  · obtain ⟨p, ns, bs, v, cs, word, i, hi, st, bd, rfl, hL, hv, hcs, hb, q⟩ := h
    refine ⟨_, (pss_one (ps_ret (pe_cmpR op_notN (pe_cm MB L.cl (hr.mono (by decide)) (pv 0) (pa_cons (pv 1) (pa_cons (pv 2) (pa_cons (pe_cm MS L.cl (hr.mono (by decide)) (pv 0) (pa_cons (pv 3) pa_nil)) pa_nil)))) pe_non (nomark _)))), ?_⟩
    obtain ⟨dx, n, b, sp, h1, h2, h3, h4, hl, hnd, hl2, hns, hbs⟩ := id hL
    refine ⟨_, rfl, p, dx, _, rfl, h1, lf_no _ _ _ (by decide +kernel) (by decide +kernel) (by decide +kernel), _, rfl, _, rfl, _, rfl, p, dx, _, rfl, h1, lf_no _ _ _ (by decide +kernel) (by decide +kernel) (by decide +kernel), _, rfl, p, ns, bs, i, hi, rfl, hL, fun H1 e1 => ?_⟩
    refine ⟨p, ns, bs, v, cs, word, i, hi, st, bd, rfl, hL.up e1, hv.up e1, hcs, hb, fun r H2 e2 hr2 => ⟨rfl, ?_⟩⟩
    rw [opt_non hr2]
    exact q _ (e1.trans e2)
/-! ### done -/
def spDone (C : Addr) : Sp := fun vs H Q _ => ∃ (p : Addr) (ns : List Str) (bs : List Int) (v : V) (cs : List (Nat × Bool)) (word : Str) (i : Nat) (hi : i < ns.length) (st : Nat × Bool) (bd : Int), vs = [.ref p, v, .str word, .str ns[i]] ∧ LanesAt C H p ns bs ∧ Dq H v (ctD cs) ∧
  cs[i]? = some st ∧ bs[i]? = some bd ∧ cs.length ≤ 1000 ∧
  ∃ st', beh word st.1 st.2 bd = some st' ∧ ∀ (r : V) (H' : Hp), Ext H H' → Dq H' r (ctD (cs.set i st')) → Q r H'
theorem sc_done : FnScope ["self", "content", "word", "lane", "spot", "state"] ["self", "content", "word", "lane"] (defScope (cL 14)) := ⟨rfl, rfl, rfl, by decide +kernel, rfl, by decide +kernel, by decide +kernel⟩
theorem ok_done {f : Addr} {fd : FuncData} (F : Fun K "done" "Lanes.done" (cL 14) f fd) (L : LT K mg C)
    (MS : Cm P w K mg base C 3 "_spot" ["self", "lane"] (spSpot C)) (MB : Cm P w K mg base C 2 "_behind" ["self", "content", "word", "spot"] (spBeh C))
    (C8 : Ca P w K mg base 1 "replaced" ["row", "index", "item"] spReplaced) :
    FnOk P w K mg base CX0 4 f fd ["self", "content", "word", "lane"] (spDone C) := by
  refine F.ok sc_done (fun vs H Q E h => ?_) (fun cdv A outer s H vs Q E hr h => ?_)
  · obtain ⟨p, ns, bs, v, cs, word, i, hi, st, bd, rfl, _⟩ := h
    rfl
  · obtain ⟨p, ns, bs, v, cs, word, i, hi, st, bd, rfl, hL, hv, hcs, hb, hz, s', hbe, q1⟩ := h
    refine ⟨_, (pss_cons (ps_set (i := 4) sc_done.nd rfl (.inl rfl) (pe_cm MS L.cl (hr.mono (by decide)) (pv 0) (pa_cons (pv 3) pa_nil)))
      (pss_cons (ps_set (i := 5) sc_done.nd rfl (.inl rfl) (pe_cm MB L.cl (hr.mono (by decide)) (pv 0) (pa_cons (pv 1) (pa_cons (pv 2) (pa_cons (pv 4) pa_nil)))))
      (pss_cons (ps_if (pt_cmpR op_isN (pv 5) pe_non (nomark _)) (pss_one ps_never) pss_nil)
      (pss_one (ps_ret (pe_ca C8 (hr.mono (by decide)) (by rfl) (pa_cons (pv 1) (pa_cons (pv 4) (pa_cons (pv 5) pa_nil))))))))), ?_⟩
    obtain ⟨dx, n, b, sp, h1, h2, h3, h4, hl, hnd, hl2, hns, hbs⟩ := id hL
    refine ⟨_, rfl, p, dx, _, rfl, h1, lf_no _ _ _ (by decide +kernel) (by decide +kernel) (by decide +kernel), _, rfl, p, ns, bs, i, hi, rfl, hL, fun H1 e1 => ?_⟩
    refine ⟨_, rfl, p, dx, _, rfl, e1 _ _ h1, lf_no _ _ _ (by decide +kernel) (by decide +kernel) (by decide +kernel), _, rfl, _, rfl, _, rfl, p, ns, bs, v, cs, word, i, hi, st, bd, rfl, hL.up e1, hv.up e1, hcs, hb, fun r H2 e2 hr2 => ?_⟩
    have e12 := e1.trans e2
    refine ⟨_, rfl, rfl, _, rfl, ?_⟩
    rw [hbe] at hr2
    obtain ⟨a', rfl, _⟩ := st_inv (show Dq H2 r (stD s'.1 s'.2) from hr2)
    refine iteF ?_
    obtain ⟨a, xs, rfl, ha, hxs, hxl⟩ := ct_inv hv
    have hi2 : i < cs.length := (List.getElem?_eq_some_iff.mp hcs).1
    refine ⟨_, rfl, _, rfl, _, rfl, a, xs, i, _, rfl, e12 _ _ ha, by omega, by omega, fun p' H3 e3 h3 => ?_⟩
    refine q1 _ _ (e12.trans e3) (.tup h3 ?_)
    have z := DqAll_set (DqAll.up (e12.trans e3) hxs) i (.ref a') (stD s'.1 s'.2) (Dq.up e3 hr2)
    unfold ctL at z ⊢
    rw [List.map_set]
    exact z
end
end K25

set_option Elab.async false
set_option linter.all false
set_option maxRecDepth 100000
set_option maxHeartbeats 4000000
namespace K25
open PySem PySem.Spec PyProof.Rows L2 Ol
open TL (tl)
-- a
section
variable {P : Program} {w : World} {K : PySem.W.Frag} {mg : Str → Option Value} {base : Heap}
abbrev s__law_take : Stmt := (topS 43)
theorem sc__law_take : FnScope ["_law_bag_here", "_law_many", "_law_cell", "_law_mixed_here", "_law_value", "_law_begin", "_law_second"] ["_law_bag_here", "_law_many"] (defScope s__law_take) := ⟨rfl, rfl, rfl, by decide +kernel, rfl, by decide +kernel, by decide +kernel⟩

theorem pos_of {j : Int} (h : 0 < j) : 0 < j := h
theorem upd_self {H : Hp} {a : Addr} {o : HO} (h : H a = some o) : upd H a o = H := by
  funext b
  by_cases z : b = a
  · rw [z, upd_same, h]
  · rw [upd_ne z]
theorem ok_take {f : Addr} {fd : FuncData} (F : Fun K "_law_take" "_law_take" s__law_take f fd) (T : BT mg) :
    FnOk P w K mg base CX0 1 f fd ["_law_bag_here", "_law_many"] spTake0 := by
  refine F.ok sc__law_take (fun vs H Q E h => ?_) (fun cdv A outer s H vs Q E hr h => ?_)
  · obtain ⟨a, c, b0, b1, b2, ns, m, rfl, _⟩ := h
    rfl
  · obtain ⟨a, c, b0, b1, b2, ns, m, rfl, ha, hc, hns, bi, hm, hm2, q⟩ := h
    have hca : c ≠ a := by
      intro z
      rw [z, ha] at hc
      have e : bagL b0 b1 b2 c = ns.map V.int := by
        injection hc with hc
        injection hc
      have e3 : (bagL b0 b1 b2 c)[3]? = (ns.map V.int)[3]? := by rw [e]
      rw [List.getElem?_map] at e3
      have e4 : some (V.ref c) = (ns[3]?).map V.int := e3
      cases q3 : ns[3]? with
      | none =>
        rw [q3] at e4
        cases e4
      | some z3 =>
        rw [q3] at e4
        cases e4
    refine cutB (fun σ H' => ∃ x0 x1 x2 v2 v3, BagI x0 x1 x2 ∧ σ = [some (.ref a), some (.int m), v2, v3, none, none, none] ∧ H' = upd H a (.lst (bagL x0 x1 x2 c)))
      ⟨_, (pss_cons (ps_if (pt_cmpR op_gt (pe_ix ix_list (pv 0) pe_int (fun _ _ => rfl)) pe_int (nomark _))
      (pss_cons (ps_set (i := 4) sc__law_take.nd rfl (.inl rfl) (pe_op op_mod (pe_callTy call_int1 (by rfl) T.n_int (by decide +kernel) (pa_cons (pe_ix ix_list (pv 0) pe_int (fun _ _ => rfl)) pa_nil)) (pv 1)))
      (pss_cons (ps_asg (pe_op op_fdiv (pe_ix ix_list (pv 0) pe_int (fun _ _ => rfl)) (pv 1)) (pg_sub (pv 0) pe_int set_list))
      (pss_one (ps_ret (pv 4)))))
      pss_nil)
    (pss_cons (ps_set (i := 5) sc__law_take.nd rfl (.inl rfl) (pe_op op_mod (pe_callTy call_int1 (by rfl) T.n_int (by decide +kernel) (pa_cons (pe_op op_mul (pe_op op_add (pe_ix ix_list (pv 0) pe_int (fun _ _ => rfl)) pe_int) pe_int) pa_nil)) pe_int))
    (pss_cons (ps_set (i := 6) sc__law_take.nd rfl (.inl rfl) (pe_op op_mod (pe_callTy call_int1 (by rfl) T.n_int (by decide +kernel) (pa_cons (pe_op op_mul (pe_op op_mod (pe_callTy call_int1 (by rfl) T.n_int (by decide +kernel) (pa_cons (pe_op op_mul (pv 5) (pv 5)) pa_nil)) pe_int) pe_int) pa_nil)) pe_int))
    (pss_cons (ps_if (pt_cmpR op_gt (pv 1) pe_int (nomark _))
      (pss_one (ps_ret (pe_op op_mod (pe_callTy call_int1 (by rfl) T.n_int (by decide +kernel) (pa_cons (pe_op op_add (pe_op op_mul (pv 6) pe_int) (pv 5)) pa_nil)) (pv 1))))
      pss_nil)
    (pss_one (ps_ret (pe_op op_mod (pe_callTy call_int1 (by rfl) T.n_int (by decide +kernel) (pa_cons (pe_op op_fdiv (pv 6) pe_int) pa_nil)) (pv 1)))))))), ?_⟩
      ⟨_, (ps_if (pt_cmpR op_eq (pe_ix ix_list (pv 0) pe_int (fun _ _ => rfl)) pe_int (nomark _))
      (pss_cons (ps_set (i := 2) sc__law_take.nd rfl (.inl rfl) pe_int)
      (pss_cons (ps_if (pt_cmpR op_lt (pe_ix ix_list (pv 0) pe_int (fun _ _ => rfl)) (pe_callB call_len_seq (by rfl) T.n_len (by decide +kernel) (pa_cons (pe_ix ix_list (pv 0) pe_int (fun _ _ => rfl)) pa_nil)) (nomark _))
        (pss_one (ps_set (i := 2) sc__law_take.nd rfl (.inl rfl) (pe_ix ix_list (pe_ix ix_list (pv 0) pe_int (fun _ _ => rfl)) (pe_ix ix_list (pv 0) pe_int (fun _ _ => rfl)) (fun _ _ => rfl))))
        pss_nil)
      (pss_cons (ps_augS (pv 0) pe_int get_list pe_int ip_add set_list)
      (pss_cons (ps_if (pt_cmpR op_ge (pv 2) pe_int (nomark _))
        (pss_one (ps_asg (pv 2) (pg_sub (pv 0) pe_int set_list)))
        pss_nil)
      (pss_cons (ps_set (i := 3) sc__law_take.nd rfl (.inl rfl) (pe_op op_add (pe_op op_add (pe_op op_mul (pe_ix ix_list (pv 0) pe_int (fun _ _ => rfl)) pe_int) (pe_op op_mod (pe_callTy call_int1 (by rfl) T.n_int (by decide +kernel) (pa_cons (pv 2) pa_nil)) pe_int)) (pe_op op_mul pe_int (pe_ix ix_list (pv 0) pe_int (fun _ _ => rfl)))))
      (pss_one (ps_asg (pe_op op_mod (pe_callTy call_int1 (by rfl) T.n_int (by decide +kernel) (pa_cons (pv 3) pa_nil)) pe_int) (pg_sub (pv 0) pe_int set_list))))))))
      pss_nil), fun nx hn => ?_⟩
    · rintro σ H' ⟨x0, x1, x2, v2, v3, xi, rfl, rfl⟩
      have hL : SqL K (upd H a (.lst (bagL x0 x1 x2 c))) a (bagL x0 x1 x2 c) := SqL.of upd_same
      have p0 := xi.h0
      have p1 := xi.h1
      have p1' := xi.h1'
      -- if bag[0] > 0
      refine ⟨_, rfl, a, _, _, _, rfl, rfl, hL, rfl, _, _, rfl, rfl, _, rfl, ?_⟩
      refine ite2 (fun h0 => ?_) (fun h0 => ?_)
      · refine ⟨_, rfl, a, _, _, _, rfl, rfl, hL, rfl, .inl ⟨_, rfl, _, rfl, _, _, rfl, rfl, hm, ?_⟩⟩
        refine ⟨_, rfl, a, _, _, _, rfl, rfl, hL, rfl, _, rfl, _, _, rfl, rfl, ⟨hm, hm2⟩, _, rfl, a, _, _, 0, rfl, rfl, upd_same, rfl, ?_⟩
        refine ⟨_, rfl, ?_⟩
        have z := q (x0 % m) (x0 / m) x1 x2 (Int.emod_nonneg _ (by omega)) (Int.emod_lt_of_pos _ hm) ⟨Int.ediv_nonneg p0 (by omega), xi.h1, xi.h1', xi.h2⟩
        have e : upd (upd H a (.lst (bagL x0 x1 x2 c))) a (.lst ((bagL x0 x1 x2 c).set 0 (.int (x0 / m)))) = upd H a (.lst (bagL (x0 / m) x1 x2 c)) := upd_upd
        rw [e]
        exact z
      · -- begin, second
        refine ⟨_, rfl, a, _, _, _, rfl, rfl, hL, rfl, _, _, rfl, rfl, _, _, rfl, rfl, .inl ⟨by omega, by omega⟩, .inl ⟨_, rfl, _, _, rfl, rfl, pos_of (by decide), ?_⟩⟩
        have g1 : 0 ≤ ((x1 + 1) * 39373) % 1000000007 := Int.emod_nonneg _ (by decide)
        have g2 : ((x1 + 1) * 39373) % 1000000007 < 1000000007 := Int.emod_lt_of_pos _ (by decide)
        generalize ((x1 + 1) * 39373) % 1000000007 = bg at g1 g2 ⊢
        refine ⟨_, rfl, _, rfl, _, _, rfl, rfl, .inl ⟨by omega, by omega⟩, .inl ⟨_, rfl, _, _, rfl, rfl, pos_of (by decide), ?_⟩⟩
        have g3 : 0 ≤ (bg * bg) % 998244353 := Int.emod_nonneg _ (by decide)
        have g4 : (bg * bg) % 998244353 < 998244353 := Int.emod_lt_of_pos _ (by decide)
        generalize (bg * bg) % 998244353 = sq at g3 g4 ⊢
        refine ⟨_, _, rfl, rfl, .inl ⟨by omega, by omega⟩, .inl ⟨_, rfl, _, _, rfl, rfl, pos_of (by decide), ?_⟩⟩
        have g5 : 0 ≤ (sq * 30011) % 998244353 := Int.emod_nonneg _ (by decide)
        have g6 : (sq * 30011) % 998244353 < 998244353 := Int.emod_lt_of_pos _ (by decide)
        generalize (sq * 30011) % 998244353 = sc at g5 g6 ⊢
        refine ⟨_, rfl, _, _, rfl, rfl, _, rfl, ?_⟩
        refine ite2 (fun h1 => ?_) (fun h1 => ?_)
        · refine ⟨_, rfl, _, _, rfl, rfl, .inl ⟨by omega, by omega⟩, _, rfl, _, _, rfl, rfl, .inl ⟨_, rfl, _, rfl, _, _, rfl, rfl, hm, ?_⟩⟩
          exact q _ x0 x1 x2 (Int.emod_nonneg _ (by omega)) (Int.emod_lt_of_pos _ hm) xi
        · refine ⟨_, rfl, _, _, rfl, rfl, ⟨by decide, by decide⟩, .inl ⟨_, rfl, _, rfl, _, _, rfl, rfl, hm, ?_⟩⟩
          exact q _ x0 x1 x2 (Int.emod_nonneg _ (by omega)) (Int.emod_lt_of_pos _ hm) xi
    · -- the cell
      have sa : SqL K H a (bagL b0 b1 b2 c) := SqL.of ha
      have p1 := bi.h1
      have p1' := bi.h1'
      have p2 := bi.h2
      refine ⟨_, rfl, a, _, _, _, rfl, rfl, sa, rfl, rfl, _, rfl, ?_⟩
      refine ite2 (fun h0 => ?_) (fun h0 => ?_)
      · refine ⟨_, rfl, a, _, _, _, rfl, rfl, sa, rfl, _, rfl, a, _, _, _, rfl, rfl, sa, rfl, c, _, rfl, .inl (SqL.of hc), _, _, rfl, rfl, _, rfl, ?_⟩
        refine ite2 (fun h1 => ?_) (fun h1 => ?_)
        · have h1' : b2 < (ns.length : Int) := by
            have z := of_decide_eq_true h1
            rwa [List.length_map] at z
          obtain ⟨j, ej⟩ : ∃ j : Nat, b2 = (j : Int) := ⟨b2.toNat, by omega⟩
          have hj : j < ns.length := by omega
          have hz : 0 ≤ ns[j] := hns _ (List.getElem_mem hj)
          refine ⟨_, rfl, a, _, _, _, rfl, rfl, sa, rfl, _, rfl, a, _, _, _, rfl, rfl, sa, rfl, c, _, _, V.int ns[j], rfl, rfl, SqL.of hc, at_of (j := j) ej (by rw [List.getElem?_map, List.getElem?_eq_getElem hj]; rfl), ?_⟩
          refine ⟨_, rfl, a, _, 2, _, rfl, rfl, sa, rfl, _, _, rfl, rfl, a, _, _, 2, rfl, rfl, ha, rfl, ?_⟩
          refine ⟨_, rfl, _, _, rfl, rfl, _, rfl, ?_⟩
          refine ite2 (fun h2 => ?_) (fun h2 => ?_)
          · refine ⟨_, rfl, _, rfl, a, _, _, 0, rfl, rfl, upd_same, rfl, ?_⟩
            refine ⟨_, rfl, a, _, _, _, rfl, rfl, SqL.of upd_same, rfl, _, _, rfl, rfl, .inl ⟨by omega, by omega⟩, _, rfl, .inl ⟨_, rfl, _, _, rfl, rfl, pos_of (by decide), _, _, rfl, rfl, _, rfl, a, _, _, _, rfl, rfl, SqL.of upd_same, rfl, _, _, rfl, rfl, .inl ⟨by decide, by decide⟩, _, _, rfl, rfl, ?_⟩⟩
            refine ⟨_, rfl, .inl ⟨_, rfl, _, _, rfl, rfl, pos_of (by decide), _, rfl, a, _, _, 1, rfl, rfl, upd_same, rfl, ?_⟩⟩
            exact hn _ _ ⟨_, _, b2 + 1, _, _, ⟨hz, Int.emod_nonneg _ (by decide), Int.emod_lt_of_pos _ (by decide), by omega⟩, rfl, by rw [upd_upd, upd_upd]; rfl⟩
          · refine ⟨_, rfl, a, _, _, _, rfl, rfl, SqL.of upd_same, rfl, _, _, rfl, rfl, .inl ⟨by omega, by omega⟩, _, rfl, .inl ⟨_, rfl, _, _, rfl, rfl, pos_of (by decide), _, _, rfl, rfl, _, rfl, a, _, _, _, rfl, rfl, SqL.of upd_same, rfl, _, _, rfl, rfl, .inl ⟨by decide, by decide⟩, _, _, rfl, rfl, ?_⟩⟩
            refine ⟨_, rfl, .inl ⟨_, rfl, _, _, rfl, rfl, pos_of (by decide), _, rfl, a, _, _, 1, rfl, rfl, upd_same, rfl, ?_⟩⟩
            exact hn _ _ ⟨_, _, b2 + 1, _, _, ⟨bi.h0, Int.emod_nonneg _ (by decide), Int.emod_lt_of_pos _ (by decide), by omega⟩, rfl, by rw [upd_upd]; rfl⟩
        · refine ⟨_, rfl, a, _, 2, _, rfl, rfl, sa, rfl, _, _, rfl, rfl, a, _, _, 2, rfl, rfl, ha, rfl, ?_⟩
          refine ⟨_, rfl, _, _, rfl, rfl, _, rfl, ?_⟩
          refine ite2 (fun h2 => ?_) (fun h2 => ?_)
          · exact absurd (of_decide_eq_true h2) (by decide)
          · refine ⟨_, rfl, a, _, _, _, rfl, rfl, SqL.of upd_same, rfl, _, _, rfl, rfl, .inl ⟨by omega, by omega⟩, _, rfl, .inl ⟨_, rfl, _, _, rfl, rfl, pos_of (by decide), _, _, rfl, rfl, _, rfl, a, _, _, _, rfl, rfl, SqL.of upd_same, rfl, _, _, rfl, rfl, .inl ⟨by decide, by decide⟩, _, _, rfl, rfl, ?_⟩⟩
            refine ⟨_, rfl, .inl ⟨_, rfl, _, _, rfl, rfl, pos_of (by decide), _, rfl, a, _, _, 1, rfl, rfl, upd_same, rfl, ?_⟩⟩
            exact hn _ _ ⟨_, _, b2 + 1, _, _, ⟨bi.h0, Int.emod_nonneg _ (by decide), Int.emod_lt_of_pos _ (by decide), by omega⟩, rfl, by rw [upd_upd]; rfl⟩
      · exact hn _ _ ⟨b0, b1, b2, none, none, bi, rfl, (upd_self ha).symm⟩
end

-- b
section
variable {P : Program} {w : World} {K : PySem.W.Frag} {mg : Str → Option Value} {base : Heap}

abbrev s_is_integer : Stmt := (topS 15)
theorem sc_is_integer : FnScope ["thing"] ["thing"] (defScope s_is_integer) := ⟨rfl, rfl, rfl, by decide +kernel, rfl, by decide +kernel, by decide +kernel⟩
theorem ok_is_integer {f : Addr} {fd : FuncData} (F : Fun K "is_integer" "is_integer" s_is_integer f fd) (T : BT mg) :
    FnOk P w K mg base CX0 1 f fd ["thing"] (spPred Any isIntD) := by
  refine F.ok sc_is_integer (fun vs H Q E h => ?_) (fun cdv A outer s H vs Q E hr h => ?_)
  · obtain ⟨v, d, rfl, _⟩ := h
    rfl
  · obtain ⟨v, d, rfl, hd, hz, q⟩ := h
    have q' := q H (Ext.refl H)
    rw [isIntD_eq] at q'
    refine ⟨_, (pss_one (ps_ret (pe_and (pe_callB call_isi (by rfl) T.n_isinstance (by decide +kernel) (pa_cons (pv 0) (pa_cons (pe_bltn (v := .ty "int") (by rfl) T.n_int (by decide +kernel) rfl) pa_nil))) (pe_one (pe_not (pe_callB call_isi (by rfl) T.n_isinstance (by decide +kernel) (pa_cons (pv 0) (pa_cons (pe_bltn (v := .ty "bool") (by rfl) T.n_bool (by decide +kernel) rfl) pa_nil)))))))), ?_⟩
    refine ⟨_, rfl, _, _, _, _, _, rfl, .ty "int", ty_of hd, ki_int d, _, rfl, ?_⟩
    refine ite2 (fun h => ?_) (fun h => ?_)
    · refine ⟨_, rfl, _, _, _, _, _, rfl, .ty "bool", ty_of hd, ki_bool d, _, rfl, ?_⟩
      rw [h, Bool.true_and] at q'
      exact q'
    · rw [Bool.eq_false_iff.mpr h, Bool.false_and] at q'
      exact q'

abbrev s_is_number : Stmt := (topS 16)
theorem sc_is_number : FnScope ["thing"] ["thing"] (defScope s_is_number) := ⟨rfl, rfl, rfl, by decide +kernel, rfl, by decide +kernel, by decide +kernel⟩
theorem ok_is_number {f : Addr} {fd : FuncData} (F : Fun K "is_number" "is_number" s_is_number f fd) (C1 : Ca P w K mg base 1 "is_integer" ["thing"] (spPred Any isIntD)) :
    FnOk P w K mg base CX0 2 f fd ["thing"] (spPred Any isNumD) := by
  refine F.ok sc_is_number (fun vs H Q E h => ?_) (fun cdv A outer s H vs Q E hr h => ?_)
  · obtain ⟨v, d, rfl, _⟩ := h
    rfl
  · obtain ⟨v, d, rfl, hd, hz, q⟩ := h
    refine ⟨_, (pss_one (ps_ret (pe_and (pe_ca C1 (hr.mono (by decide)) (by rfl) (pa_cons (pv 0) pa_nil)) (pe_one (pe_cmpR op_ge (pv 0) pe_int (nomark _)))))), ?_⟩
    refine ⟨_, rfl, v, d, rfl, hd, trivial, fun H1 e1 => ⟨_, rfl, ?_⟩⟩
    refine ite2 (fun h => ?_) (fun h => ?_)
    · obtain ⟨i, rfl, rfl⟩ := dq_int hd h
      refine ⟨_, rfl, _, _, rfl, rfl, ?_⟩
      exact q H1 e1
    · have e : isNumD d = false := by
        cases d with
        | int i => exact absurd rfl h
        | _ => rfl
      have q' := q H1 e1
      rw [e] at q'
      exact q'

abbrev s_is_name : Stmt := (topS 17)
theorem sc_is_name : FnScope ["thing", "letter"] ["thing"] (defScope s_is_name) := ⟨rfl, rfl, rfl, by decide +kernel, rfl, by decide +kernel, by decide +kernel⟩
theorem ok_is_name {f : Addr} {fd : FuncData} (F : Fun K "is_name" "is_name" s_is_name f fd) (T : BT mg) {tl : Tok} {tn : Tok} (gLet : mg "LETTERS" = some (.str abc tl)) (gLong : mg "LONGEST" = some (.int 8 tn)) :
    FnOk P w K mg base CX0 1 f fd ["thing"] (spPred Ok1 isNameD) := by
  refine F.ok sc_is_name (fun vs H Q E h => ?_) (fun cdv A outer s H vs Q E hr h => ?_)
  · obtain ⟨v, d, rfl, _⟩ := h
    rfl
  · obtain ⟨v, d, rfl, hd, hz, q⟩ := h
    refine ⟨_, (pss_cons (ps_if (PW.pt (pw_or (pt_not (pt_val (pe_callB call_isi (by rfl) T.n_isinstance (by decide +kernel) (pa_cons (pv 0) (pa_cons (pe_bltn (v := .ty "str") (by rfl) T.n_str (by decide +kernel) rfl) pa_nil))))) (pw_or1 (pt_not (pt_chain op_le op_le pe_int (pe_callB call_len_str (by rfl) T.n_len (by decide +kernel) (pa_cons (pv 0) pa_nil)) (pe_glob (v := .int 8) rfl gLong ⟨_, rfl⟩))))))
      (pss_one (ps_ret pe_bl))
      pss_nil)
    (pss_one (ps_ret (pe_callB (cr_all rfl) (by rfl) T.n_all (by decide +kernel) (pa_cons (pe_lc (own := [("letter", 1)]) (g := gName 1) (tt := tYes) rfl sc_is_name.nd (pi_str (pv 0)) (blkOk_by (N := ["thing", "letter"]) (sc := defScope s_is_name) (by decide +kernel)) (fun _ _ _ _ _ => (pg_name (i := 1) sc_is_name.nd rfl (.inl rfl))) (fun _ _ _ _ _ => pts_nil) (fun _ _ _ _ _ => (pe_cmpR op_in_sign (pv 1) (pe_glob (v := .str abc) rfl gLet ⟨_, rfl⟩) (by rfl)))) pa_nil))))), ?_⟩
    refine ⟨_, rfl, _, _, _, _, _, rfl, .ty "str", ty_of hd, ki_str d, _, rfl, ?_⟩
    refine ite2 (fun h => ?_) (fun h => ?_)
    · have q' := q H (Ext.refl H)
      rw [kS_not h] at q'
      exact iteT q'
    · obtain ⟨x, rfl, rfl⟩ := dq_str hd (kS_yes h)
      have hx : x.length ≤ 1000 := (hz x rfl).1
      have hx2 : x.length ≤ sizeLine := Nat.le_trans hx (by decide)
      have qx : Q (.bl (isNameS x)) H := q H (Ext.refl H)
      refine ⟨_, rfl, _, rfl, hx2, _, _, rfl, rfl, _, rfl, ?_⟩
      refine ite2 (fun h1 => ?_) (fun h1 => ?_)
      · refine ⟨_, _, rfl, rfl, _, rfl, ?_⟩
        have h1' : (1 : Int) ≤ (x.length : Int) := of_decide_eq_true h1
        refine ite2 (fun h2 => ?_) (fun h2 => ?_)
        · have h2' : ¬ (x.length : Int) ≤ 8 := by simpa using h2
          rw [isNameS_short (by omega)] at qx
          exact qx
        · have h2' : (x.length : Int) ≤ 8 := by simpa using h2
          rw [isNameS_long (by omega)] at qx
          refine ⟨_, rfl, x, rfl, fun D hD => ?_⟩
          refine lc_det walk_str (sg x) (fun _ => true) (fun i => V.bl (decide (x.cps.toList.getD i 0 ∈ abc.cps.toList))) hD hx2 its_sg (fun _ _ => trivial)
            (fun i H' _ _ Q' q' => q') (fun i H' _ _ _ Q' q' => ⟨_, rfl, _, abc, rfl, rfl, q'⟩) ?_
          rw [signs_all x fun c => decide (c ∈ abc.cps.toList)]
          refine ⟨D, _, rfl, SqL.of upd_same, ?_⟩
          rw [all_id_map]
          have q2 := q (upd H D (.lst ((x.cps.toList.map fun c => decide (c ∈ abc.cps.toList)).map V.bl))) (Ext.new hD)
          have e2 : isNameD (.str x) = x.cps.toList.all fun c => decide (c ∈ abc.cps.toList) := isNameS_long (by omega)
          rw [e2] at q2
          exact q2
      · have h1' : ¬ (1 : Int) ≤ (x.length : Int) := by simpa using h1
        rw [isNameS_short (by omega)] at qx
        exact ⟨_, rfl, iteT qx⟩
end

-- d
section
variable {P : Program} {w : World} {K : PySem.W.Frag} {mg : Str → Option Value} {base : Heap}
abbrev s__law_alike : Stmt := (topS 44)
theorem sc__law_alike : FnScope ["_law_found", "_law_due_here"] ["_law_found", "_law_due_here"] (defScope s__law_alike) := ⟨rfl, rfl, rfl, by decide +kernel, rfl, by decide +kernel, by decide +kernel⟩
theorem ok_alike {f : Addr} {fd : FuncData} (F : Fun K "_law_alike" "_law_alike" s__law_alike f fd) (T : BT mg) :
    FnG P w K mg base 1 f fd ["_law_found", "_law_due_here"] spAlike := by
  refine okG F sc__law_alike (fun vs H Q E h => ?_) (fun cdv A outer s H vs Q E hG hr h => ?_)
  · obtain ⟨v, u, d, rfl, _⟩ := h
    rfl
  · obtain ⟨v, u, d, rfl, S, h1, h2, hs, ft, q⟩ := h
    refine ⟨_, (pss_one (ps_ret (pe_and (pe_cmpR (op_eqQ hr) (pv 0) (pv 1) (nomark _)) (pe_one (pe_cmpR op_eq (pe_callB (call_reprD hG hr) (by rfl) T.n_repr (by decide +kernel) (pa_cons (pv 0) pa_nil)) (pe_callB (call_reprD hG hr) (by rfl) T.n_repr (by decide +kernel) (pa_cons (pv 1) pa_nil)) (nomark _)))))), ?_⟩
    refine ⟨_, rfl, _, rfl, d, d, S, h1, h2, hs, hs, _, rfl, ?_⟩
    rw [SeqAt.eqv_refl d (SeqAt.canLay_of_shaped hs)]
    refine iteT ?_
    refine ⟨_, rfl, v, d, rfl, S, h1, ft.sh, ft.dep, ft.len, _, rfl, u, d, rfl, S, h2, ft.sh, ft.dep, ft.len, rfl, ?_⟩
    have e : decide (V.str d.shown = V.str d.shown) = true := decide_eq_true rfl
    rw [e]
    exact q H (Ext.refl H)
end

-- f
section
variable {P : Program} {w : World} {K : PySem.W.Frag} {mg : Str → Option Value} {base : Heap}

abbrev s__law_bag : Stmt := (topS 42)
theorem sc__law_bag : FnScope ["_law_script", "_law_cell"] ["_law_script"] (defScope s__law_bag) := ⟨rfl, rfl, rfl, by decide +kernel, rfl, by decide +kernel, by decide +kernel⟩
theorem ok_bag {f : Addr} {fd : FuncData} (F : Fun K "_law_bag" "_law_bag" s__law_bag f fd) (T : BT mg) :
    FnOk P w K mg base CX0 1 f fd ["_law_script"] (spBag0 K) := by
  refine F.ok sc__law_bag (fun vs H Q E h => ?_) (fun cdv A outer s H vs Q E hr h => ?_)
  · obtain ⟨a, ns, rfl, _⟩ := h
    rfl
  · obtain ⟨a, ns, rfl, hs, hl, q⟩ := h
    refine ⟨_, (pss_one (ps_ret (pe_lst (pa_cons pe_int (pa_cons pe_int (pa_cons pe_int (pa_cons (pe_lc (own := [("_law_cell", 1)]) (g := gName 1) (tt := tYes) rfl sc__law_bag.nd (pi_list (pe_slice sl_list (pv 0) po_none (po_some pe_int))) (blkOk_by (N := ["_law_script", "_law_cell"]) (sc := defScope s__law_bag) (by decide +kernel)) (fun _ _ _ _ _ => (pg_name (i := 1) sc__law_bag.nd rfl (.inl rfl))) (fun _ _ _ _ _ => pts_nil) (fun _ _ _ _ _ => (pe_callB call_abs (by rfl) T.n_abs (by decide +kernel) (pa_cons (pv 1) pa_nil)))) pa_nil))))))), ?_⟩
    obtain ⟨cs, ec, hc⟩ := cut_ints ns none (some 63)
    refine ⟨_, rfl, _, rfl, a, _, rfl, hs, fun p hp => ?_⟩
    rw [ec]
    have e1 : Ext H (upd H p (.lst (cs.map V.int))) := Ext.new hp
    refine ⟨p, rfl, ⟨_, SqL.of upd_same⟩, fun D hD => ?_⟩
    have e2 : Ext (upd H p (.lst (cs.map V.int))) (upd (upd H p (.lst (cs.map V.int))) D (.lst ((cs.map fun i => if i < 0 then -i else i).map V.int))) := Ext.new hD
    refine lc_det (walk_list (K := K) (a := p) (xs := cs.map V.int)) (fun i => .int (cs.getD i 0)) (fun _ => true) (fun i => .int (if cs.getD i 0 < 0 then -(cs.getD i 0) else cs.getD i 0)) hD (by rw [List.length_map]; exact Nat.le_trans hc (Nat.le_trans hl (by decide)))
      ?_ (fun H' e => SqL.of (e _ _ upd_same)) (fun i H' _ _ Q' q' => q') (fun i H' _ _ _ Q' q' => ⟨_, rfl, _, rfl, q'⟩) ?_
    · rintro i H' x H'' hi ⟨rfl, hx⟩
      refine ⟨rfl, ?_⟩
      rw [List.getElem?_map] at hx
      rw [List.getD_eq_getElem?_getD]
      cases e : cs[i]? with
      | none => rw [e] at hx; cases hx
      | some z => rw [e] at hx; exact (Option.some.inj hx).symm
    · rw [List.filter_eq_self.mpr (fun _ _ => rfl), List.length_map, map_range_getI (fun i => V.int (if i < 0 then -i else i)) cs]
      have em : (cs.map fun i => V.int (if i < 0 then -i else i)) = (cs.map fun i => if i < 0 then -i else i).map V.int := by
        rw [List.map_map]
        rfl
      rw [em]
      refine ⟨by show 4 ≤ sizeLine; decide, fun r hr' => ?_⟩
      have e3 := Ext.new (o := .lst (bagL 0 1234567891 0 D)) hr'
      have nDr : D ≠ r := fun z => by rw [← z, upd_same] at hr'; cases hr'
      refine q r D (cs.map fun i => if i < 0 then -i else i) _ ((e1.trans e2).free hr') ((e1.trans e2).trans e3) upd_same (by rw [upd_ne nDr, upd_same]) ?_ nDr
      intro n hn
      obtain ⟨i, _, rfl⟩ := List.mem_map.mp hn
      split <;> omega
end

-- g
section
variable {P : Program} {w : World} {K : PySem.W.Frag} {mg : Str → Option Value} {base : Heap}
abbrev s__law_names : Stmt := (topS 46)
theorem sc__law_names : FnScope ["_law_bag_here", "_law_many", "_law_letters", "_law_words", "_law_style", "_law_turn", "_law_base", "_law_at", "_law_k"] ["_law_bag_here", "_law_many"] (defScope s__law_names) := ⟨rfl, rfl, rfl, by decide +kernel, rfl, by decide +kernel, by decide +kernel⟩
theorem ok_names {f : Addr} {fd : FuncData} (F : Fun K "_law_names" "_law_names" s__law_names f fd) (T : BT mg)
    (CT : Ca P w K mg base 1 "_law_take" ["_law_bag_here", "_law_many"] spTake) :
    FnOk P w K mg base CX0 2 f fd ["_law_bag_here", "_law_many"] spNames := by
  refine F.ok sc__law_names (fun vs H Q E h => ?_) (fun cdv A outer s H vs Q E hr h => ?_)
  · obtain ⟨a, m, rfl, _⟩ := h
    rfl
  · obtain ⟨a, m, rfl, hb, hm1, hm8, q⟩ := h
    refine ⟨_, (pss_cons (ps_set (i := 2) sc__law_names.nd rfl (.inr rfl) pe_str)
    (pss_cons (ps_set (i := 3) sc__law_names.nd rfl (.inl rfl) pe_str)
    (pss_cons (ps_set (i := 3) sc__law_names.nd rfl (.inl rfl) (pe_split (pe_op op_add_str (pv 3) pe_str) pe_str))
    (pss_cons (ps_asg (pe_tup (pa_cons (pe_ca CT (hr.mono (by decide)) (by rfl) (pa_cons (pv 0) (pa_cons pe_int pa_nil))) (pa_cons (pe_ca CT (hr.mono (by decide)) (by rfl) (pa_cons (pv 0) (pa_cons pe_int pa_nil))) pa_nil))) (pg_tup (by rfl) (pgs_cons (pg_name (i := 4) sc__law_names.nd rfl (.inl rfl)) (pgs_cons (pg_name (i := 5) sc__law_names.nd rfl (.inr rfl)) pgs_nil))))
    (pss_cons (ps_set (i := 6) sc__law_names.nd rfl (.inr rfl) (pe_join pe_str (pe_lc (own := [("_law_k", 8)]) (g := gName 8) (tt := tYes) rfl sc__law_names.nd (pi_range1 (by rfl) T.n_range (pa_cons (pe_op op_add pe_int (pe_ca CT (hr.mono (by decide)) (by rfl) (pa_cons (pv 0) (pa_cons pe_int pa_nil)))) pa_nil)) (blkOk_by (N := ["_law_bag_here", "_law_many", "_law_letters", "_law_words", "_law_style", "_law_turn", "_law_base", "_law_at", "_law_k"]) (sc := defScope s__law_names) (by decide +kernel)) (fun _ _ _ _ _ => (pg_name (i := 8) sc__law_names.nd rfl (.inl rfl))) (fun _ _ _ _ _ => pts_nil) (fun _ _ _ _ _ => (pe_ix ix_str (pv 2) (pe_ca CT (hr.mono (by decide)) (by rfl) (pa_cons (pv 0) (pa_cons pe_int pa_nil))) (fun _ _ => rfl))))))
    (pss_cons (ps_set (i := 7) sc__law_names.nd rfl (.inr rfl) (pe_ca CT (hr.mono (by decide)) (by rfl) (pa_cons (pv 0) (pa_cons (pe_op op_add (pe_callB call_len_str (by rfl) T.n_len (by decide +kernel) (pa_cons (pv 6) pa_nil)) pe_int) pa_nil))))
    (pss_cons (ps_if (pt_cmpR op_eq (pv 4) pe_int (nomark _))
      (pss_one (ps_ret (pe_slice sl_list (pe_op op_cat (pe_slice sl_list (pv 3) (po_some (pv 5)) po_none) (pe_slice sl_list (pv 3) po_none (po_some (pv 5)))) po_none (po_some (pv 1)))))
      pss_nil)
    (pss_cons (ps_if (pt_cmpR op_eq (pv 4) pe_int (nomark _))
      (pss_one (ps_ret (pe_lc (own := [("_law_k", 8)]) (g := gName 8) (tt := tYes) rfl sc__law_names.nd (pi_range1 (by rfl) T.n_range (pa_cons (pv 1) pa_nil)) (blkOk_by (N := ["_law_bag_here", "_law_many", "_law_letters", "_law_words", "_law_style", "_law_turn", "_law_base", "_law_at", "_law_k"]) (sc := defScope s__law_names) (by decide +kernel)) (fun _ _ _ _ _ => (pg_name (i := 8) sc__law_names.nd rfl (.inl rfl))) (fun _ _ _ _ _ => pts_nil) (fun _ _ _ _ _ => (pe_ix ix_str (pv 2) (pe_op op_mod (pe_callTy call_int1 (by rfl) T.n_int (by decide +kernel) (pa_cons (pe_op op_add (pv 5) (pe_op op_mul pe_int (pv 8))) pa_nil)) pe_int) (fun _ _ => rfl))))))
      pss_nil)
    (pss_one (ps_ret (pe_lc (own := [("_law_k", 8)]) (g := gName 8) (tt := tYes) rfl sc__law_names.nd (pi_range1 (by rfl) T.n_range (pa_cons (pv 1) pa_nil)) (blkOk_by (N := ["_law_bag_here", "_law_many", "_law_letters", "_law_words", "_law_style", "_law_turn", "_law_base", "_law_at", "_law_k"]) (sc := defScope s__law_names) (by decide +kernel)) (fun _ _ _ _ _ => (pg_name (i := 8) sc__law_names.nd rfl (.inl rfl))) (fun _ _ _ _ _ => pts_nil) (fun _ _ _ _ _ => (pe_op op_add_str (pe_op op_add_str (pe_slice sl_str (pv 6) po_none (po_some (pv 7))) (pe_ix ix_str (pv 2) (pe_op op_mod (pe_callTy call_int1 (by rfl) T.n_int (by decide +kernel) (pa_cons (pe_op op_add (pv 5) (pe_op op_mul pe_int (pv 8))) pa_nil)) pe_int) (fun _ _ => rfl))) (pe_slice sl_str (pv 6) (po_some (pv 7)) po_none)))))))))))))), ?_⟩
    -- the words
    refine ⟨_, rfl, _, _, rfl, rfl, by decide +kernel, ⟨_, rfl⟩, _, _, rfl, rfl, by decide +kernel, by decide +kernel, fun pw hpw => ?_⟩
    rw [show Txt.split (Str.ofString "send take ended close else first any step quit server back again where log a b ab ba z" ++ Str.ofString " stuck seat sticks lane") (Str.ofString " ") = wordL from split_words]
    have e1 := Ext.new (o := .lst (wordL.map V.str)) hpw
    have hw1 : upd H pw (.lst (wordL.map V.str)) pw = some (.lst (wordL.map V.str)) := upd_same
    generalize upd H pw (.lst (wordL.map V.str)) = H1 at e1 hw1 ⊢
    -- style, turn
    refine ⟨_, rfl, a, 4, rfl, hb.up e1, by decide, by decide, fun r0 l0 u0 => ⟨_, rfl, a, 20, rfl, hb.up e1, by decide, by decide, fun r1 l1 u1 => ⟨by show 2 ≤ sizeLine; decide, fun pt hpt => ?_⟩⟩⟩
    have e2 := e1.trans (Ext.new (o := .tup [.int r0, .int r1]) hpt)
    have hw2 := Ext.new (o := .tup [.int r0, .int r1]) hpt _ _ hw1
    refine ⟨pt, _, rfl, SqT.of upd_same, rfl, _, _, rfl, _, _, rfl, rfl, ?_⟩
    generalize upd H1 pt (.tup [.int r0, .int r1]) = H2 at e2 hw2 ⊢
    -- the base
    refine ⟨⟨_, rfl⟩, _, rfl, a, 7, rfl, hb.up e2, by decide, by decide, fun r2 l2 u2 => ⟨_, _, rfl, rfl, _, rfl, by omega, by omega, fun D hD => ?_⟩⟩
    refine lc_ext walk_range (fun _ v _ => ∃ c, c ∈ abcL ∧ v = .str (one c)) (fun _ _ _ _ _ h => h) hD (by show (1 + r2).toNat ≤ 2 ^ 24; omega) (fun _ _ => trivial) ?_ ?_
    · rintro i x H' H'' hi e ⟨rfl, rfl⟩
      refine ⟨Ext.refl _, fun Q' q' => ?_⟩
      refine ⟨_, rfl, _, rfl, a, 26, rfl, hb.up (e2.trans e), by decide, by decide, fun r l u => ?_⟩
      obtain ⟨j, rfl⟩ : ∃ j : Nat, r = (j : Int) := ⟨r.toNat, by omega⟩
      have hj : j < 26 := by omega
      exact ⟨_, _, 97 + j, rfl, rfl, by decide +kernel, atI_nat (abc_at j hj), q' _ _ (Ext.refl _) ⟨_, abc_mem hj, rfl⟩⟩
    intro H3 xs e3 hD3 hl hR
    obtain ⟨cs, rfl, hcl, hcm⟩ := ones_of hl hR
    have hcs1 : 1 ≤ cs.length := by rw [hcl]; omega
    have hcs7 : cs.length ≤ 7 := by rw [hcl]; omega
    refine ⟨_, D, cs.map one, rfl, rfl, .inl (SqL.of hD3), by rw [ones_len, List.length_map]; show cs.length + cs.length * 0 ≤ _; omega, ?_⟩
    have hj := join_signs cs
    have ej : Txt.join (Str.ofString "") (cs.map one) = Txt.join "" (cs.map one) := rfl
    rw [ej]
    generalize Txt.join "" (cs.map one) = b at hj ⊢
    have hbl : b.length = cs.length := by rw [tlen, hj]
    have e23 := e2.trans e3
    have hw3 := e3 _ _ hw2
    -- the place
    refine ⟨_, rfl, _, rfl, _, rfl, by rw [hbl]; show _ ≤ 2 ^ 24; omega, _, _, rfl, rfl, a, _, rfl, hb.up e23, by omega, by omega, fun r3 l3 u3 => ?_⟩
    obtain ⟨t, rfl⟩ : ∃ j : Nat, r1 = (j : Int) := ⟨r1.toNat, by omega⟩
    obtain ⟨at_, rfl⟩ : ∃ j : Nat, r3 = (j : Int) := ⟨r3.toNat, by omega⟩
    obtain ⟨k, rfl⟩ : ∃ j : Nat, m = (j : Int) := ⟨m.toNat, by omega⟩
    have hk8 : k ≤ 8 := by omega
    have ha : at_ ≤ cs.length := by omega
    refine ⟨_, rfl, rfl, _, rfl, ?_⟩
    refine ite2 (fun g0 => ?_) (fun g0 => ?_)
    · refine ⟨_, rfl, _, rfl, _, rfl, pw, _, rfl, SqL.of hw3, fun p1 h1 => ?_⟩
      have f1 := Ext.new (o := .lst (cutV (wordL.map V.str) (some (t : Int)) none)) h1
      refine ⟨_, rfl, _, rfl, _, rfl, pw, _, rfl, SqL.of (f1 _ _ hw3), fun p2 h2 => ?_⟩
      have f2 := Ext.new (o := .lst (cutV (wordL.map V.str) none (some (t : Int)))) h2
      refine ⟨p1, p2, _, _, rfl, rfl, f2 _ _ upd_same, upd_same, ?_, fun p3 h3 => ?_⟩
      · have z1 := cutV_length (wordL.map V.str) (some (t : Int)) none
        have z2 := cutV_length (wordL.map V.str) none (some (t : Int))
        have z3 : (wordL.map V.str).length = 23 := rfl
        show _ ≤ 2 ^ 24
        omega
      · have f3 := Ext.new (o := .lst (cutV (wordL.map V.str) (some (t : Int)) none ++ cutV (wordL.map V.str) none (some (t : Int)))) h3
        refine ⟨_, rfl, _, rfl, p3, _, rfl, SqL.of upd_same, fun p4 h4 => ?_⟩
        have el : cutV (cutV (wordL.map V.str) (some (t : Int)) none ++ cutV (wordL.map V.str) none (some (t : Int))) none (some (k : Int)) = ((wordL.drop t ++ wordL.take t).take k).map V.str := by
          rw [cut_drop, cut_take, cut_take, List.map_take, List.map_append, List.map_drop, List.map_take]
        rw [el]
        have e4 := ((e23.trans f1).trans f2).trans f3
        exact q p4 _ _ (e4.trans (Ext.new h4)) (e4.free h4) upd_same (names0 t k (by omega) (by omega))
    · refine ⟨_, rfl, rfl, _, rfl, ?_⟩
      refine ite2 (fun g1 => ?_) (fun g1 => ?_)
      · refine ⟨_, rfl, _, rfl, by omega, by omega, fun D4 hD4 => ?_⟩
        refine lc_det walk_range (fun i => .int (0 + (i : Int))) (fun _ => true) (fun i => .str (one (let1 t i))) hD4 (by show _ ≤ 2 ^ 24; omega) (fun i H x H' _ y => y) (fun _ _ => trivial) (fun i H' _ _ Q' q' => q') (fun i H' hi _ _ Q' q' => ?_) ?_
        · refine ⟨_, rfl, _, rfl, _, rfl, _, _, rfl, rfl, .inl ⟨by decide, by decide⟩, _, _, rfl, rfl, .inl ⟨_, rfl, _, _, rfl, rfl, pos_of (by decide), _, _, let1 t i, rfl, rfl, by decide +kernel, ?_, q'⟩⟩
          have ev : ((t : Int) + 3 * (0 + (i : Int))) % 26 = (((t + 3 * i) % 26 : Nat) : Int) := by omega
          show atI _ (((t : Int) + 3 * (0 + (i : Int))) % 26) = _
          rw [ev]
          exact atI_nat (abc_at _ (Nat.mod_lt _ (by decide)))
        · rw [List.filter_eq_self.mpr (fun _ _ => rfl)]
          have em : ((List.range (k : Int).toNat).map fun i => V.str (one (let1 t i))) = ((List.range k).map fun i => one (let1 t i)).map V.str := by
            rw [List.map_map]
            rfl
          rw [em]
          exact q D4 _ _ (e23.trans (Ext.new hD4)) (e23.free hD4) upd_same (names1 t k hk8)
      · refine ⟨_, rfl, _, rfl, by omega, by omega, fun D4 hD4 => ?_⟩
        refine lc_det walk_range (fun i => .int (0 + (i : Int))) (fun _ => true) (fun i => .str (cutS b none (some (at_ : Int)) ++ one (let1 t i) ++ cutS b (some (at_ : Int)) none)) hD4 (by show _ ≤ 2 ^ 24; omega) (fun i H x H' _ y => y) (fun _ _ => trivial) (fun i H' _ _ Q' q' => q') (fun i H' hi _ _ Q' q' => ?_) ?_
        · have hb2 : b.length ≤ 2 ^ 24 := by omega
          have c1 := cutS_length b none (some (at_ : Int))
          have c2 := cutS_length b (some (at_ : Int)) none
          refine ⟨_, rfl, _, rfl, _, rfl, b, rfl, hb2, ?_⟩
          refine ⟨_, rfl, _, rfl, _, rfl, _, _, rfl, rfl, .inl ⟨by decide, by decide⟩, _, _, rfl, rfl, .inl ⟨_, rfl, _, _, rfl, rfl, pos_of (by decide), _, _, let1 t i, rfl, rfl, by decide +kernel, ?_, ?_⟩⟩
          · have ev : ((t : Int) + 3 * (0 + (i : Int))) % 26 = (((t + 3 * i) % 26 : Nat) : Int) := by omega
            show atI _ (((t : Int) + 3 * (0 + (i : Int))) % 26) = _
            rw [ev]
            exact atI_nat (abc_at _ (Nat.mod_lt _ (by decide)))
          · refine ⟨_, _, rfl, rfl, by show _ + 1 ≤ 2 ^ 24; omega, ?_⟩
            refine ⟨_, rfl, _, rfl, _, rfl, b, rfl, hb2, _, _, rfl, rfl, ?_, q'⟩
            have c3 : (cutS b none (some (at_ : Int)) ++ one (let1 t i)).length = (cutS b none (some (at_ : Int))).length + 1 := by
              rw [tlen, tlen, tl_app, List.length_append]
              rfl
            show (cutS b none (some (at_ : Int)) ++ one (let1 t i)).length + _ ≤ 2 ^ 24
            omega
        · rw [List.filter_eq_self.mpr (fun _ _ => rfl)]
          have em : ((List.range (k : Int).toNat).map fun i => V.str (cutS b none (some (at_ : Int)) ++ one (let1 t i) ++ cutS b (some (at_ : Int)) none)) = ((List.range k).map fun i => cutS b none (some (at_ : Int)) ++ one (let1 t i) ++ cutS b (some (at_ : Int)) none).map V.str := by
            rw [List.map_map]
            rfl
          rw [em]
          refine q D4 _ _ (e23.trans (Ext.new hD4)) (e23.free hD4) upd_same (names2 cs at_ t k _ hcs1 hcs7 hcm hk8 ha fun i _ => ?_)
          rw [tl_app, tl_app, cutS_take, cutS_drop, hj]
          rfl
end

end K25

set_option Elab.async false
set_option linter.all false
set_option maxRecDepth 100000
set_option maxHeartbeats 4000000
namespace K25
open PySem PySem.Spec PyProof.Rows L2 Ol RZ
open TL (tl)
section
variable {P : Program} {w : World} {K : PySem.W.Frag} {mg : Str → Option Value} {base : Heap} {C S : Addr}
/-! ### _law_bounds -/
def spBounds : Sp := fun vs H Q _ => ∃ (p an : Addr) (ys : List Str) (g : Int), vs = [.ref p, .ref an, .int g] ∧ 1 ≤ g ∧ g ≤ 3 ∧ Bag H p ∧ H an = some (.lst (ys.map V.str)) ∧ ys.Nodup ∧ ys.length ≤ 3 ∧
  ∀ d H' ps, H d = none → Ext H H' → H' d = some (.dK (kvI ps)) → ps.map (·.1) = ys → (∀ q ∈ ps, 1 ≤ q.2 ∧ q.2 ≤ 3) → Q (.ref d) H'
abbrev s_bounds : Stmt := (topS 47)
theorem sc_bounds : FnScope ["_law_bag_here", "_law_names_here", "_law_greatest", "_law_found", "_law_name"] ["_law_bag_here", "_law_names_here", "_law_greatest"] (defScope s_bounds) := ⟨rfl, rfl, rfl, by decide +kernel, rfl, by decide +kernel, by decide +kernel⟩
theorem kvI_none {ps : List (Str × Int)} {x : Str} (h : x ∉ ps.map (·.1)) : valV (kvI ps) (.inr x) = none := by
  refine valV_none fun p hp e => h ?_
  unfold kvI at hp
  obtain ⟨q, hq, rfl⟩ := List.mem_map.mp hp
  have e' : q.1 = x := Sum.inr.inj e
  rw [← e']
  exact List.mem_map_of_mem hq
theorem ok_bounds {f : Addr} {fd : FuncData} (F : Fun K "_law_bounds" "_law_bounds" s_bounds f fd) (T : BT mg) (CT : Ca P w K mg base 1 "_law_take" ["_law_bag_here", "_law_many"] spTake) :
    FnOk P w K mg base CX0 2 f fd ["_law_bag_here", "_law_names_here", "_law_greatest"] spBounds := by
  refine F.ok sc_bounds (fun vs H Q E h => ?_) (fun cdv A outer s H vs Q E hr h => ?_)
  · obtain ⟨p, an, ys, g, rfl, _⟩ := h
    rfl
  · obtain ⟨p, an, ys, gr, rfl, gr1, gr3, hB, hN, hnd, hl, q⟩ := h
    refine ⟨_, (pss_cons (ps_set (i := 3) sc_bounds.nd rfl (.inl rfl) pe_dnewK)
    (pss_cons (ps_for PassesOwn.never rfl (pi_list (pv 1)) (pg_name (i := 4) sc_bounds.nd rfl (.inl rfl))
      (pss_one (ps_dput (hu_of hr) (pv 3) (pv 4) (pe_ifExp (pt_cmpR op_gt (pe_callB call_len_seq (by rfl) T.n_len (by decide +kernel) (pa_cons (pv 1) pa_nil)) pe_int (nomark _)) pe_int (pe_op op_add pe_int (pe_ca CT (hr.mono (by decide)) (by rfl) (pa_cons (pv 0) (pa_cons (pv 2) pa_nil))))) rfl)))
    (pss_one (ps_ret (pv 3))))), ?_⟩
    intro d hd
    have e0 := Ext.new (o := .dK []) hd
    have ml : (ys.map V.str).length = ys.length := List.length_map ..
    refine ⟨_, rfl, an, rfl, ⟨_, SqL.of (e0 _ _ hN)⟩, ?_⟩
    refine for_list (xs := ys.map V.str) (fun i σ H' => ∃ v4 ps, σ = [some (.ref p), some (.ref an), some (.int gr), some (.ref d), v4] ∧ Ext H H' ∧ H' d = some (.dK (kvI ps)) ∧ ps.map (·.1) = ys.take i ∧ (∀ q ∈ ps, 1 ≤ q.2 ∧ q.2 ≤ 3))
      ⟨none, [], rfl, e0, upd_same, rfl, fun q hq => by cases hq⟩ (fun i σ H' _ ⟨_, _, _, e, _⟩ => SqL.of (e _ _ hN)) ?_ ?_
    · rintro i x σ H1 hx ⟨v4, ps, rfl, e, hd1, hps, hb⟩
      have hi : i < ys.length := by have := (List.getElem?_eq_some_iff.mp hx).1; rw [ml] at this; exact this
      rw [List.getElem?_map, List.getElem?_eq_getElem hi] at hx
      cases hx
      have hni : ys[i] ∉ ps.map (·.1) := fun z => by
        rw [hps] at z
        obtain ⟨j, hj, ej⟩ := List.getElem_of_mem z
        rw [List.length_take] at hj
        rw [List.getElem_take] at ej
        exact List.pairwise_iff_getElem.mp hnd j i (by omega) hi (by omega) ej
      have htk : ys.take (i + 1) = ys.take i ++ [ys[i]] := by rw [List.take_add_one, List.getElem?_eq_getElem hi]; rfl
      have hpl : ps.length ≤ 3 := by have := congrArg List.length hps; rw [List.length_map, List.length_take] at this; omega
      -- what is stored
      have put : ∀ (z : Int) (H2 : Hp), Ext H H2 → H2 d = some (.dK (kvI ps)) → 1 ≤ z → z ≤ 3 →
          ∃ ps', (upd H2 d (.dK (putK (kvI ps) (.inr ys[i]) (.int z)))) d = some (.dK (kvI ps')) ∧ ps'.map (·.1) = ys.take (i + 1) ∧ (∀ q ∈ ps', 1 ≤ q.2 ∧ q.2 ≤ 3) := by
        intro z H2 e2 h2 z1 z3
        refine ⟨ps ++ [(ys[i], z)], ?_, ?_, ?_⟩
        · rw [upd_same, putK_new (kvI_none hni)]
          unfold kvI
          rw [List.map_append]
          rfl
        · rw [List.map_append, hps, htk]
          rfl
        · intro q hq
          rcases List.mem_append.mp hq with h | h
          · exact hb q h
          · rw [List.mem_singleton.mp h]; exact ⟨z1, z3⟩
      refine ⟨_, rfl, an, _, rfl, .inl (SqL.of (e _ _ hN)), _, _, rfl, rfl, _, rfl, ?_⟩
      refine ite2 (fun _ => ?_) (fun _ => ?_)
      · obtain ⟨ps', g1, g2, g3⟩ := put 1 H1 e hd1 (by decide) (by decide)
        exact ⟨_, rfl, _, rfl, d, _, rfl, DPut.k (k := Sum.inr ys[i]) hd1 (by unfold kvI; rw [List.length_map]; exact Nat.lt_of_le_of_lt hpl (by decide)), _, ps', rfl, Ext.mut e hd, g1, g2, g3⟩
      · refine ⟨_, rfl, _, rfl, p, gr, rfl, hB.up e, by omega, by omega, fun r r0 r1 => ?_⟩
        obtain ⟨ps', g1, g2, g3⟩ := put (1 + r) H1 e hd1 (by omega) (by omega)
        exact ⟨_, _, rfl, rfl, _, rfl, _, rfl, d, _, rfl, DPut.k (k := Sum.inr ys[i]) hd1 (by unfold kvI; rw [List.length_map]; exact Nat.lt_of_le_of_lt hpl (by decide)), _, ps', rfl, Ext.mut e hd, g1, g2, g3⟩
    · rintro σ H' ⟨v4, ps, rfl, e, hd1, hps, hb⟩
      rw [ml, List.take_length] at hps
      exact ⟨_, rfl, q d H' ps hd e hd1 hps hb⟩
end
end K25

set_option Elab.async false
set_option linter.all false
set_option maxRecDepth 100000
set_option maxHeartbeats 4000000
namespace K25
open PySem PySem.Spec PyProof.Rows L2 Ol RZ
open TL (tl)
def words4 : List Str := ["close", "ended", "send", "take"]
theorem DqAll_snoc {H : Hp} : ∀ {xs : List V} {ds : List PyData} {v : V} {d : PyData}, DqAll H xs ds → Dq H v d → DqAll H (xs ++ [v]) (ds ++ [d])
  | _, _, _, _, .nil, h => .cons h .nil
  | _, _, _, _, .cons a t, h => .cons a (DqAll_snoc t h)
section
variable {P : Program} {w : World} {K : PySem.W.Frag} {mg : Str → Option Value} {base : Heap}
def wordsV : List V := [.str "close", .str "ended", .str "send", .str "take"]
theorem inV_words (x : Str) : inV (.str x) wordsV = isWordS x := by
  show ((("close" : Str) == x) || ((("ended" : Str) == x) || ((("send" : Str) == x) || ((("take" : Str) == x) || false)))) = isWordS x
  unfold isWordS
  rw [Bool.eq_iff_iff]
  simp only [Bool.or_eq_true, beq_iff_eq, decide_eq_true_eq, Bool.or_false]
  constructor
  · rintro (h | h | h | h)
    · exact Or.inl h.symm
    · exact Or.inr (Or.inl h.symm)
    · exact Or.inr (Or.inr (Or.inl h.symm))
    · exact Or.inr (Or.inr (Or.inr h.symm))
  · rintro (h | h | h | h)
    · exact Or.inl h.symm
    · exact Or.inr (Or.inl h.symm)
    · exact Or.inr (Or.inr (Or.inl h.symm))
    · exact Or.inr (Or.inr (Or.inr h.symm))
theorem kS_no {d : PyData} (h : ¬ kS d = true) : isWordD d = false ∧ isElseD d = false ∧ isNameD d = false := by
  cases d with
  | str x => exact absurd rfl h
  | _ => exact ⟨rfl, rfl, rfl⟩

abbrev s_is_word : Stmt := (topS 18)
theorem sc_is_word : FnScope ["thing"] ["thing"] (defScope s_is_word) := ⟨rfl, rfl, rfl, by decide +kernel, rfl, by decide +kernel, by decide +kernel⟩
theorem ok_is_word {f : Addr} {fd : FuncData} (F : Fun K "is_word" "is_word" s_is_word f fd) (T : BT mg) {aW : Addr} (gW : mg "WORDS" = some (.ref aW)) (hW : ∀ H, SqT K H aW wordsV) :
    FnOk P w K mg base CX0 1 f fd ["thing"] (spPred Any isWordD) := by
  refine F.ok sc_is_word (fun vs H Q E h => ?_) (fun cdv A outer s H vs Q E hr h => ?_)
  · obtain ⟨v, d, rfl, _⟩ := h
    rfl
  · obtain ⟨v, d, rfl, hd, hz, q⟩ := h
    have q' := q H (Ext.refl H)
    refine ⟨_, (pss_one (ps_ret (pe_and (pe_callB call_isi (by rfl) T.n_isinstance (by decide +kernel) (pa_cons (pv 0) (pa_cons (pe_bltn (v := .ty "str") (by rfl) T.n_str (by decide +kernel) rfl) pa_nil))) (pe_one (pe_cmpR op_in_seq (pv 0) (pe_glob (v := .ref aW) rfl gW rfl) (by rfl)))))), ?_⟩
    refine ⟨_, rfl, _, _, _, _, _, rfl, .ty "str", ty_of hd, ki_str d, _, rfl, ?_⟩
    refine ite2 (fun h => ?_) (fun h => ?_)
    · obtain ⟨x, rfl, rfl⟩ := dq_str hd h
      refine ⟨_, rfl, aW, _, rfl, .inr (hW _), rfl, by decide +kernel, ?_⟩
      have e : (if false = true then !inV (.str x) wordsV else inV (.str x) wordsV) = isWordD (.str x) := by
        rw [if_neg Bool.false_ne_true, inV_words]
        rfl
      rw [e]
      exact q'
    · rw [(kS_no h).1] at q'
      exact q'

abbrev s_is_arm : Stmt := (topS 20)
theorem sc_is_arm : FnScope ["thing"] ["thing"] (defScope s_is_arm) := ⟨rfl, rfl, rfl, by decide +kernel, rfl, by decide +kernel, by decide +kernel⟩
theorem kT_not {d : PyData} (h : (!kT d) = true) : isArmD d = false := by
  cases d with
  | tuple ds => cases h
  | _ => rfl
theorem kT_yes {d : PyData} (h : ¬ (!kT d) = true) : kT d = true := by
  cases e : kT d with
  | true => rfl
  | false => rw [e] at h; exact absurd rfl h
theorem isArm_len {ds : List PyData} (h2 : ds.length ≠ 2) (h3 : ds.length ≠ 3) : isArmD (.tuple ds) = false := by
  match ds, h2, h3 with
  | [], _, _ => rfl
  | [_], _, _ => rfl
  | [_, _], h, _ => exact absurd rfl h
  | [_, _, _], _, h => exact absurd rfl h
  | _ :: _ :: _ :: _ :: _, _, _ => rfl
theorem two_of {H : Hp} {xs : List V} {ds : List PyData} (t : DqAll H xs ds) (h : xs.length = 2) : ∃ v0 v1 d0 d1, xs = [v0, v1] ∧ ds = [d0, d1] ∧ Dq H v0 d0 ∧ Dq H v1 d1 := by
  cases t with
  | nil => cases h
  | cons a t => cases t with
    | nil => cases h
    | cons b t => cases t with
      | nil => exact ⟨_, _, _, _, rfl, rfl, a, b⟩
      | cons c t => simp at h
theorem three_of {H : Hp} {xs : List V} {ds : List PyData} (t : DqAll H xs ds) (h : xs.length = 3) : ∃ v0 v1 v2 d0 d1 d2, xs = [v0, v1, v2] ∧ ds = [d0, d1, d2] ∧ Dq H v0 d0 ∧ Dq H v1 d1 ∧ Dq H v2 d2 := by
  cases t with
  | nil => cases h
  | cons a t => cases t with
    | nil => cases h
    | cons b t => cases t with
      | nil => cases h
      | cons c t => cases t with
        | nil => exact ⟨_, _, _, _, _, _, rfl, rfl, a, b, c⟩
        | cons e t => simp at h
theorem ok_is_arm {f : Addr} {fd : FuncData} (F : Fun K "is_arm" "is_arm" s_is_arm f fd) (T : BT mg)
    (C2 : Ca P w K mg base 2 "is_number" ["thing"] (spPred Any isNumD)) (C3 : Ca P w K mg base 1 "is_name" ["thing"] (spPred Ok1 isNameD)) (C4 : Ca P w K mg base 1 "is_word" ["thing"] (spPred Any isWordD)) :
    FnOk P w K mg base CX0 3 f fd ["thing"] (spPred OkT isArmD) := by
  refine F.ok sc_is_arm (fun vs H Q E h => ?_) (fun cdv A outer s H vs Q E hr h => ?_)
  · obtain ⟨v, d, rfl, _⟩ := h
    rfl
  · obtain ⟨v, d, rfl, hd, hz, q⟩ := h
    refine ⟨_, (pss_cons (ps_if (pt_not (pt_val (pe_callB call_isi (by rfl) T.n_isinstance (by decide +kernel) (pa_cons (pv 0) (pa_cons (pe_bltn (v := .ty "tuple") (by rfl) T.n_tuple (by decide +kernel) rfl) pa_nil)))))
      (pss_one (ps_ret pe_bl))
      pss_nil)
    (pss_cons (ps_if (pt_cmpR op_eq (pe_callB call_len_seq (by rfl) T.n_len (by decide +kernel) (pa_cons (pv 0) pa_nil)) pe_int (nomark _))
      (pss_one (ps_ret (pe_and (pe_callB call_isi (by rfl) T.n_isinstance (by decide +kernel) (pa_cons (pe_ix ix_tup (pv 0) pe_int (fun _ _ => rfl)) (pa_cons (pe_bltn (v := .ty "str") (by rfl) T.n_str (by decide +kernel) rfl) pa_nil))) (pe_and (pe_cmpR op_eq (pe_ix ix_tup (pv 0) pe_int (fun _ _ => rfl)) pe_str (nomark _)) (pe_one (pe_ca C2 (hr.mono (by decide)) (by rfl) (pa_cons (pe_ix ix_tup (pv 0) pe_int (fun _ _ => rfl)) pa_nil)))))))
      pss_nil)
    (pss_one (ps_ret (pe_and (pe_cmpR op_eq (pe_callB call_len_seq (by rfl) T.n_len (by decide +kernel) (pa_cons (pv 0) pa_nil)) pe_int (nomark _)) (pe_and (pe_ca C4 (hr.mono (by decide)) (by rfl) (pa_cons (pe_ix ix_tup (pv 0) pe_int (fun _ _ => rfl)) pa_nil)) (pe_and (pe_ca C3 (hr.mono (by decide)) (by rfl) (pa_cons (pe_ix ix_tup (pv 0) pe_int (fun _ _ => rfl)) pa_nil)) (pe_one (pe_ca C2 (hr.mono (by decide)) (by rfl) (pa_cons (pe_ix ix_tup (pv 0) pe_int (fun _ _ => rfl)) pa_nil)))))))))), ?_⟩
    refine ⟨_, rfl, _, _, _, _, _, rfl, .ty "tuple", ty_of hd, ki_tuple d, _, rfl, ?_⟩
    refine ite2 (fun h => ?_) (fun h => ?_)
    · have q' := q H (Ext.refl H)
      rw [kT_not h] at q'
      exact q'
    · obtain ⟨a, xs, ds, rfl, rfl, ha, t⟩ := dq_tup hd (kT_yes h)
      have sa : ∀ {H1}, Ext H H1 → SqT K H1 a xs := fun e => SqT.of (e _ _ ha)
      have hl := t.len
      refine ⟨_, rfl, a, _, rfl, .inr (SqT.of ha), rfl, _, rfl, ?_⟩
      refine ite2 (fun h2 => ?_) (fun h2 => ?_)
      · have h2' : xs.length = 2 := by
          have z := of_decide_eq_true h2
          injection z with z
          omega
        obtain ⟨v0, v1, d0, d1, rfl, rfl, t0, t1⟩ := two_of t h2'
        have ea : isArmD (.tuple [d0, d1]) = (isElseD d0 && isNumD d1) := rfl
        rw [ea] at q
        refine ⟨_, rfl, a, _, _, _, rfl, rfl, SqT.of ha, rfl, _, _, _, _, _, rfl, .ty "str", ty_of t0, ki_str d0, _, rfl, ?_⟩
        refine ite2 (fun h0 => ?_) (fun h0 => ?_)
        · obtain ⟨x, rfl, rfl⟩ := dq_str t0 h0
          refine ⟨_, rfl, a, _, _, _, rfl, rfl, SqT.of ha, rfl, rfl, _, rfl, ?_⟩
          refine ite2 (fun h1 => ?_) (fun h1 => ?_)
          · refine ⟨_, rfl, a, _, _, _, rfl, rfl, SqT.of ha, rfl, v1, d1, rfl, t1, trivial, fun H1 e1 => ?_⟩
            have z := q H1 e1
            have e0 : isElseD (.str x) = true := by
              have z := of_decide_eq_true h1
              injection z with z
              exact decide_eq_true z
            rw [e0, Bool.true_and] at z
            exact z
          · have z := q H (Ext.refl H)
            have e0 : isElseD (.str x) = false := decide_eq_false fun z => h1 (decide_eq_true (by rw [z]))
            rw [e0, Bool.false_and] at z
            exact z
        · have z := q H (Ext.refl H)
          rw [(kS_no h0).2.1, Bool.false_and] at z
          exact z
      · have h2' : xs.length ≠ 2 := fun z => h2 (decide_eq_true (by rw [z]; rfl))
        refine ⟨_, rfl, a, _, rfl, .inr (SqT.of ha), rfl, _, rfl, ?_⟩
        refine ite2 (fun h3 => ?_) (fun h3 => ?_)
        · have h3' : xs.length = 3 := by
            have z := of_decide_eq_true h3
            injection z with z
            omega
          obtain ⟨v0, v1, v2, d0, d1, d2, rfl, rfl, t0, t1, t2⟩ := three_of t h3'
          have ea : isArmD (.tuple [d0, d1, d2]) = (isWordD d0 && (isNameD d1 && isNumD d2)) := rfl
          rw [ea] at q
          refine ⟨_, rfl, a, _, _, _, rfl, rfl, SqT.of ha, rfl, v0, d0, rfl, t0, trivial, fun H1 e1 => ⟨_, rfl, ?_⟩⟩
          refine ite2 (fun g0 => ?_) (fun g0 => ?_)
          · rw [g0, Bool.true_and] at q
            refine ⟨_, rfl, a, _, _, _, rfl, rfl, sa e1, rfl, v1, d1, rfl, t1.up e1, hz _ _ rfl (by simp), fun H2 e2 => ⟨_, rfl, ?_⟩⟩
            refine ite2 (fun g1 => ?_) (fun g1 => ?_)
            · rw [g1, Bool.true_and] at q
              refine ⟨_, rfl, a, _, _, _, rfl, rfl, sa (e1.trans e2), rfl, v2, d2, rfl, t2.up (e1.trans e2), trivial, fun H3 e3 => ?_⟩
              exact q H3 ((e1.trans e2).trans e3)
            · have z := q H2 (e1.trans e2)
              rw [Bool.eq_false_iff.mpr g1, Bool.false_and] at z
              exact z
          · have z := q H1 e1
            rw [Bool.eq_false_iff.mpr g0, Bool.false_and] at z
            exact z
        · have h3' : xs.length ≠ 3 := fun z => h3 (decide_eq_true (by rw [z]; rfl))
          have z := q H (Ext.refl H)
          rw [isArm_len (by omega) (by omega)] at z
          exact z
end
end K25

set_option Elab.async false
set_option linter.all false
set_option maxRecDepth 100000
set_option maxHeartbeats 4000000
namespace K25
open PySem PySem.Spec PyProof.Rows L2 Ol RZ
open TL (tl)
/-! ### sizes -/
theorem nd_st (c : Nat) (b : Bool) : Nd (stD c b) := .tup (.cons (.int _) (.cons (.bl _) .nil))
theorem nd_ct (cs : List (Nat × Bool)) : Nd (ctD cs) := .tup (NdAll.of fun d hd => by
  obtain ⟨s, _, rfl⟩ := List.mem_map.mp hd
  exact nd_st _ _)
theorem nd_all (f : List (List (Nat × Bool))) : Nd (.list (f.map ctD)) := .lst (NdAll.of fun d hd => by
  obtain ⟨s, _, rfl⟩ := List.mem_map.mp hd
  exact nd_ct _)
theorem lay_all : ∀ {ds : List PyData}, (∀ d ∈ ds, d.canLay0 = true) → PyData.canLayAll0 ds = true
  | [], _ => by simp [PyData.canLayAll0]
  | d :: ds, h => by simp [PyData.canLayAll0, h d List.mem_cons_self, lay_all fun e he => h e (List.mem_cons_of_mem _ he)]
theorem lay_shaped {d : PyData} (h : d.canLay0 = true) (hd : d.depth ≤ 64) : SeqAt.shaped d = true := by
  unfold SeqAt.shaped
  rw [h, decide_eq_true hd]
  rfl
theorem lay_st (c : Nat) (b : Bool) : (stD c b).canLay0 = true := by simp [stD, PyData.canLay0, PyData.canLayAll0]
theorem lay_ct (cs : List (Nat × Bool)) : (ctD cs).canLay0 = true := by
  unfold ctD
  rw [PyData.canLay0]
  refine lay_all fun d hd => ?_
  obtain ⟨s, _, rfl⟩ := List.mem_map.mp hd
  exact lay_st _ _
theorem lay_cts (f : List (List (Nat × Bool))) : (PyData.list (f.map ctD)).canLay0 = true := by
  rw [PyData.canLay0]
  refine lay_all fun d hd => ?_
  obtain ⟨s, _, rfl⟩ := List.mem_map.mp hd
  exact lay_ct _
theorem gd_st (c : Nat) (b : Bool) (h : c ≤ 3) : Gd 1 (stD c b) := by
  refine gd_tuple (fun d hd => ?_) (by simp)
  simp only [List.mem_cons, List.not_mem_nil, or_false] at hd
  rcases hd with rfl | rfl
  · have : c = 0 ∨ c = 1 ∨ c = 2 ∨ c = 3 := by omega
    rcases this with rfl | rfl | rfl | rfl <;> exact gd_int _ (by decide +kernel) (by decide +kernel)
  · exact gd_bl b
theorem gd_ct (cs : List (Nat × Bool)) (hl : cs.length ≤ 3) (h : ∀ s ∈ cs, s.1 ≤ 3) : Gd 2 (ctD cs) := by
  refine gd_tuple (fun d hd => ?_) (by unfold ctL; rw [List.length_map]; omega)
  obtain ⟨s, hs, rfl⟩ := List.mem_map.mp hd
  exact gd_st _ _ (h s hs)
theorem fits_list {n : Nat} {ds : List PyData} (h : ∀ d ∈ ds, Gd n d) (hn : n ≤ 3) (h5 : ds.length ≤ 20) : Fits (.list ds) := by
  have h' : ∀ d ∈ ds, Gd 3 d := fun d hd => (h d hd).up hn
  obtain ⟨h1, h2, h3, h4⟩ := all_sh h'
  refine ⟨by simpa [PyData.showable] using h1, by simp only [PyData.depth]; omega, ?_⟩
  simp only [PyData.shown]
  have z := pile_le _ h3
  have z1 := listText_le (PyData.shownAll ds)
  rw [h4] at z
  have z2 : ds.length * (200 * 8 ^ 3 + 2) ≤ 20 * (200 * 8 ^ 3 + 2) := Nat.mul_le_mul_right _ h5
  exact Nat.le_trans (show _ ≤ 20 * (200 * 8 ^ 3 + 2) + 2 by omega) (by decide)
theorem name_gd {x : Str} (h : isNameS x = true) : Gd 0 (.str x) := by
  obtain ⟨h1, h2, h3⟩ := name_tl h
  exact gd_str x (by rw [tlen]; omega) fun c hc => abc_low c (h3 c hc)
theorem word_gd : ∀ x ∈ words4, Gd 0 (.str x) := fun x hx => by
  unfold words4 at hx
  simp only [List.mem_cons, List.not_mem_nil, or_false] at hx
  rcases hx with rfl | rfl | rfl | rfl <;> exact gd_str _ (by decide +kernel) (by decide +kernel)
theorem name_ok {x : Str} (h : isNameS x = true) : PyData.strOk x = true := by
  obtain ⟨h1, h2, h3⟩ := name_tl h
  unfold PyData.strOk
  rw [Array.all_eq_true_iff_forall_mem]
  intro c hc
  have hc' : c ∈ tl x := Array.mem_toList_iff.mpr hc
  exact decide_eq_true (Nat.lt_of_lt_of_le (abc_low c (h3 c hc')) (by decide))
theorem word_ok : ∀ x ∈ words4, PyData.strOk x = true := by decide +kernel
/-! ### what an arm does, by counting -/
def addW (word : Str) : Int := if word = "send" then 1 else if word = "take" then -1 else 0
theorem beh_counts {word : Str} {c : Nat} {b : Bool} {bd : Int} {s' : Nat × Bool} (hc : (c : Int) ≤ bd) (h : beh word c b bd = some s') :
    ((s'.1 : Nat) : Int) = (c : Int) + addW word ∧ s'.2 = (b || decide (word = "close")) ∧ (s'.1 : Int) ≤ bd := by
  unfold beh at h
  split at h
  · rename_i g
    obtain ⟨rfl, rfl, g3⟩ := g
    cases h
    refine ⟨by unfold addW; rw [if_pos rfl]; omega, by rw [decide_eq_false (by decide +kernel)]; rfl, by omega⟩
  · rename_i g0
    unfold beh2 at h
    split at h
    · rename_i g
      obtain ⟨rfl, g2⟩ := g
      cases h
      refine ⟨?_, ?_, by show ((c - 1 : Nat) : Int) ≤ bd; omega⟩
      · unfold addW
        rw [if_neg (by decide +kernel), if_pos rfl]
        show ((c - 1 : Nat) : Int) = _
        omega
      · rw [decide_eq_false (by decide +kernel), Bool.or_false]
    · rename_i g1
      unfold beh3 at h
      split at h
      · rename_i g
        obtain ⟨rfl, rfl, rfl⟩ := g
        cases h
        refine ⟨?_, by rfl, by omega⟩
        unfold addW
        rw [if_neg (by decide +kernel), if_neg (by decide +kernel)]
        omega
      · unfold beh4 at h
        split at h
        · rename_i g
          obtain ⟨rfl, rfl⟩ := g
          cases h
          refine ⟨?_, by rw [decide_eq_true rfl]; rfl, by omega⟩
          unfold addW
          rw [if_neg (by decide +kernel), if_neg (by decide +kernel)]
          omega
        · cases h
end K25

set_option Elab.async false
set_option linter.all false
set_option maxRecDepth 100000
set_option maxHeartbeats 4000000
namespace K25
open PySem PySem.Spec PyProof.Rows L2 Ol RZ
open TL (tl)
section
variable {P : Program} {w : World} {K : PySem.W.Frag} {mg : Str → Option Value} {base : Heap} {C S N : Addr}
/-! ### _law_state -/
def spLState : Sp := fun vs H Q _ => ∃ (p : Addr) (bd : Int), vs = [.ref p, .int bd] ∧ Bag H p ∧ 1 ≤ bd ∧ bd ≤ 3 ∧
  ∀ (r : V) (H' : Hp) (c : Nat) (b : Bool), Ext H H' → Dq H' r (stD c b) → (c : Int) ≤ bd → Q r H'
abbrev s_lstate : Stmt := (topS 50)
theorem sc_lstate : FnScope ["_law_bag_here", "_law_bound"] ["_law_bag_here", "_law_bound"] (defScope s_lstate) := ⟨rfl, rfl, rfl, by decide +kernel, rfl, by decide +kernel, by decide +kernel⟩
theorem ok_lstate {f : Addr} {fd : FuncData} (F : Fun K "_law_state" "_law_state" s_lstate f fd)
    (CT : Ca P w K mg base 1 "_law_take" ["_law_bag_here", "_law_many"] spTake) :
    FnOk P w K mg base CX0 2 f fd ["_law_bag_here", "_law_bound"] spLState := by
  refine F.ok sc_lstate (fun vs H Q E h => ?_) (fun cdv A outer s H vs Q E hr h => ?_)
  · obtain ⟨p, bd, rfl, _⟩ := h
    rfl
  · obtain ⟨p, bd, rfl, hB, b1, b3, q⟩ := h
    refine ⟨_, (pss_one (ps_ret (pe_tup (pa_cons (pe_ca CT (hr.mono (by decide)) (by rfl) (pa_cons (pv 0) (pa_cons (pe_op op_add (pv 1) pe_int) pa_nil))) (pa_cons (pe_cmpR op_eq (pe_ca CT (hr.mono (by decide)) (by rfl) (pa_cons (pv 0) (pa_cons pe_int pa_nil))) pe_int (nomark _)) pa_nil))))), ?_⟩
    refine ⟨_, rfl, _, rfl, _, _, rfl, rfl, p, bd + 1, rfl, hB, by omega, by omega, fun r r0 r1 => ?_⟩
    refine ⟨_, rfl, p, 3, rfl, hB, by decide, by decide, fun r2 _ _ => ⟨rfl, by show 2 ≤ sizeLine; decide, fun t ht => ?_⟩⟩
    obtain ⟨c, rfl⟩ := Int.eq_ofNat_of_zero_le r0
    exact q _ _ c _ (Ext.new ht) (.tup upd_same (.cons (.int _) (.cons (.bl _) .nil))) (by omega)
/-! ### _law_content -/
/-- a list of states, by names -/
def stOf (ns : List Str) (cs : List (Nat × Bool)) (x : Str) : Nat × Bool := cs.getD (ns.idxOf x) (0, false)
theorem stOf_at {ns : List Str} {cs : List (Nat × Bool)} (hd : ns.Nodup) (hl : cs.length = ns.length) (i : Nat) (hi : i < ns.length) : stOf ns cs ns[i] = cs[i]'(by omega) := by
  unfold stOf
  rw [hd.idxOf_getElem i hi, List.getD_eq_getElem?_getD, List.getElem?_eq_getElem (by omega)]
  rfl
theorem stOf_map {ns : List Str} {cs : List (Nat × Bool)} (hd : ns.Nodup) (hl : cs.length = ns.length) : ns.map (stOf ns cs) = cs := by
  refine List.ext_getElem (by simp [hl]) fun i h1 h2 => ?_
  rw [List.getElem_map]
  rw [List.length_map] at h1
  exact stOf_at hd hl i h1
def spLContent : Sp := fun vs H Q _ => ∃ (p db : Addr) (ps : List (Str × Int)) (ns : List Str), vs = [.ref p, .ref db] ∧ Bag H p ∧ H db = some (.dK (kvI ps)) ∧ ps.length ≤ 3 ∧
  ns.Perm (ps.map (·.1)) ∧ ns.Nodup ∧ sortedS ns = true ∧ (∀ x ∈ ns, 1 ≤ bdOf ps x ∧ bdOf ps x ≤ 3) ∧
  ∀ (r : V) (H' : Hp) (st : Str → Nat × Bool), Ext H H' → Dq H' r (ctD (ns.map st)) → (∀ x ∈ ns, ((st x).1 : Int) ≤ bdOf ps x) → Q r H'
abbrev s_lcontent : Stmt := (topS 51)
theorem sc_lcontent : FnScope ["_law_bag_here", "_law_bounds_here", "_law_name"] ["_law_bag_here", "_law_bounds_here"] (defScope s_lcontent) := ⟨rfl, rfl, rfl, by decide +kernel, rfl, by decide +kernel, by decide +kernel⟩
theorem ok_lcontent {f : Addr} {fd : FuncData} (F : Fun K "_law_content" "_law_content" s_lcontent f fd) (T : BT mg)
    (CS : Ca P w K mg base 2 "_law_state" ["_law_bag_here", "_law_bound"] spLState) :
    FnOk P w K mg base CX0 3 f fd ["_law_bag_here", "_law_bounds_here"] spLContent := by
  refine F.ok sc_lcontent (fun vs H Q E h => ?_) (fun cdv A outer s H vs Q E hr h => ?_)
  · obtain ⟨p, db, ps, ns, rfl, _⟩ := h
    rfl
  · obtain ⟨p, db, ps, ns, rfl, hB, hdb, hl3, hperm, hnd, hso, hbd, q⟩ := h
    refine ⟨_, (pss_one (ps_ret (pe_callTy call_tuple_of (by rfl) T.n_tuple (by decide +kernel) (pa_cons (pe_lc (own := [("_law_name", 2)]) (g := gName 2) (tt := tYes) rfl sc_lcontent.nd (pi_list (pe_callB (call_sortedD rfl) (by rfl) T.n_sorted (by decide +kernel) (pa_cons (pv 1) pa_nil))) (blkOk_by (N := ["_law_bag_here", "_law_bounds_here", "_law_name"]) (sc := defScope s_lcontent) (by decide +kernel)) (fun _ _ _ _ _ => pg_name (i := 2) sc_lcontent.nd rfl (.inl rfl)) (fun _ _ _ _ _ => pts_nil) (fun _ _ _ _ _ => pe_ca CS (hr.mono (by decide)) (by rfl) (pa_cons (pv 0) (pa_cons (pe_dget (hu_of hr) (pv 1) (pv 2) (fun _ _ => rfl)) pa_nil)))) pa_nil)))), ?_⟩
    have kl : (kvI ps).map (·.1) = (ps.map (·.1)).map Sum.inr := by
      unfold kvI
      rw [List.map_map, List.map_map]
      rfl
    have nl : ns.length ≤ 3 := by rw [hperm.length_eq, List.length_map]; exact hl3
    refine ⟨_, rfl, db, _, _, rfl, Rd.of hdb, kl, (by rw [List.length_map]; omega), fun ys p1 hperm2 hso2 hp1 => ?_⟩
    obtain rfl : ys = ns := sorted_one hso2 hso (hperm2.trans hperm.symm)
    have e3 := Ext.new (o := .lst (ys.map V.str)) hp1
    have ml : (ys.map V.str).length = ys.length := List.length_map ..
    refine ⟨p1, rfl, ⟨_, SqL.of upd_same⟩, fun D hD => ?_⟩
    refine lc1_acc (walk_list (xs := ys.map V.str)) (fun j zs Hz => ∃ cs, DqAll Hz zs (ctL cs) ∧ cs.length = j ∧ zs.length = j ∧ j ≤ 3 ∧ ∀ (k : Nat) (s : Nat × Bool) (x : Str), cs[k]? = some s → ys[k]? = some x → (s.1 : Int) ≤ bdOf ps x)
      (fun _ _ _ _ e ⟨cs, h, r⟩ => ⟨cs, DqAll.up e h, r⟩) ⟨[], .nil, rfl, rfl, by decide, fun k s x h => by simp at h⟩ hD
      (fun j zs Hz ⟨_, _, _, h, h3, _⟩ => Nat.lt_of_le_of_lt (show zs.length ≤ 3 by omega) (by decide)) (fun Hz ez => SqL.of (ez _ _ upd_same)) ?_ ?_
    · rintro j y Ha Hb zs hj ea hya ⟨rfl, hyj⟩ ⟨cs, q1, q2, q3, q4, q5⟩ QY QN kY kN
      rw [ml] at hj
      rw [List.getElem?_map, List.getElem?_eq_getElem hj] at hyj
      cases hyj
      have e0 : Ext H Hb := e3.trans ea
      have hm : ys[j] ∈ ps.map (·.1) := hperm.mem_iff.mp (List.getElem_mem hj)
      obtain ⟨b1, b3⟩ := hbd _ (List.getElem_mem hj)
      have g := DGet.k (k := .inr ys[j]) (e0 _ _ hdb)
      rw [kvI_val hm] at g
      refine ⟨rfl, ?_⟩
      refine tyes ?_
      refine ⟨_, rfl, _, rfl, _, rfl, db, _, rfl, g, p, bdOf ps ys[j], rfl, hB.up e0, b1, b3, fun r H2 c b e2 hr2 hc => ?_⟩
      have hD2 := e2 _ _ hya
      obtain ⟨ar, rfl, har⟩ := st_inv hr2
      have nD : ar ≠ D := fun z => by rw [z, hD2] at har; cases har
      refine kY _ _ e2 ⟨cs ++ [(c, b)], ?_, by rw [List.length_append, q2]; rfl, by rw [List.length_append, q3]; rfl, by omega, fun k s x h1 h2 => ?_⟩
      · unfold ctL
        rw [List.map_append]
        exact DqAll_snoc (DqAll.up (ext_del e2) q1) (.tup (by rw [del_ne nD]; exact har) (.cons (.int _) (.cons (.bl _) .nil)))
      · by_cases hk : k < cs.length
        · rw [List.getElem?_append_left hk] at h1
          exact q5 k s x h1 h2
        · rw [List.getElem?_append_right (by omega)] at h1
          have hk2 : k = j := by
            have := (List.getElem?_eq_some_iff.mp h1).1
            simp at this
            omega
          subst hk2
          rw [q2, Nat.sub_self] at h1
          cases h1
          rw [List.getElem?_eq_getElem hj] at h2
          cases h2
          exact hc
    · rintro H4 zs e4 hzs ⟨cs, q1, q2, q3, q4, q5⟩
      rw [ml] at q2
      refine ⟨D, _, rfl, .inl ⟨SqL.of hzs, fun t ht => ?_⟩⟩
      have e5 := Ext.new (o := .tup zs) ht
      refine q _ _ (stOf ys cs) ((e3.trans e4).trans e5) ?_ (fun x hx => ?_)
      · rw [stOf_map hnd q2]
        exact .tup upd_same (DqAll.up e5 q1)
      · obtain ⟨i, hi, rfl⟩ := List.getElem_of_mem hx
        rw [stOf_at hnd q2 i hi]
        exact q5 i _ _ (List.getElem?_eq_getElem _) (List.getElem?_eq_getElem hi)
end
end K25

set_option Elab.async false
set_option linter.all false
set_option maxRecDepth 100000
set_option maxHeartbeats 4000000
namespace K25
open PySem PySem.Spec PyProof.Rows L2 Ol RZ
open TL (tl)
theorem beh_send (c : Nat) (b : Bool) (bd : Int) : (beh "send" c b bd).isSome = (decide ((c : Int) < bd) && !b) := by
  unfold beh beh2 beh3 beh4
  rw [if_neg (show ¬ (("send" : Str) = "take" ∧ 0 < c) from fun z => absurd z.1 (by decide +kernel)), if_neg (show ¬ (("send" : Str) = "ended" ∧ b = true ∧ c = 0) from fun z => absurd z.1 (by decide +kernel)), if_neg (show ¬ (("send" : Str) = "close" ∧ b = false) from fun z => absurd z.1 (by decide +kernel))]
  cases b with
  | true => rw [if_neg (fun z => by cases z.2.1)]; simp
  | false =>
    by_cases h : (c : Int) < bd
    · rw [if_pos ⟨rfl, rfl, h⟩, decide_eq_true h]; rfl
    · rw [if_neg (fun z => h z.2.2), decide_eq_false h]; rfl
theorem beh_take (c : Nat) (b : Bool) (bd : Int) : (beh "take" c b bd).isSome = decide ((0 : Int) < c) := by
  unfold beh beh2 beh3 beh4
  rw [if_neg (show ¬ (("take" : Str) = "send" ∧ b = false ∧ (c : Int) < bd) from fun z => absurd z.1 (by decide +kernel)), if_neg (show ¬ (("take" : Str) = "ended" ∧ b = true ∧ c = 0) from fun z => absurd z.1 (by decide +kernel)), if_neg (show ¬ (("take" : Str) = "close" ∧ b = false) from fun z => absurd z.1 (by decide +kernel))]
  by_cases h : 0 < c
  · rw [if_pos ⟨rfl, h⟩, decide_eq_true (by omega)]; rfl
  · rw [if_neg (fun z => h z.2), decide_eq_false (by omega)]; rfl
theorem beh_ended (c : Nat) (b : Bool) (bd : Int) : (beh "ended" c b bd).isSome = (b && decide (c = 0)) := by
  unfold beh beh2 beh3 beh4
  rw [if_neg (show ¬ (("ended" : Str) = "send" ∧ b = false ∧ (c : Int) < bd) from fun z => absurd z.1 (by decide +kernel)), if_neg (show ¬ (("ended" : Str) = "take" ∧ 0 < c) from fun z => absurd z.1 (by decide +kernel)), if_neg (show ¬ (("ended" : Str) = "close" ∧ b = false) from fun z => absurd z.1 (by decide +kernel))]
  cases b with
  | false => rw [if_neg (fun z => by cases z.2.1)]; rfl
  | true =>
    by_cases h : c = 0
    · rw [if_pos ⟨rfl, rfl, h⟩, decide_eq_true h]; rfl
    · rw [if_neg (fun z => h z.2.2), decide_eq_false h]; rfl
theorem beh_close (c : Nat) (b : Bool) (bd : Int) : (beh "close" c b bd).isSome = !b := by
  unfold beh beh2 beh3 beh4
  rw [if_neg (show ¬ (("close" : Str) = "send" ∧ b = false ∧ (c : Int) < bd) from fun z => absurd z.1 (by decide +kernel)), if_neg (show ¬ (("close" : Str) = "take" ∧ 0 < c) from fun z => absurd z.1 (by decide +kernel)), if_neg (show ¬ (("close" : Str) = "ended" ∧ b = true ∧ c = 0) from fun z => absurd z.1 (by decide +kernel))]
  cases b with
  | true => rw [if_neg (fun z => by cases z.2)]; rfl
  | false => rw [if_pos ⟨rfl, rfl⟩]; rfl
section
variable {P : Program} {w : World} {K : PySem.W.Frag} {mg : Str → Option Value} {base : Heap} {C S N : Addr}
/-- a place in a list of texts -/
theorem ix_all (ns : List Str) : (ns.map V.str).all flatV = true := by
  rw [List.all_eq_true]
  intro x hx
  obtain ⟨y, _, rfl⟩ := List.mem_map.mp hx
  rfl
theorem ix_get {ns : List Str} (j : Nat) (hj : j < ns.length) : (ns.map V.str)[j]? = some (.str ns[j]) := by
  rw [List.getElem?_map, List.getElem?_eq_getElem hj]
  rfl
theorem ix_eq (x : Str) : eqV (.str x) (.str x) = true := beq_self_eq_true x
theorem ix_no {ns : List Str} (hd : ns.Nodup) (j : Nat) (hj : j < ns.length) (m : Nat) (z' : V) (hm : m < j) (hz : (ns.map V.str)[m]? = some z') : eqV z' (.str ns[j]) = false := by
  rw [List.getElem?_map, List.getElem?_eq_getElem (by omega)] at hz
  cases hz
  show (ns[m] == ns[j]) = false
  exact beq_eq_false_iff_ne.mpr fun e => List.pairwise_iff_getElem.mp hd m j (by omega) hj hm e
/-! ### _law_opens -/
def spOpens : Sp := fun vs H Q _ => ∃ (db da : Addr) (va z : V) (ps : List (Str × Int)) (ns : List Str) (st : Str → Nat × Bool) (word : Str) (j : Nat) (hj : j < ns.length), vs = [.ref db, va, .ref da] ∧ H db = some (.dK (kvI ps)) ∧ Dq H va (ctD (ns.map st)) ∧
  H da = some (.tup [.str word, .str ns[j], z]) ∧ ps.length ≤ 3 ∧ ns.Perm (ps.map (·.1)) ∧ ns.Nodup ∧ sortedS ns = true ∧ word ∈ words4 ∧
  ∀ H', Ext H H' → Q (.bl (beh word (st ns[j]).1 (st ns[j]).2 (bdOf ps ns[j])).isSome) H'
abbrev s_opens : Stmt := (topS 52)
theorem sc_opens : FnScope ["_law_bounds_here", "_law_content_here", "_law_arm_here", "_law_count", "_law_closed"] ["_law_bounds_here", "_law_content_here", "_law_arm_here"] (defScope s_opens) := ⟨rfl, rfl, rfl, by decide +kernel, rfl, by decide +kernel, by decide +kernel⟩
theorem kvI_keys (ps : List (Str × Int)) : (kvI ps).map (·.1) = (ps.map (·.1)).map Sum.inr := by
  unfold kvI
  rw [List.map_map, List.map_map]
  rfl
theorem ok_opens {f : Addr} {fd : FuncData} (F : Fun K "_law_opens" "_law_opens" s_opens f fd) (T : BT mg) :
    FnOk P w K mg base CX0 1 f fd ["_law_bounds_here", "_law_content_here", "_law_arm_here"] spOpens := by
  refine F.ok sc_opens (fun vs H Q E h => ?_) (fun cdv A outer s H vs Q E hr h => ?_)
  · obtain ⟨db, da, va, z, ps, ns, st, word, j, hj, rfl, _⟩ := h
    rfl
  · obtain ⟨db, da, va, z, ps, ns, st, word, j, hj, rfl, hdb, hva, hda, hl3, hperm, hnd, hso, hw, q⟩ := h
    have hu := hu_of hr
    refine ⟨_, (pss_cons (ps_asg (pe_ix ix_tup (pv 1) (pe_bm PySem.F.plainAttrs_list PySem.F.slot_list_index PySem.F.type_list_index mt_index (pe_callB (call_sortedD rfl) (by rfl) T.n_sorted (by decide +kernel) (pa_cons (pv 0) pa_nil)) (pa_cons (pe_ix ix_tup (pv 2) pe_int (fun _ _ => rfl)) pa_nil)) (fun _ _ => rfl)) (pg_tup (by rfl) (pgs_cons (pg_name (i := 3) sc_opens.nd rfl (.inl rfl)) (pgs_cons (pg_name (i := 4) sc_opens.nd rfl (.inl rfl)) pgs_nil))))
    (pss_cons (ps_if (pt_cmpR op_eq (pe_ix ix_tup (pv 2) pe_int (fun _ _ => rfl)) pe_str (nomark _))
      (pss_one (ps_ret (pe_and (pe_not (pv 4)) (pe_one (pe_cmpR op_lt (pv 3) (pe_dget hu (pv 0) (pe_ix ix_tup (pv 2) pe_int (fun _ _ => rfl)) (fun _ _ => rfl)) (nomark _))))))
      pss_nil)
    (pss_cons (ps_if (pt_cmpR op_eq (pe_ix ix_tup (pv 2) pe_int (fun _ _ => rfl)) pe_str (nomark _))
      (pss_one (ps_ret (pe_cmpR op_gt (pv 3) pe_int (nomark _))))
      pss_nil)
    (pss_one (ps_ret (pe_ifExp (pt_cmpR op_eq (pe_ix ix_tup (pv 2) pe_int (fun _ _ => rfl)) pe_str (nomark _)) (pe_and (pv 4) (pe_one (pe_cmpR op_eq (pv 3) pe_int (nomark _)))) (pe_not (pv 4)))))))), ?_⟩
    obtain ⟨a, xs, rfl, ha, hxs, hxl⟩ := ct_inv hva
    obtain ⟨u, hu2, du⟩ := DqAll_get hxs j (stD (st ns[j]).1 (st ns[j]).2) (by unfold ctL; rw [List.map_map, List.getElem?_map, List.getElem?_eq_getElem hj]; rfl)
    refine ⟨_, rfl, _, rfl, db, _, _, rfl, Rd.of hdb, kvI_keys ps, (by rw [List.length_map]; omega), fun ys p1 hperm2 hso2 hp1 => ?_⟩
    obtain rfl : ys = ns := sorted_one hso2 hso (hperm2.trans hperm.symm)
    have e3 := Ext.new (o := .lst (ys.map V.str)) hp1
    have h3 : upd H p1 (.lst (ys.map V.str)) p1 = some (.lst (ys.map V.str)) := upd_same
    have hdb3 := e3 _ _ hdb
    have ha3 := e3 _ _ ha
    have hda3 := e3 _ _ hda
    have du3 := du.up e3
    replace q := q _ e3
    refine ⟨.inl ⟨rfl, _, SqL.of h3⟩, ?_⟩
    generalize upd H p1 (.lst (ys.map V.str)) = H3 at *
    refine ⟨_, rfl, da, _, 1, _, rfl, rfl, SqT.of hda3, atI_nat (by rfl), ?_⟩
    refine ⟨p1, ys.map V.str, .str ys[j], j, .str ys[j], rfl, rfl, SqL.of h3, rfl, ix_all ys, ix_get j hj, ix_eq _, ix_no hnd j hj, ?_⟩
    refine ⟨a, _, _, _, rfl, rfl, SqT.of ha3, atI_nat hu2, ?_⟩
    obtain ⟨b, rfl, hb⟩ := st_inv du3
    generalize (st ys[j]).1 = c at *
    generalize (st ys[j]).2 = cl at *
    refine ⟨b, _, rfl, SqT.of hb, rfl, _, _, rfl, _, _, rfl, rfl, ?_⟩
    have i0 : ∀ {W : V → Hp → Prop}, W (.str word) H3 → ∃ (p : Addr) (xs : List V) (i : Int) (z : V), V.ref da = .ref p ∧ V.int 0 = .int i ∧ SqT K H3 p xs ∧ atI xs i = some z ∧ W z H3 := fun h => ⟨da, _, 0, _, rfl, rfl, SqT.of hda3, atI_nat (by rfl), h⟩
    refine ⟨_, rfl, da, _, 0, _, rfl, rfl, SqT.of hda3, atI_nat (by rfl), rfl, _, rfl, ?_⟩
    refine ite2 (fun g0 => ?_) (fun g0 => ?_)
    · have g0' := dec_word.mp g0
      subst g0'
      rw [beh_send] at q
      refine ⟨_, rfl, ?_⟩
      refine ⟨_, rfl, ?_⟩
      refine ⟨_, rfl, ?_⟩
      cases cl with
      | true =>
        refine iteF ?_
        simpa using q
      | false =>
        refine iteT ?_
        have gb := DGet.k (k := Sum.inr ys[j]) hdb3
        rw [kvI_val (hperm.mem_iff.mp (List.getElem_mem hj))] at gb
        refine ⟨_, rfl, _, rfl, _, rfl, da, _, 1, _, rfl, rfl, SqT.of hda3, atI_nat (by rfl), db, _, rfl, gb, _, _, rfl, rfl, ?_⟩
        simpa using q
    refine ⟨_, rfl, da, _, 0, _, rfl, rfl, SqT.of hda3, atI_nat (by rfl), rfl, _, rfl, ?_⟩
    refine ite2 (fun g1 => ?_) (fun g1 => ?_)
    · have g1' := dec_word.mp g1
      subst g1'
      rw [beh_take] at q
      exact ⟨_, rfl, _, _, rfl, rfl, q⟩
    refine ⟨_, rfl, da, _, 0, _, rfl, rfl, SqT.of hda3, atI_nat (by rfl), rfl, _, rfl, ?_⟩
    refine ite2 (fun g2 => ?_) (fun g2 => ?_)
    · have g2' := dec_word.mp g2
      subst g2'
      rw [beh_ended] at q
      refine ⟨_, rfl, _, rfl, ?_⟩
      refine ite2 (fun g => ?_) (fun g => ?_)
      · rw [g, Bool.true_and] at q
        refine ⟨_, rfl, rfl, ?_⟩
        have e : decide (V.int (c : Int) = V.int 0) = decide (c = 0) := by
          by_cases h : c = 0
          · rw [h]; rfl
          · rw [decide_eq_false h, decide_eq_false (fun z => h (by injection z with z; omega))]
        rw [e]
        exact q
      · rw [Bool.eq_false_iff.mpr g, Bool.false_and] at q
        exact q
    · have hcl : word = "close" := by
        unfold words4 at hw
        simp only [List.mem_cons, List.not_mem_nil, or_false] at hw
        rcases hw with h | h | h | h
        · exact h
        · exact absurd (dec_word.mpr h) g2
        · exact absurd (dec_word.mpr h) g0
        · exact absurd (dec_word.mpr h) g1
      subst hcl
      rw [beh_close] at q
      exact ⟨_, rfl, _, rfl, q⟩
end
end K25

set_option Elab.async false
set_option linter.all false
set_option maxRecDepth 100000
set_option maxHeartbeats 4000000
namespace K25
open PySem PySem.Spec PyProof.Rows L2 Ol RZ
open TL (tl)
/-! ### arms and places -/
abbrev Arm := Option (Str × Str) × Nat
def armD : Arm → PyData
  | (some (w, l), g) => .tuple [.str w, .str l, .int g]
  | (none, g) => .tuple [.str "else", .int g]
def GArm (a : Arm) : Prop := match a.1 with
  | some (w, l) => w ∈ words4 ∧ isNameS l = true
  | none => True
abbrev Place := Str × List Arm
def placeD (p : Place) : PyData := .tuple [.str p.1, .tuple (p.2.map armD)]
/-- places of a program with n of them -/
structure GPlace (n : Nat) (p : Place) : Prop where
  mode : p.1 = "first" ∨ p.1 = "any"
  arms : ∀ a ∈ p.2, GArm a ∧ a.2 < n
  els : (p.2.filter fun a => a.1.isNone).length ≤ 1
  few : p.2.length ≤ 5
theorem isArm_of {a : Arm} (h : GArm a) : isArmD (armD a) = true ∧ OkT (armD a) := by
  obtain ⟨o, g⟩ := a
  cases o with
  | none =>
    refine ⟨?_, fun ds e he hm => ?_⟩
    · show (isElseD (.str "else") && isNumD (.int (g : Int))) = true
      have : (0 : Int) ≤ (g : Int) := by omega
      simp [isElseD, isNumD, this]
    · cases he
      simp only [List.mem_cons, List.not_mem_nil, or_false] at hm
      rcases hm with rfl | rfl
      · exact fun y hy => by cases hy; exact ⟨by decide +kernel, by decide +kernel⟩
      · exact nope1 rfl
  | some p =>
    obtain ⟨w, l⟩ := p
    have h' : w ∈ words4 ∧ isNameS l = true := h
    have hw : isWordS w = true := by
      unfold isWordS
      have := h'.1
      unfold words4 at this
      simp only [List.mem_cons, List.not_mem_nil, or_false] at this
      exact decide_eq_true this
    refine ⟨?_, fun ds e he hm => ?_⟩
    · show (isWordD (.str w) && (isNameD (.str l) && isNumD (.int (g : Int)))) = true
      have : (0 : Int) ≤ (g : Int) := by omega
      have e1 : isWordD (.str w) = true := hw
      have e2 : isNameD (.str l) = true := h'.2
      rw [e1, e2]
      simp [isNumD, this]
    · cases he
      simp only [List.mem_cons, List.not_mem_nil, or_false] at hm
      rcases hm with rfl | rfl | rfl
      · exact fun y hy => by
          cases hy
          have := h'.1
          unfold words4 at this
          simp only [List.mem_cons, List.not_mem_nil, or_false] at this
          rcases this with rfl | rfl | rfl | rfl <;> exact ⟨by decide +kernel, by decide +kernel⟩
      · exact fun y hy => by cases hy; exact name_tx h'.2
      · exact nope1 rfl
section
variable {P : Program} {w : World} {K : PySem.W.Frag} {mg : Str → Option Value} {base : Heap} {C : Addr}
/-! ### is_mode -/
def modesV : List V := [.str "any", .str "first"]
def spGood (G : PyData → Prop) : Sp := fun vs H Q _ => ∃ (v : V) (d : PyData), vs = [v] ∧ Dq H v d ∧ G d ∧ ∀ H', Ext H H' → Q (.bl true) H'
abbrev s_mode : Stmt := (topS 19)
theorem sc_mode : FnScope ["thing"] ["thing"] (defScope s_mode) := ⟨rfl, rfl, rfl, by decide +kernel, rfl, by decide +kernel, by decide +kernel⟩
theorem ok_mode {f : Addr} {fd : FuncData} (F : Fun K "is_mode" "is_mode" s_mode f fd) (T : BT mg) {aM : Addr} (gM : mg "MODES" = some (.ref aM)) (hM : ∀ H, SqT K H aM modesV) :
    FnOk P w K mg base CX0 1 f fd ["thing"] (spGood fun d => d = .str "first" ∨ d = .str "any") := by
  refine F.ok sc_mode (fun vs H Q E h => ?_) (fun cdv A outer s H vs Q E hr h => ?_)
  · obtain ⟨v, d, rfl, _⟩ := h
    rfl
  · obtain ⟨v, d, rfl, hd, hg, q⟩ := h
    refine ⟨_, (pss_one (ps_ret (pe_and (pe_callB call_isi (by rfl) T.n_isinstance (by decide +kernel) (pa_cons (pv 0) (pa_cons (pe_bltn (v := .ty "str") (by rfl) T.n_str (by decide +kernel) rfl) pa_nil))) (pe_one (pe_cmpR op_in_seq (pv 0) (pe_glob (v := .ref aM) rfl gM rfl) (by rfl)))))), ?_⟩
    refine ⟨_, rfl, _, _, _, _, _, rfl, .ty "str", ty_of hd, ki_str d, _, rfl, ?_⟩
    have ks : kS d = true := by rcases hg with rfl | rfl <;> rfl
    rw [ks]
    refine iteT ?_
    obtain ⟨x, rfl, rfl⟩ := dq_str hd ks
    refine ⟨_, rfl, aM, _, rfl, .inr (hM _), rfl, by decide +kernel, ?_⟩
    have e : (if false = true then !inV (.str x) modesV else inV (.str x) modesV) = true := by
      rw [if_neg Bool.false_ne_true]
      rcases hg with z | z <;> cases z <;> decide +kernel
    rw [e]
    exact q _ (Ext.refl _)
/-! ### is_row_of -/
def spRow (G : PyData → Prop) (fN : Addr) : Sp := fun vs H Q _ => ∃ (a : Addr) (xs : List V) (ds : List PyData), vs = [.ref a, .ref fN] ∧ (H a = some (.lst xs) ∨ H a = some (.tup xs)) ∧ DqAll H xs ds ∧ (∀ d ∈ ds, G d) ∧ ds.length ≤ 60 ∧ ∀ H', Ext H H' → Q (.bl true) H'
abbrev s_row : Stmt := (topS 21)
theorem sc_row : FnScope ["thing", "is_part", "part"] ["thing", "is_part"] (defScope s_row) := ⟨rfl, rfl, rfl, by decide +kernel, rfl, by decide +kernel, by decide +kernel⟩
theorem kit_lt : PySem.W.kitAny K (.type "list") [.type "list", .type "tuple"] = some true :=
  kitAny_cons (kit_ty (by decide +kernel : kitB "list" "list" = some true)) (fun z => Bool.noConfusion z) (fun _ => rfl)
theorem kit_tt : PySem.W.kitAny K (.type "tuple") [.type "list", .type "tuple"] = some true :=
  kitAny_cons (kit_ty (by decide +kernel : kitB "tuple" "list" = some false)) (fun _ => kitAny_cons (kit_ty (by decide +kernel : kitB "tuple" "tuple" = some true)) (fun z => Bool.noConfusion z) (fun _ => rfl)) (fun z => Bool.noConfusion z)
theorem ok_row {G : PyData → Prop} {k : Nat} {f fN : Addr} {fd fdN : FuncData} (F : Fun K "is_row_of" "is_row_of" s_row f fd) (T : BT mg)
    (FN : FnOk P w K mg base CX0 k fN fdN ["thing"] (spGood G)) (kN : PySem.W.keepIn K (.ref fN) = true) (bN : Binds K fdN ["thing"] []) :
    FnOk P w K mg base CX0 (k + 1) f fd ["thing", "is_part"] (spRow G fN) := by
  refine F.ok sc_row (fun vs H Q E h => ?_) (fun cdv A outer s H vs Q E hr h => ?_)
  · obtain ⟨a, xs, ds, rfl, _⟩ := h
    rfl
  · obtain ⟨a, xs, ds, rfl, ha, hx, hg, hl, q⟩ := h
    have lx : xs.length = ds.length := hx.len
    rcases ha with ha | ha
    · refine ⟨_, (pss_one (ps_ret (pe_and (pe_callB call_isiT (by rfl) T.n_isinstance (by decide +kernel) (pa_cons (pv 0) (pa_cons (pe_tup (pa_cons (pe_bltn (v := .ty "list") (by rfl) T.n_list (by decide +kernel) rfl) (pa_cons (pe_bltn (v := .ty "tuple") (by rfl) T.n_tuple (by decide +kernel) rfl) pa_nil))) pa_nil)))
        (pe_one (pe_callB (cr_all rfl) (by rfl) T.n_all (by decide +kernel) (pa_cons (pe_lc (own := [("part", 2)]) (g := gName 2) (tt := tYes) rfl sc_row.nd (pi_list (pv 0)) (blkOk_by (N := ["thing", "is_part", "part"]) (sc := defScope s_row) (by decide +kernel)) (fun _ _ _ _ _ => pg_name (i := 2) sc_row.nd rfl (.inl rfl)) (fun _ _ _ _ _ => pts_nil)
          (fun _ _ _ _ _ => pe_callL (i := 1) FN (hr.mono (by omega)) rfl (by first | exact .inl rfl | exact .inr (.inl rfl) | exact .inr (.inr rfl)) kN bN .nil pass0 (pa_cons (pv 2) pa_nil))) pa_nil)))))), ?_⟩
      refine ⟨_, rfl, by show 2 ≤ sizeLine; decide, fun tp htp => ?_⟩
      have e1 := Ext.new (o := .tup [.ty "list", .ty "tuple"]) htp
      refine ⟨_, tp, _, _, _, true, rfl, upd_same, .cons (.ty _) (.cons (.ty _) .nil), .base (.lst (e1 _ _ ha)), kit_lt, _, rfl, ?_⟩
      refine iteT ?_
      have ha1 := e1 _ _ ha
      refine ⟨_, rfl, a, rfl, ⟨_, SqL.of ha1⟩, fun D hD => ?_⟩
      refine lc1_acc (walk_list (xs := xs)) (fun i ys _ => ys = List.replicate i (V.bl true) ∧ i ≤ 60) (fun _ _ _ _ _ h => h) ⟨rfl, by decide⟩ hD (fun i ys _ h => by rw [h.1, List.length_replicate]; exact Nat.lt_of_le_of_lt h.2 (by decide)) (fun H' e => SqL.of (e _ _ ha1)) ?_ ?_
      · rintro i x Hi H' ys hi e hy ⟨rfl, hxi⟩ ⟨hp, _⟩ QY QN kY kN
        have hi2 : i < ds.length := by omega
        obtain ⟨x', hx', dx⟩ := DqAll_get hx i ds[i] (List.getElem?_eq_getElem hi2)
        rw [hxi] at hx'
        cases hx'
        refine ⟨rfl, ?_⟩
        refine tyes ?_
        refine ⟨rfl, _, rfl, x, ds[i], rfl, dx.up (e1.trans e), hg _ (List.getElem_mem hi2), fun H4 e4 => ?_⟩
        exact kY _ H4 e4 ⟨by rw [hp, List.replicate_succ'], by omega⟩
      · rintro H4 ys e4 hy ⟨hp, _⟩
        refine ⟨D, List.replicate xs.length true, rfl, SqL.of (by rw [hy, hp, List.map_replicate]), ?_⟩
        rw [show (List.replicate xs.length true).all id = true by simp]
        exact q _ (e1.trans e4)
    · refine ⟨_, (pss_one (ps_ret (pe_and (pe_callB call_isiT (by rfl) T.n_isinstance (by decide +kernel) (pa_cons (pv 0) (pa_cons (pe_tup (pa_cons (pe_bltn (v := .ty "list") (by rfl) T.n_list (by decide +kernel) rfl) (pa_cons (pe_bltn (v := .ty "tuple") (by rfl) T.n_tuple (by decide +kernel) rfl) pa_nil))) pa_nil)))
        (pe_one (pe_callB (cr_all rfl) (by rfl) T.n_all (by decide +kernel) (pa_cons (pe_lc (own := [("part", 2)]) (g := gName 2) (tt := tYes) rfl sc_row.nd (pi_tup (pv 0)) (blkOk_by (N := ["thing", "is_part", "part"]) (sc := defScope s_row) (by decide +kernel)) (fun _ _ _ _ _ => pg_name (i := 2) sc_row.nd rfl (.inl rfl)) (fun _ _ _ _ _ => pts_nil)
          (fun _ _ _ _ _ => pe_callL (i := 1) FN (hr.mono (by omega)) rfl (by first | exact .inl rfl | exact .inr (.inl rfl) | exact .inr (.inr rfl)) kN bN .nil pass0 (pa_cons (pv 2) pa_nil))) pa_nil)))))), ?_⟩
      refine ⟨_, rfl, by show 2 ≤ sizeLine; decide, fun tp htp => ?_⟩
      have e1 := Ext.new (o := .tup [.ty "list", .ty "tuple"]) htp
      refine ⟨_, tp, _, _, _, true, rfl, upd_same, .cons (.ty _) (.cons (.ty _) .nil), .base (.tup (e1 _ _ ha)), kit_tt, _, rfl, ?_⟩
      refine iteT ?_
      have ha1 := e1 _ _ ha
      refine ⟨_, rfl, a, rfl, ⟨_, SqT.of ha1⟩, fun D hD => ?_⟩
      refine lc1_acc (walk_tup (xs := xs)) (fun i ys _ => ys = List.replicate i (V.bl true) ∧ i ≤ 60) (fun _ _ _ _ _ h => h) ⟨rfl, by decide⟩ hD (fun i ys _ h => by rw [h.1, List.length_replicate]; exact Nat.lt_of_le_of_lt h.2 (by decide)) (fun H' e => SqT.of (e _ _ ha1)) ?_ ?_
      · rintro i x Hi H' ys hi e hy ⟨rfl, hxi⟩ ⟨hp, _⟩ QY QN kY kN
        have hi2 : i < ds.length := by omega
        obtain ⟨x', hx', dx⟩ := DqAll_get hx i ds[i] (List.getElem?_eq_getElem hi2)
        rw [hxi] at hx'
        cases hx'
        refine ⟨rfl, ?_⟩
        refine tyes ?_
        refine ⟨rfl, _, rfl, x, ds[i], rfl, dx.up (e1.trans e), hg _ (List.getElem_mem hi2), fun H4 e4 => ?_⟩
        exact kY _ H4 e4 ⟨by rw [hp, List.replicate_succ'], by omega⟩
      · rintro H4 ys e4 hy ⟨hp, _⟩
        refine ⟨D, List.replicate xs.length true, rfl, SqL.of (by rw [hy, hp, List.map_replicate]), ?_⟩
        rw [show (List.replicate xs.length true).all id = true by simp]
        exact q _ (e1.trans e4)
/-! ### is_place, is_else -/
abbrev GA : PyData → Prop := fun d => ∃ a, GArm a ∧ d = armD a
abbrev GP : PyData → Prop := fun d => ∃ n p, GPlace n p ∧ d = placeD p
abbrev s_place : Stmt := (topS 26)
theorem sc_place : FnScope ["thing"] ["thing"] (defScope s_place) := ⟨rfl, rfl, rfl, by decide +kernel, rfl, by decide +kernel, by decide +kernel⟩
theorem place_inv {H : Hp} {v : V} {p : Place} (h : Dq H v (placeD p)) : ∃ a t xs, v = .ref a ∧ H a = some (.tup [.str p.1, .ref t]) ∧ H t = some (.tup xs) ∧ DqAll H xs (p.2.map armD) := by
  obtain ⟨a, xs, ds, rfl, e, h1, h2⟩ := dq_tup h rfl
  unfold placeD at e
  cases e
  cases h2 with
  | cons a1 t1 => cases t1 with
    | cons a2 t2 =>
      cases t2
      cases a1
      obtain ⟨t, ys, es, rfl, e2, h3, h4⟩ := dq_tup a2 rfl
      cases e2
      exact ⟨a, t, ys, rfl, h1, h3, h4⟩
theorem ok_place {f fA : Addr} {fd : FuncData} (F : Fun K "is_place" "is_place" s_place f fd) (T : BT mg) (gA : mg "is_arm" = some (.ref fA))
    (CM : Ca P w K mg base 1 "is_mode" ["thing"] (spGood fun d => d = .str "first" ∨ d = .str "any")) (CR : Ca P w K mg base 4 "is_row_of" ["thing", "is_part"] (spRow GA fA)) :
    FnOk P w K mg base CX0 5 f fd ["thing"] (spGood GP) := by
  refine F.ok sc_place (fun vs H Q E h => ?_) (fun cdv A outer s H vs Q E hr h => ?_)
  · obtain ⟨v, d, rfl, _⟩ := h
    rfl
  · obtain ⟨v, d, rfl, hd, ⟨n, p, hp, rfl⟩, q⟩ := h
    obtain ⟨a, t, xs, rfl, ha, ht, hx⟩ := place_inv hd
    refine ⟨_, (pss_cons (ps_if (PW.pt (pw_or (pt_not (pt_val (pe_callB call_isiT (by rfl) T.n_isinstance (by decide +kernel) (pa_cons (pv 0) (pa_cons (pe_tup (pa_cons (pe_bltn (v := .ty "list") (by rfl) T.n_list (by decide +kernel) rfl) (pa_cons (pe_bltn (v := .ty "tuple") (by rfl) T.n_tuple (by decide +kernel) rfl) pa_nil))) pa_nil))))) (pw_or1 (pt_cmpR op_ne (pe_callB call_len_seq (by rfl) T.n_len (by decide +kernel) (pa_cons (pv 0) pa_nil)) pe_int (nomark _))))) (pss_one (ps_ret pe_bl)) pss_nil)
      (pss_one (ps_ret (pe_and (pe_ca CM (hr.mono (by decide)) (by rfl) (pa_cons (pe_ix ix_tup (pv 0) pe_int (fun _ _ => rfl)) pa_nil)) (pe_one (pe_ca CR (hr.mono (by decide)) (by rfl) (pa_cons (pe_ix ix_tup (pv 0) pe_int (fun _ _ => rfl)) (pa_cons (pe_glob (v := .ref fA) rfl gA rfl) pa_nil)))))))), ?_⟩
    refine ⟨_, rfl, by show 2 ≤ sizeLine; decide, fun tp htp => ?_⟩
    have e1 := Ext.new (o := .tup [.ty "list", .ty "tuple"]) htp
    refine ⟨_, tp, _, _, _, true, rfl, upd_same, .cons (.ty _) (.cons (.ty _) .nil), .base (.tup (e1 _ _ ha)), kit_tt, _, rfl, ?_⟩
    refine iteF ?_
    refine ⟨_, rfl, a, _, rfl, .inr (SqT.of (e1 _ _ ha)), rfl, _, rfl, ?_⟩
    refine iteF ?_
    refine ⟨_, rfl, a, _, _, _, rfl, rfl, SqT.of (e1 _ _ ha), rfl, _, _, rfl, .str _, ?_, fun H2 e2 => ⟨_, rfl, ?_⟩⟩
    · rcases hp.mode with z | z
      · exact .inl (by rw [z])
      · exact .inr (by rw [z])
    refine iteT ?_
    have e12 := e1.trans e2
    refine ⟨_, rfl, a, _, _, _, rfl, rfl, SqT.of (e12 _ _ ha), rfl, t, xs, p.2.map armD, rfl, .inr (e12 _ _ ht), DqAll.up e12 hx, fun d hd => ?_, by rw [List.length_map]; have := hp.few; omega, fun H3 e3 => q _ (e12.trans e3)⟩
    obtain ⟨b, hb, rfl⟩ := List.mem_map.mp hd
    exact ⟨b, (hp.arms b hb).1, rfl⟩
def spElse : Sp := fun vs H Q _ => ∃ (v : V) (a : Arm), vs = [v] ∧ Dq H v (armD a) ∧ Q (.bl a.1.isNone) H
abbrev s_else : Stmt := (topS 27)
theorem sc_else : FnScope ["arm"] ["arm"] (defScope s_else) := ⟨rfl, rfl, rfl, by decide +kernel, rfl, by decide +kernel, by decide +kernel⟩
theorem ok_else {f : Addr} {fd : FuncData} (F : Fun K "is_else" "is_else" s_else f fd) (T : BT mg) :
    FnOk P w K mg base CX0 1 f fd ["arm"] spElse := by
  refine F.ok sc_else (fun vs H Q E h => ?_) (fun cdv A outer s H vs Q E hr h => ?_)
  · obtain ⟨v, a, rfl, _⟩ := h
    rfl
  · obtain ⟨v, a, rfl, hd, q⟩ := h
    refine ⟨_, (pss_one (ps_ret (pe_cmpR op_eq (pe_callB call_len_seq (by rfl) T.n_len (by decide +kernel) (pa_cons (pv 0) pa_nil)) pe_int (nomark _)))), ?_⟩
    obtain ⟨o, g⟩ := a
    cases o with
    | none =>
      obtain ⟨b, xs, ds, rfl, e, h1, h2⟩ := dq_tup (d := .tuple [.str "else", .int (g : Int)]) hd rfl
      cases e
      have l := h2.len
      refine ⟨_, rfl, b, _, rfl, .inr (SqT.of h1), rfl, ?_⟩
      rw [l]
      exact q
    | some p =>
      obtain ⟨b, xs, ds, rfl, e, h1, h2⟩ := dq_tup (d := .tuple [.str p.1, .str p.2, .int (g : Int)]) hd rfl
      cases e
      have l := h2.len
      refine ⟨_, rfl, b, _, rfl, .inr (SqT.of h1), rfl, ?_⟩
      rw [l]
      exact q
end
end K25

set_option Elab.async false
set_option linter.all false
set_option maxRecDepth 100000
set_option maxHeartbeats 4000000
namespace K25
open PySem PySem.Spec PyProof.Rows L2 Ol RZ
open TL (tl)
theorem arm_inv {H : Hp} {v : V} {a : Arm} (h : Dq H v (armD a)) : ∃ t xs, v = .ref t ∧ H t = some (.tup xs) ∧ atI xs (-1) = some (.int (a.2 : Int)) ∧ atI xs 0 = some (.str (match a.1 with | some p => p.1 | none => "else")) ∧ (∀ p, a.1 = some p → atI xs 1 = some (.str p.2)) := by
  obtain ⟨o, g⟩ := a
  cases o with
  | none =>
    obtain ⟨t, xs, ds, rfl, e, h1, h2⟩ := dq_tup (d := .tuple [.str "else", .int (g : Int)]) h rfl
    cases e
    cases h2 with
    | cons a1 t1 => cases t1 with
      | cons a2 t2 =>
        cases t2
        cases a1
        cases a2
        exact ⟨t, _, rfl, h1, rfl, rfl, fun p z => nomatch z⟩
  | some p =>
    obtain ⟨t, xs, ds, rfl, e, h1, h2⟩ := dq_tup (d := .tuple [.str p.1, .str p.2, .int (g : Int)]) h rfl
    cases e
    cases h2 with
    | cons a1 t1 => cases t1 with
      | cons a2 t2 => cases t2 with
        | cons a3 t3 =>
          cases t3
          cases a1
          cases a2
          cases a3
          exact ⟨t, _, rfl, h1, rfl, rfl, fun q z => by cases z; rfl⟩
section
variable {P : Program} {w : World} {K : PySem.W.Frag} {mg : Str → Option Value} {base : Heap} {C : Addr}
/-- what the text says of the class Program -/
structure PT (K : PySem.W.Frag) (mg : Str → Option Value) (C : Addr) : Prop where
  cl : Cls K C
  nP : NoAttr K C "_places"
  nU : NoAttr K C "_used"
  gC : mg "Program" = some (.ref C)
  n_enum : mg "enumerate" = none
abbrev cP (i : Nat) : Stmt := inClass (topS 28) i
/-- the places of a program -/
structure Pls (ps : List Place) : Prop where
  ne : ps ≠ []
  few : ps.length ≤ 6
  ok : ∀ p ∈ ps, GPlace ps.length p
def spCheck (C : Addr) : Sp := fun vs H Q _ => ∃ (p dx t : Addr) (fs : List (Str × V)) (xs : List V) (ps : List Place), vs = [.ref p] ∧ H p = some (.ins C dx fs) ∧ fs.lookup ("_places" : Str) = some (.ref t) ∧ fs.lookup ("_check" : Str) = none ∧ H t = some (.tup xs) ∧ DqAll H xs (ps.map placeD) ∧ Pls ps ∧ ∀ H', Ext H H' → Q .non H'
abbrev nChk : List Str := ["self", "_", "arms", "arm", "place"]
theorem sc_check : FnScope nChk ["self"] (defScope (cP 1)) := ⟨rfl, rfl, rfl, by decide +kernel, rfl, by decide +kernel, by decide +kernel⟩
theorem ok_check {f : Addr} {fd : FuncData} (F : Fun K "_check" "Program._check" (cP 1) f fd) (T : BT mg) (L : PT K mg C) (CE : Ca P w K mg base 1 "is_else" ["arm"] spElse) :
    FnOk P w K mg base CX0 2 f fd ["self"] (spCheck C) := by
  refine F.ok sc_check (fun vs H Q E h => ?_) (fun cdv A outer s H vs Q E hr h => ?_)
  · obtain ⟨p, dx, t, fs, xs, ps, rfl, _⟩ := h
    rfl
  · obtain ⟨p, dx, t, fs, xs, ps, rfl, hp, hl, _, ht, hx, ok, q⟩ := h
    refine ⟨_, (pss_cons (ps_for PassesOwn.never rfl (pi_tup (pe_fld (pv 0) rfl)) (pg_tup (by rfl) (pgs_cons (pg_name (i := 1) sc_check.nd rfl (.inl rfl)) (pgs_cons (pg_name (i := 2) sc_check.nd rfl (.inl rfl)) pgs_nil)))
        (pss_one (ps_for PassesOwn.never rfl (pi_tup (pv 2)) (pg_name (i := 3) sc_check.nd rfl (.inl rfl))
          (pss_one (ps_if (pt_cmpR op_ge (pe_ix ix_tup (pv 3) (pe_un un_neg pe_int) (fun _ _ => rfl)) (pe_callB call_len_seq (by rfl) T.n_len (by decide +kernel) (pa_cons (pe_fld (pv 0) rfl) pa_nil)) (nomark _)) (pss_one ps_never) pss_nil)))))
      (pss_one (ps_for PassesOwn.never rfl (pi_enumT (by rfl) L.n_enum (pa_cons (pe_fld (pv 0) rfl) pa_nil)) (pg_tup (by rfl) (pgs_cons (pg_name (i := 4) sc_check.nd rfl (.inl rfl)) (pgs_cons (pg_tup (by rfl) (pgs_cons (pg_name (i := 1) sc_check.nd rfl (.inl rfl)) (pgs_cons (pg_name (i := 2) sc_check.nd rfl (.inl rfl)) pgs_nil))) pgs_nil)))
        (pss_one (ps_if (pt_cmpR op_gt (pe_callB call_len_seq (by rfl) T.n_len (by decide +kernel) (pa_cons (pe_lc (own := [("arm", 3)]) (g := gName 3) rfl sc_check.nd (pi_tup (pv 2)) (blkOk_by (N := nChk) (sc := defScope (cP 1)) (by decide +kernel)) (fun _ _ _ _ _ => pg_name (i := 3) sc_check.nd rfl (.inl rfl)) (fun _ _ _ _ _ => pts_one (pt_val (pe_ca CE (hr.mono (by decide)) (by rfl) (pa_cons (pv 3) pa_nil)))) (fun _ _ _ _ _ => pv 3)) pa_nil)) pe_int (nomark _)) (pss_one ps_never) pss_nil))))), ?_⟩
    have lx : xs.length = ps.length := by rw [hx.len, List.length_map]
    refine ⟨_, rfl, p, C, dx, _, _, rfl, hp, L.cl, L.nP, hl, t, rfl, ⟨_, SqT.of ht⟩, ?_⟩
    refine for_tup (xs := xs) (fun i σ H' => ∃ s1 s2 s3, σ = [some (.ref p), s1, s2, s3, none] ∧ H' = H)
      ⟨none, none, none, rfl, rfl⟩ (fun i σ H' _ ⟨_, _, _, _, e⟩ => by rw [e]; exact SqT.of ht) ?_ ?_
    · rintro i x σ H1 hxi ⟨s1, s2, s3, rfl, rfl⟩
      have hi : i < ps.length := by have := (List.getElem?_eq_some_iff.mp hxi).1; omega
      obtain ⟨x', hx', dx'⟩ := DqAll_get hx i (placeD ps[i]) (by rw [List.getElem?_map, List.getElem?_eq_getElem hi]; rfl)
      rw [hxi] at hx'
      cases hx'
      obtain ⟨a, t2, ys, rfl, ha, ht2, hys⟩ := place_inv dx'
      have gp := ok.ok _ (List.getElem_mem hi)
      have ly : ys.length = ps[i].2.length := by rw [hys.len, List.length_map]
      refine ⟨a, _, rfl, SqT.of ha, rfl, _, _, rfl, _, _, rfl, rfl, ?_⟩
      refine ⟨_, rfl, t2, rfl, ⟨_, SqT.of ht2⟩, ?_⟩
      refine for_tup (xs := ys) (fun j σ H' => ∃ s3, σ = [some (.ref p), some (.str ps[i].1), some (.ref t2), s3, none] ∧ H' = H1)
        ⟨_, rfl, rfl⟩ (fun j σ H' _ ⟨_, _, e⟩ => by rw [e]; exact SqT.of ht2) ?_ ?_
      · rintro j y σ H2 hyj ⟨s3, rfl, rfl⟩
        have hj : j < ps[i].2.length := by have := (List.getElem?_eq_some_iff.mp hyj).1; omega
        obtain ⟨y', hy', dy'⟩ := DqAll_get hys j (armD ps[i].2[j]) (by rw [List.getElem?_map, List.getElem?_eq_getElem hj]; rfl)
        rw [hyj] at hy'
        cases hy'
        obtain ⟨t3, zs, rfl, h3, l3, _⟩ := arm_inv dy'
        have lt := (gp.arms _ (List.getElem_mem hj)).2
        refine ⟨_, rfl, _, rfl, t3, _, _, _, rfl, rfl, SqT.of h3, l3, _, rfl, p, C, dx, _, _, rfl, hp, L.cl, L.nP, hl, t, _, rfl, .inr (SqT.of ht), _, _, rfl, rfl, _, rfl, ?_⟩
        refine ite2 (fun g => ?_) (fun _ => ?_)
        · have := of_decide_eq_true g
          omega
        · exact ⟨_, rfl, rfl⟩
      · rintro σ H2 ⟨s3, rfl, rfl⟩
        exact ⟨_, _, _, rfl, rfl⟩
    · rintro σ H1 ⟨s1, s2, s3, rfl, rfl⟩
      refine ⟨_, rfl, p, C, dx, _, _, rfl, hp, L.cl, L.nP, hl, t, _, rfl, SqT.of ht, ?_⟩
      refine for_it (walk_enumT (xs := xs)) (fun i σ H' => ∃ s1 s2 s3 s4, σ = [some (.ref p), s1, s2, s3, s4] ∧ Ext H1 H')
        ⟨_, _, _, _, rfl, Ext.refl _⟩ (fun i σ H' _ ⟨_, _, _, _, _, e⟩ => SqT.of (e _ _ ht)) ?_ ?_
      · rintro i v σ H2 H3 hi ⟨s1, s2, s3, s4, rfl, e⟩ ⟨T', y1, y2, rfl, hT, rfl, g1, g2⟩
        have hi2 : i < ps.length := by omega
        obtain ⟨x', hx', dx'⟩ := DqAll_get hx i (placeD ps[i]) (by rw [List.getElem?_map, List.getElem?_eq_getElem hi2]; rfl)
        cases g1
        dsimp only at g2
        rw [hx'] at g2
        cases g2
        obtain ⟨a, t2, ys, rfl, ha, ht2, hys⟩ := place_inv dx'
        have gp := ok.ok _ (List.getElem_mem hi2)
        have ly : ys.length = ps[i].2.length := by rw [hys.len, List.length_map]
        have eT := Ext.new (o := .tup [.int (i : Int), .ref a]) hT
        have e2 := e.trans eT
        refine ⟨T', _, rfl, SqT.of upd_same, rfl, _, _, rfl, _, _, rfl, a, _, rfl, SqT.of (e2 _ _ ha), rfl, _, _, rfl, _, _, rfl, rfl, rfl, ?_⟩
        refine ⟨_, rfl, t2, rfl, ⟨_, SqT.of (e2 _ _ ht2)⟩, fun D hD => ?_⟩
        refine lc1_acc (walk_tup (xs := ys)) (fun k zs _ => zs.length = ((ps[i].2.take k).filter fun a => a.1.isNone).length) (fun _ _ _ _ _ h => h) rfl hD
          (fun k zs _ h => by rw [h]; exact Nat.lt_of_le_of_lt (Nat.le_trans (List.length_filter_le ..) (by rw [List.length_take]; have := gp.few; omega : _ ≤ 10)) (by decide)) (fun H' e' => SqT.of ((e2.trans e') _ _ ht2)) ?_ ?_
        · rintro k y Hi H' zs hk e' hy ⟨rfl, hyk⟩ hz QY QN kY kN
          have hk2 : k < ps[i].2.length := by omega
          obtain ⟨y', hy', dy'⟩ := DqAll_get hys k (armD ps[i].2[k]) (by rw [List.getElem?_map, List.getElem?_eq_getElem hk2]; rfl)
          rw [hyk] at hy'
          cases hy'
          refine ⟨rfl, _, rfl, y, ps[i].2[k], rfl, dy'.up (e2.trans e'), _, rfl, ?_⟩
          refine ite2 (fun g => ?_) (fun g => ?_)
          · refine ⟨_, rfl, kY _ _ (Ext.refl _) ?_⟩
            rw [List.take_add_one, List.getElem?_eq_getElem hk2, Option.toList_some, List.filter_append, List.length_append, List.length_append, hz, List.filter_cons_of_pos (p := fun a : Arm => a.1.isNone) (a := ps[i].2[k]) g]
            rfl
          · refine kN _ (Ext.refl _) ?_
            rw [List.take_add_one, List.getElem?_eq_getElem hk2, Option.toList_some, List.filter_append, List.length_append, hz, List.filter_cons_of_neg (p := fun a : Arm => a.1.isNone) (a := ps[i].2[k]) g]
            rfl
        · rintro H4 zs e4 h4 hz
          rw [ly, List.take_length] at hz
          refine ⟨D, _, rfl, .inl (SqL.of h4), _, _, rfl, rfl, _, rfl, ?_⟩
          refine ite2 (fun g => ?_) (fun _ => ?_)
          · have := of_decide_eq_true g
            have := gp.els
            omega
          · exact ⟨_, _, _, _, rfl, e2.trans e4⟩
      · rintro σ H2 ⟨s1, s2, s3, s4, rfl, e⟩
        exact q _ e
end
end K25

set_option Elab.async false
set_option linter.all false
set_option maxRecDepth 100000
set_option maxHeartbeats 4000000
namespace K25
open PySem PySem.Spec PyProof.Rows L2 Ol RZ
open TL (tl)
/-- the fields -/
def pf (t u : Addr) : List (Str × V) := [("_places", .ref t), ("_used", .ref u)]
theorem p_u : ¬ (("_places" : Str) = "_used") := by decide +kernel
theorem u_p : ¬ (("_used" : Str) = "_places") := by decide +kernel
theorem pf_p (t u : Addr) : (pf t u).lookup ("_places" : Str) = some (.ref t) := by
  unfold pf
  rw [List.lookup_cons_self]
theorem pf_u (t u : Addr) : (pf t u).lookup ("_used" : Str) = some (.ref u) := by
  unfold pf
  rw [List.lookup_cons, beq_eq_false_iff_ne.mpr u_p]
  dsimp only
  rw [List.lookup_cons_self]
theorem pf_no (t u : Addr) {m : Str} (h1 : ¬ m = "_places") (h2 : ¬ m = "_used") : (pf t u).lookup m = none := by
  unfold pf
  rw [List.lookup_cons, beq_eq_false_iff_ne.mpr h1]
  dsimp only
  rw [List.lookup_cons, beq_eq_false_iff_ne.mpr h2]
  rfl
theorem putp1 (t : Addr) : putF "_places" (.ref t) [] = ([("_places", V.ref t)] : List (Str × V)) := rfl
theorem putp2 (t u : Addr) : putF "_used" (.ref u) [("_places", V.ref t)] = pf t u := by
  show (if ("_places" : Str) = "_used" then _ else (("_places" : Str), V.ref t) :: putF "_used" (V.ref u) []) = _
  rw [if_neg p_u]
  rfl
/-- the lanes that stand in arms -/
def lanesA (as : List Arm) : List Str := as.filterMap fun a => a.1.map (·.2)
def lanesP (ps : List Place) : List Str := ps.flatMap fun p => lanesA p.2
theorem lanesA_snoc (as : List Arm) (a : Arm) : lanesA (as ++ [a]) = lanesA as ++ lanesA [a] := List.filterMap_append ..
theorem lanesP_snoc (ps : List Place) (p : Place) : lanesP (ps ++ [p]) = lanesP ps ++ lanesA p.2 := by
  unfold lanesP
  rw [List.flatMap_append]
  simp
/-- a Program of these places stands at p -/
def ProgAt (C : Addr) (H : Hp) (p : Addr) (ps : List Place) : Prop :=
  ∃ dx t u xs us, H p = some (.ins C dx (pf t u)) ∧ H t = some (.tup xs) ∧ DqAll H xs (ps.map placeD) ∧ H u = some (.tup (us.map V.str)) ∧ sortedS us = true ∧ us.Nodup ∧ us.length ≤ 40 ∧ (∀ x, x ∈ us ↔ x ∈ lanesP ps) ∧ Pls ps
theorem ProgAt.up {C : Addr} {H H' : Hp} {p : Addr} {ps : List Place} (e : Ext H H') : ProgAt C H p ps → ProgAt C H' p ps
  | ⟨dx, t, u, xs, us, h1, h2, h3, h4, r⟩ => ⟨dx, t, u, xs, us, e _ _ h1, e _ _ h2, DqAll.up e h3, e _ _ h4, r⟩
def kvT (ns : List Str) : List (Key × V) := ns.map fun x => (.inr x, .bl true)
theorem kvT_val {ns : List Str} {x : Str} : valV (kvT ns) (.inr x) = if x ∈ ns then some (.bl true) else none := by
  induction ns with
  | nil => rfl
  | cons y ns ih =>
    unfold kvT
    rw [List.map_cons]
    by_cases c : y = x
    · rw [valV_pos (by rw [c]), if_pos (by rw [c]; exact List.mem_cons_self)]
    · rw [valV_neg (fun z => c (Sum.inr.inj z))]
      have ih' : valV (ns.map fun x => (Sum.inr x, V.bl true)) (.inr x) = if x ∈ ns then some (.bl true) else none := ih
      rw [ih']
      by_cases m : x ∈ ns
      · rw [if_pos m, if_pos (List.mem_cons_of_mem _ m)]
      · rw [if_neg m, if_neg]
        intro z
        rcases List.mem_cons.mp z with z | z
        · exact c z.symm
        · exact m z
section
variable {P : Program} {w : World} {K : PySem.W.Frag} {mg : Str → Option Value} {base : Heap} {C : Addr}
abbrev rTupOf (K : PySem.W.Frag) : List V → Hp → VK → Prop := fun xs H Q => ∃ p ys, xs = [.ref p] ∧ ((SqL K H p ys ∧ ∀ l, H l = none → Q (.ref l) (upd H l (.tup ys))) ∨ (SqT K H p ys ∧ Q (.ref p) H))
theorem kvT_put {ns : List Str} {x : Str} (h : x ∈ ns) : putK (kvT ns) (.inr x) (.bl true) = kvT ns := by
  have some_ : (valV (kvT ns) (.inr x)).isSome = true := by rw [kvT_val, if_pos h]; rfl
  unfold putK
  rw [valV_any, some_, if_pos rfl]
  unfold kvT
  rw [List.map_map]
  refine List.map_congr_left fun y _ => ?_
  show (if Sum.inr y = (Sum.inr x : Key) then (Sum.inr y, V.bl true) else (Sum.inr y, V.bl true)) = _
  split <;> rfl
theorem kvT_new {ns : List Str} {x : Str} (h : x ∉ ns) : putK (kvT ns) (.inr x) (.bl true) = kvT (ns ++ [x]) := by
  rw [putK_new (by rw [kvT_val, if_neg h])]
  unfold kvT
  rw [List.map_append]
  rfl
def armsAt (ps : List Place) (i : Nat) : List Arm := (ps[i]?.map (·.2)).getD []
theorem one_field (t : Addr) {m : Str} (h : ¬ m = "_places") : ([("_places", V.ref t)] : List (Str × V)).lookup m = none := by
  rw [List.lookup_cons, beq_eq_false_iff_ne.mpr h]
  rfl
theorem dq_app {H : Hp} : ∀ {a b : List V} {da db : List PyData}, DqAll H a da → DqAll H b db → DqAll H (a ++ b) (da ++ db)
  | _, _, _, _, .nil, h => h
  | _, _, _, _, .cons x t, h => .cons x (dq_app t h)
structure ChM (P : Program) (w : World) (K : PySem.W.Frag) (mg : Str → Option Value) (base : Heap) (C : Addr) : Prop where
  has : ∃ (f : Addr) (fd : FuncData), FnOk P w K mg base CX0 2 f fd ["self"] (spCheck C) ∧ Meth K C "_check" f ∧ Binds K fd ["self"] []
def spProg (C : Addr) : Sp := fun vs H Q _ => ∃ (H0 : Hp) (p dx a : Addr) (xs : List V) (ps : List Place), vs = [.ref p, .ref a] ∧ H0 p = none ∧ Ext H0 H ∧ H p = some (.ins C dx []) ∧ H0 a = some (.lst xs) ∧ DqAll H0 xs (ps.map placeD) ∧ Pls ps ∧
  ∀ H', Ext H0 H' → ProgAt C H' p ps → Q .non H'
abbrev nInit : List Str := ["self", "places", "names", "_", "arms", "arm", "mode"]
theorem sc_prog : FnScope nInit ["self", "places"] (defScope (cP 0)) := ⟨rfl, rfl, rfl, by decide +kernel, rfl, by decide +kernel, by decide +kernel⟩
theorem ok_prog {f fP : Addr} {fd : FuncData} (F : Fun K "__init__" "Program.__init__" (cP 0) f fd) (T : BT mg) (L : PT K mg C) (gP : mg "is_place" = some (.ref fP))
    (CR : Ca P w K mg base 6 "is_row_of" ["thing", "is_part"] (spRow GP fP)) (CE : Ca P w K mg base 1 "is_else" ["arm"] spElse) (MC : ChM P w K mg base C) :
    FnOk P w K mg base CX0 7 f fd ["self", "places"] (spProg C) := by
  obtain ⟨fC, fdC, FC, mc, bC⟩ := MC.has
  refine F.ok sc_prog (fun vs H Q E h => ?_) (fun cdv A outer s H vs Q E hr h => ?_)
  · obtain ⟨H0, p, dx, a, xs, ps, rfl, _⟩ := h
    rfl
  · obtain ⟨H0, p, dx, a, xs, ps, rfl, hp0, e0, hp, ha, hx, ok, q⟩ := h
    refine ⟨_, (pss_cons (ps_if (PW.pt (pw_or (pt_not (pt_val (pe_ca CR (hr.mono (by decide)) (by rfl) (pa_cons (pv 1) (pa_cons (pe_glob (v := .ref fP) rfl gP rfl) pa_nil))))) (pw_or1 (pt_cmpR op_eq (pe_callB call_len_seq (by rfl) T.n_len (by decide +kernel) (pa_cons (pv 1) pa_nil)) pe_int (nomark _))))) (pss_one ps_never) pss_nil)
      (pss_cons (ps_fld (pv 0) (pe_callTy call_tuple_of (by rfl) T.n_tuple (by decide +kernel) (pa_cons (pe_lc (own := [("mode", 6), ("arms", 4)]) (g := gTup K 2 (gCons (gName 6) (gCons (gName 4) gNil))) (tt := tYes) rfl sc_prog.nd (pi_list (pv 1)) (blkOk_by (N := nInit) (sc := defScope (cP 0)) (by decide +kernel)) (fun _ _ _ _ _ => pg_tup (by rfl) (pgs_cons (pg_name (i := 6) sc_prog.nd rfl (.inl rfl)) (pgs_cons (pg_name (i := 4) sc_prog.nd rfl (.inl rfl)) pgs_nil))) (te := tTup (tCons (tVar 6) (tCons (tCB (rTupOf K) (tCons (tVar 4) tNil)) tNil))) (fun _ _ _ _ _ => pts_nil) (fun _ _ _ _ _ => pe_tup (pa_cons (pv 6) (pa_cons (pe_callTy (r := rTupOf K) (T := "tuple") call_tuple_of (by rfl) T.n_tuple (by decide +kernel) (pa_cons (pv 4) pa_nil)) pa_nil)))) pa_nil)) rfl)
      (pss_cons (ps_expr (pe_meth0 (pv 0) L.cl mc FC (hr.mono (by decide)) bC .nil pass0))
      (pss_cons (ps_setDc2 (i := 2) (own := [("_", 3), ("arms", 4), ("arm", 5)]) (vs1 := [5]) (g := gTup K 2 (gCons (gName 3) (gCons (gName 4) gNil))) (g1 := gName 5) (tt := tYes) (wi1 := iTup K (tVar 4)) rfl sc_prog.nd rfl rfl (sw_dict rfl rfl rfl (by decide +kernel)) (pi_tup (pe_fld (pv 0) rfl)) (blkOk_by (N := nInit) (sc := defScope (cP 0)) (by decide +kernel)) (by decide)
          (fun _ _ _ _ _ => pg_tup (by rfl) (pgs_cons (pg_name (i := 3) sc_prog.nd rfl (.inl rfl)) (pgs_cons (pg_name (i := 4) sc_prog.nd rfl (.inl rfl)) pgs_nil))) (fun _ _ _ _ _ => pts_nil) (fun _ _ _ _ _ => pi_tup (pv 4)) (fun _ _ _ _ _ => pg_name (i := 5) sc_prog.nd rfl (.inl rfl))
          (fun _ _ _ _ _ => pts_one (pt_not (pt_val (pe_ca CE (hr.mono (by decide)) (by rfl) (pa_cons (pv 5) pa_nil))))) (tk := tOp (rIxT K) (tVar 5) (tC (.int 1))) (fun _ _ _ _ _ => pe_ix ix_tup (pv 5) pe_int (fun _ _ => rfl)) (fun _ _ _ _ _ => pe_bl))
      (pss_one (ps_fld (pv 0) (pe_callTy call_tuple_of (by rfl) T.n_tuple (by decide +kernel) (pa_cons (pe_callB (call_sortedD rfl) (by rfl) T.n_sorted (by decide +kernel) (pa_cons (pv 2) pa_nil)) pa_nil)) rfl)))))), ?_⟩
    have lx : xs.length = ps.length := by rw [hx.len, List.length_map]
    have p0 : 0 < ps.length := List.length_pos_iff.mpr ok.ne
    have pf6 := ok.few
    refine ⟨_, rfl, a, xs, ps.map placeD, rfl, .inl (e0 _ _ ha), DqAll.up e0 hx, (fun d hd => by
      obtain ⟨b, hb, rfl⟩ := List.mem_map.mp hd
      exact ⟨_, b, ok.ok b hb, rfl⟩), by rw [List.length_map]; omega, fun H1 e1 => ⟨_, rfl, ?_⟩⟩
    refine iteF ?_
    have e01 := e0.trans e1
    have hp1 := e1 _ _ hp
    refine ⟨_, rfl, a, _, rfl, .inl (SqL.of (e01 _ _ ha)), rfl, _, rfl, ?_⟩
    refine ite2 (fun g => ?_) (fun _ => ?_)
    · have z := of_decide_eq_true g
      injection z with z
      omega
    -- the places
    refine ⟨_, rfl, a, rfl, ⟨_, SqL.of (e01 _ _ ha)⟩, fun D hD => ?_⟩
    refine lc1_acc (walk_list (xs := xs)) (fun i zs Hd => DqAll (del Hd p) zs ((ps.take i).map placeD)) (fun _ _ _ _ e h => DqAll.up (ext_del e) h) .nil hD
      (fun i zs _ h => by rw [h.len, List.length_map, List.length_take]; exact Nat.lt_of_le_of_lt (show _ ≤ 6 by omega) (by decide)) (fun H' e => SqL.of ((e01.trans e) _ _ ha)) ?_ ?_
    · rintro i x Hi H' zs hi e hy ⟨rfl, hxi⟩ hz QY QN kY kN
      have hi2 : i < ps.length := by omega
      obtain ⟨x', hx', dx'⟩ := DqAll_get hx i (placeD ps[i]) (by rw [List.getElem?_map, List.getElem?_eq_getElem hi2]; rfl)
      rw [hxi] at hx'
      cases hx'
      obtain ⟨b, t2, ys, rfl, hb, ht2, hys⟩ := place_inv dx'
      have e0i := e01.trans e
      refine ⟨b, _, rfl, SqT.of (e0i _ _ hb), rfl, _, _, rfl, _, _, rfl, rfl, rfl, ?_⟩
      refine tyes ?_
      refine ⟨_, rfl, _, rfl, t2, ys, rfl, .inr ⟨SqT.of (e0i _ _ ht2), by show 2 ≤ sizeLine; decide, fun t3 ht3 => ?_⟩⟩
      have e3 := Ext.new (o := .tup [.str ps[i].1, .ref t2]) ht3
      refine kY _ _ e3 ?_
      have n1 : t3 ≠ p := fun z => by rw [z, e _ _ hp1] at ht3; cases ht3
      have n2 : t3 ≠ D := fun z => by rw [z, hy] at ht3; cases ht3
      have hD0 : H0 D = none := e01.free hD
      have ex : Ext H0 (del (del (upd H' t3 (.tup [.str ps[i].1, .ref t2])) D) p) := ext_to (ext_to (e0i.trans e3) hD0) hp0
      rw [List.take_add_one, List.getElem?_eq_getElem hi2, Option.toList_some, List.map_append]
      have one : DqAll (del (del (upd H' t3 (.tup [.str ps[i].1, .ref t2])) D) p) [.ref t3] [placeD ps[i]] :=
        .cons (.tup (by rw [del_ne n1, del_ne n2]; exact upd_same) (.cons (.str _) (.cons (.tup (ex _ _ ht2) (DqAll.up ex hys)) .nil))) .nil
      exact dq_app (DqAll.up (ext_del (ext_del e3)) hz) one
    intro H2 zs e2 hD2 hz
    rw [lx, List.take_length] at hz
    have hp2 := e2 _ _ hp1
    refine ⟨D, _, rfl, .inl ⟨SqL.of hD2, fun t ht => ?_⟩⟩
    have et := Ext.new (o := .tup zs) ht
    have npt : p ≠ t := fun z => by rw [← z, hp2] at ht; cases ht
    refine ⟨_, rfl, p, C, dx, [], rfl, et _ _ hp2, L.cl, L.nP, (by show 0 < 1000; decide), ?_⟩
    rw [putp1]
    have e4 : Ext H0 (upd (upd H2 t (.tup zs)) p (.ins C dx [("_places", .ref t)])) := Ext.mut ((e01.trans e2).trans et) hp0
    have h4t : (upd (upd H2 t (.tup zs)) p (.ins C dx [("_places", .ref t)])) t = some (.tup zs) := by
      rw [upd_ne (Ne.symm npt)]
      exact upd_same
    have h4p : (upd (upd H2 t (.tup zs)) p (.ins C dx [("_places", .ref t)])) p = some (.ins C dx [("_places", .ref t)]) := upd_same
    have h4d : DqAll (del (upd (upd H2 t (.tup zs)) p (.ins C dx [("_places", .ref t)])) p) zs (ps.map placeD) := by
      rw [del_upd]
      exact DqAll.up (ext_del et) hz
    generalize upd (upd H2 t (.tup zs)) p (.ins C dx [("_places", .ref t)]) = H4 at *
    have h4z := DqAll.up del_ext h4d
    -- the check
    have lk : ([("_places", V.ref t)] : List (Str × V)).lookup ("_places" : Str) = some (.ref t) := List.lookup_cons_self
    have lc : ([("_places", V.ref t)] : List (Str × V)).lookup ("_check" : Str) = none := one_field t (by decide +kernel)
    refine ⟨_, rfl, p, dx, _, rfl, h4p, lc, p, dx, t, _, zs, ps, rfl, h4p, lk, lc, h4t, h4z, ok, fun H5 e5 => ?_⟩
    have h5p := e5 _ _ h4p
    have h5t := e5 _ _ h4t
    have h5z := DqAll.up e5 h4z
    have e05 := e4.trans e5
    have lz : zs.length = ps.length := by rw [h5z.len, List.length_map]
    -- the lanes in use
    refine ⟨_, rfl, p, C, dx, _, _, rfl, h5p, L.cl, L.nP, lk, t, rfl, ⟨_, SqT.of h5t⟩, fun D2 hD2 => ?_⟩
    refine dc2_acc (walk_tup (xs := zs)) (fun i j kvs _ => ∃ ns : List Str, kvs = kvT ns ∧ ns.Nodup ∧ (∀ x, x ∈ ns ↔ x ∈ lanesP (ps.take i) ++ lanesA ((armsAt ps i).take j)) ∧ ns.length ≤ 5 * i + j ∧ i ≤ 6 ∧ j ≤ 5) (fun _ _ _ _ _ _ h => h)
      ⟨[], rfl, List.nodup_nil, (fun x => by simp [lanesP, lanesA]), by decide, by decide, by decide⟩ hD2
      (fun i j kvs _ ⟨ns, e, _, _, h1, h2, h3⟩ => by rw [e]; unfold kvT; rw [List.length_map]; exact Nat.lt_of_le_of_lt (show _ ≤ 35 by omega) (by decide)) (fun H' e => SqT.of (e _ _ h5t)) ?_ ?_
    · rintro i x Hi H' kvs hi e hy ⟨rfl, hxi⟩ hP R hR
      have hi2 : i < ps.length := by omega
      obtain ⟨x', hx', dx'⟩ := DqAll_get h5z i (placeD ps[i]) (by rw [List.getElem?_map, List.getElem?_eq_getElem hi2]; rfl)
      rw [hxi] at hx'
      cases hx'
      obtain ⟨b, t2, ys, rfl, hb, ht2, hys⟩ := place_inv dx'
      have gp := ok.ok _ (List.getElem_mem hi2)
      have ly : ys.length = ps[i].2.length := by rw [hys.len, List.length_map]
      have ea : armsAt ps i = ps[i].2 := by
        unfold armsAt
        rw [List.getElem?_eq_getElem hi2]
        rfl
      refine ⟨b, _, rfl, SqT.of (e _ _ hb), rfl, _, _, rfl, _, _, rfl, rfl, rfl, ?_⟩
      refine ⟨_, rfl, t2, rfl, ⟨_, SqT.of (e _ _ ht2)⟩, hR _ _ _ ⟨Ext.refl _, ys.length, _, _, walk_tup (xs := ys), fun Hz ez => SqT.of (ez _ _ (ext_to e hD2 _ _ ht2)), ?_, ?_⟩⟩
      · rintro kvs Hz ⟨ns, h1, h2, h3, h4, h5, h6⟩
        refine ⟨ns, h1, h2, fun z => ?_, by omega, by omega, by omega⟩
        rw [h3 z, ea, ly, List.take_length, List.take_add_one, List.getElem?_eq_getElem hi2, Option.toList_some, lanesP_snoc, List.take_zero]
        simp [lanesA]
      · rintro j y Ha Hb kvs hj eH ha2 ⟨rfl, hyj⟩ ⟨ns, rfl, h2, h3, h4, h5, h6⟩ QY QN kY kN
        have hj2 : j < ps[i].2.length := by omega
        obtain ⟨y', hy', dy'⟩ := DqAll_get hys j (armD ps[i].2[j]) (by rw [List.getElem?_map, List.getElem?_eq_getElem hj2]; rfl)
        rw [hyj] at hy'
        cases hy'
        have dy := dy'.up ((ext_to e hD2).trans eH)
        obtain ⟨t4, ws, et4, h7, _, _, h8⟩ := arm_inv dy
        have few := gp.few
        have tk : (armsAt ps i).take (j + 1) = (armsAt ps i).take j ++ [ps[i].2[j]] := by
          rw [ea, List.take_add_one, List.getElem?_eq_getElem hj2]
          rfl
        refine ⟨rfl, _, rfl, y, ps[i].2[j], rfl, dy, _, rfl, ?_⟩
        cases ho : ps[i].2[j].1 with
        | none =>
          refine iteF ?_
          refine kN _ (Ext.refl _) ⟨ns, rfl, h2, fun z => ?_, by omega, h5, by omega⟩
          have l0 : lanesA [ps[i].2[j]] = [] := by simp [lanesA, ho]
          rw [h3 z, tk, lanesA_snoc, l0, List.append_nil]
        | some pr =>
          refine iteT ?_
          refine ⟨_, rfl, t4, ws, 1, .str pr.2, et4, rfl, SqT.of h7, h8 pr ho, ?_⟩
          have l1 : lanesA [ps[i].2[j]] = [pr.2] := by simp [lanesA, ho]
          by_cases m : pr.2 ∈ ns
          · refine kY (.inr pr.2) (.bl true) _ (Ext.refl _) ⟨ns, kvT_put m, h2, fun z => ?_, by omega, h5, by omega⟩
            rw [tk, lanesA_snoc, l1]
            constructor
            · intro hz
              have := (h3 z).mp hz
              simp only [List.mem_append] at this ⊢
              rcases this with h | h
              · exact .inl h
              · exact .inr (.inl h)
            · intro hz
              simp only [List.mem_append, List.mem_singleton] at hz
              rcases hz with h | h | h
              · exact (h3 z).mpr (List.mem_append_left _ h)
              · exact (h3 z).mpr (List.mem_append_right _ h)
              · rw [h]; exact m
          · refine kY (.inr pr.2) (.bl true) _ (Ext.refl _) ⟨ns ++ [pr.2], kvT_new m, ?_, fun z => ?_, by rw [List.length_append, List.length_singleton]; omega, h5, by omega⟩
            · refine List.nodup_append.mpr ⟨h2, by simp, fun c hc d hd e => ?_⟩
              rw [List.mem_singleton.mp hd] at e
              exact m (e ▸ hc)
            · rw [tk, lanesA_snoc, l1]
              simp only [List.mem_append, List.mem_singleton]
              rw [h3 z]
              simp only [List.mem_append]
              constructor
              · rintro ((h | h) | h)
                · exact .inl h
                · exact .inr (.inl h)
                · exact .inr (.inr h)
              · rintro (h | h | h)
                · exact .inl (.inl h)
                · exact .inl (.inr h)
                · exact .inr h
    rintro H6 kvs e6 hD6 ⟨ns, rfl, h2, h3, h4, _, _⟩
    rw [lz, List.take_length] at h3
    have h3' : ∀ x, x ∈ ns ↔ x ∈ lanesP ps := fun x => by rw [h3 x]; simp [lanesA]
    rw [lz] at h4
    have kk : (kvT ns).map (·.1) = ns.map Sum.inr := by
      unfold kvT
      rw [List.map_map]
      rfl
    refine ⟨_, rfl, D2, _, ns, rfl, Rd.of hD6, kk, by omega, fun us l hperm hso hl => ?_⟩
    have e7 := Ext.new (o := .lst (us.map V.str)) hl
    refine ⟨l, _, rfl, .inl ⟨SqL.of upd_same, fun u hu => ?_⟩⟩
    have e8 := Ext.new (o := .tup (us.map V.str)) hu
    have k8 := upd_same (H := upd H6 l (.lst (us.map V.str))) (a := u) (o := HO.tup (us.map V.str))
    have e58 := (e6.trans e7).trans e8
    generalize upd (upd H6 l (.lst (us.map V.str))) u (.tup (us.map V.str)) = H8 at *
    refine ⟨_, rfl, p, C, dx, _, rfl, e58 _ _ h5p, L.cl, L.nU, (by show 1 < 1000; decide), ?_⟩
    rw [putp2]
    have npu : p ≠ u := fun z => by
      have := e58 _ _ h5p
      rw [z, k8] at this
      cases this
    refine q _ (Ext.mut (e05.trans e58) hp0) ⟨dx, t, u, zs, us, upd_same, ?_, ?_, ?_, hso, hperm.nodup_iff.mpr h2, by rw [hperm.length_eq]; omega, fun x => by rw [hperm.mem_iff, h3' x], ok⟩
    · rw [upd_ne (Ne.symm npt)]
      exact e58 _ _ h5t
    · have z1 := DqAll.up (ext_del (D := p) (e5.trans e58)) h4d
      rw [← del_upd (o := .ins C dx (pf t u))] at z1
      exact DqAll.up del_ext z1
    · rw [upd_ne (Ne.symm npu)]
      exact k8
end
end K25

set_option Elab.async false
set_option linter.all false
set_option maxRecDepth 100000
set_option maxHeartbeats 4000000
namespace K25
open PySem PySem.Spec PyProof.Rows L2 Ol RZ
open TL (tl)
section
variable {P : Program} {w : World} {K : PySem.W.Frag} {mg : Str → Option Value} {base : Heap} {C : Addr}
/-! ### what a Program tells -/
def spPl (C : Addr) : Sp := fun vs H Q _ => ∃ (p : Addr) (ps : List Place) (i : Nat) (hi : i < ps.length), vs = [.ref p, .int (i : Int)] ∧ ProgAt C H p ps ∧ ∀ (r : V) (H' : Hp), Ext H H' → Dq H' r (placeD ps[i]) → Q r H'
theorem sc_pl : FnScope ["self", "place"] ["self", "place"] (defScope (cP 4)) := ⟨rfl, rfl, rfl, by decide +kernel, rfl, by decide +kernel, by decide +kernel⟩
theorem ok_pl {f : Addr} {fd : FuncData} (F : Fun K "_place" "Program._place" (cP 4) f fd) (T : BT mg) (L : PT K mg C) (C2 : Ca P w K mg base 2 "is_number" ["thing"] (spPred Any isNumD)) :
    FnOk P w K mg base CX0 3 f fd ["self", "place"] (spPl C) := by
  refine F.ok sc_pl (fun vs H Q E h => ?_) (fun cdv A outer s H vs Q E hr h => ?_)
  · obtain ⟨p, ps, i, hi, rfl, _⟩ := h
    rfl
  · obtain ⟨p, ps, i, hi, rfl, hP, q⟩ := h
    refine ⟨_, (pss_cons (ps_if (PW.pt (pw_or (pt_not (pt_val (pe_ca C2 (hr.mono (by decide)) (by rfl) (pa_cons (pv 1) pa_nil)))) (pw_or1 (pt_cmpR op_ge (pv 1) (pe_callB call_len_seq (by rfl) T.n_len (by decide +kernel) (pa_cons (pe_fld (pv 0) rfl) pa_nil)) (nomark _))))) (pss_one ps_never) pss_nil)
      (pss_one (ps_ret (pe_ix ix_tup (pe_fld (pv 0) rfl) (pv 1) (fun _ _ => rfl))))), ?_⟩
    have nn : isNumD (.int (i : Int)) = true := by
      have : (0 : Int) ≤ (i : Int) := by omega
      simp [isNumD, this]
    refine ⟨_, rfl, _, _, rfl, .int _, trivial, fun H1 e1 => ⟨_, rfl, ?_⟩⟩
    rw [nn]
    refine iteF ?_
    obtain ⟨dx, t, u, xs, us, h1, h2, h3, _⟩ := hP.up e1
    have lx : xs.length = ps.length := by rw [h3.len, List.length_map]
    obtain ⟨v, hv, dv⟩ := DqAll_get h3 i (placeD ps[i]) (by rw [List.getElem?_map, List.getElem?_eq_getElem hi]; rfl)
    refine ⟨_, rfl, _, rfl, p, C, dx, _, _, rfl, h1, L.cl, L.nP, pf_p _ _, t, _, rfl, .inr (SqT.of h2), _, _, rfl, rfl, _, rfl, ?_⟩
    refine ite2 (fun g => ?_) (fun _ => ?_)
    · have := of_decide_eq_true g
      omega
    · exact ⟨_, rfl, p, C, dx, _, _, rfl, h1, L.cl, L.nP, pf_p _ _, _, rfl, t, _, _, _, rfl, rfl, SqT.of h2, atI_nat hv, q _ _ e1 dv⟩
def spMode (C : Addr) : Sp := fun vs H Q _ => ∃ (p : Addr) (ps : List Place) (i : Nat) (hi : i < ps.length), vs = [.ref p, .int (i : Int)] ∧ ProgAt C H p ps ∧ ∀ (H' : Hp), Ext H H' → Q (.str ps[i].1) H'
theorem sc_md : FnScope ["self", "place"] ["self", "place"] (defScope (cP 8)) := ⟨rfl, rfl, rfl, by decide +kernel, rfl, by decide +kernel, by decide +kernel⟩
theorem ok_md {f : Addr} {fd : FuncData} (F : Fun K "mode" "Program.mode" (cP 8) f fd) (L : PT K mg C) (MP : Cm P w K mg base C 3 "_place" ["self", "place"] (spPl C)) :
    FnOk P w K mg base CX0 4 f fd ["self", "place"] (spMode C) := by
  refine F.ok sc_md (fun vs H Q E h => ?_) (fun cdv A outer s H vs Q E hr h => ?_)
  · obtain ⟨p, ps, i, hi, rfl, _⟩ := h
    rfl
  · obtain ⟨p, ps, i, hi, rfl, hP, q⟩ := h
    refine ⟨_, (pss_one (ps_ret (pe_ix ix_tup (pe_cm MP L.cl (hr.mono (by decide)) (pv 0) (pa_cons (pv 1) pa_nil)) pe_int (fun _ _ => rfl)))), ?_⟩
    obtain ⟨dx, t, u, xs, us, h1, _⟩ := id hP
    refine ⟨_, rfl, p, dx, _, rfl, h1, pf_no _ _ (by decide +kernel) (by decide +kernel), _, rfl, p, ps, i, hi, rfl, hP, fun r H1 e1 hr1 => ?_⟩
    obtain ⟨a, t2, ys, rfl, ha, _⟩ := place_inv hr1
    exact ⟨a, _, _, _, rfl, rfl, SqT.of ha, rfl, q _ e1⟩
def spArms (C : Addr) : Sp := fun vs H Q _ => ∃ (p : Addr) (ps : List Place) (i : Nat) (hi : i < ps.length), vs = [.ref p, .int (i : Int)] ∧ ProgAt C H p ps ∧
  ∀ (l : Addr) (ys : List V) (H' : Hp), H l = none → Ext H H' → H' l = some (.lst ys) → DqAll H' ys (ps[i].2.map armD) → Q (.ref l) H'
theorem sc_as : FnScope ["self", "place"] ["self", "place"] (defScope (cP 9)) := ⟨rfl, rfl, rfl, by decide +kernel, rfl, by decide +kernel, by decide +kernel⟩
theorem ok_as {f : Addr} {fd : FuncData} (F : Fun K "arms" "Program.arms" (cP 9) f fd) (T : BT mg) (L : PT K mg C) (MP : Cm P w K mg base C 3 "_place" ["self", "place"] (spPl C)) :
    FnOk P w K mg base CX0 4 f fd ["self", "place"] (spArms C) := by
  refine F.ok sc_as (fun vs H Q E h => ?_) (fun cdv A outer s H vs Q E hr h => ?_)
  · obtain ⟨p, ps, i, hi, rfl, _⟩ := h
    rfl
  · obtain ⟨p, ps, i, hi, rfl, hP, q⟩ := h
    refine ⟨_, (pss_one (ps_ret (pe_callTy call_list_of (by rfl) T.n_list (by decide +kernel) (pa_cons (pe_ix ix_tup (pe_cm MP L.cl (hr.mono (by decide)) (pv 0) (pa_cons (pv 1) pa_nil)) pe_int (fun _ _ => rfl)) pa_nil)))), ?_⟩
    obtain ⟨dx, t, u, xs, us, h1, _⟩ := id hP
    refine ⟨_, rfl, p, dx, _, rfl, h1, pf_no _ _ (by decide +kernel) (by decide +kernel), _, rfl, p, ps, i, hi, rfl, hP, fun r H1 e1 hr1 => ?_⟩
    obtain ⟨a, t2, ys, rfl, ha, ht2, hys⟩ := place_inv hr1
    refine ⟨a, _, _, _, rfl, rfl, SqT.of ha, rfl, t2, ys, rfl, .inr (SqT.of ht2), fun l hl => ?_⟩
    have e2 := Ext.new (o := .lst ys) hl
    exact q l ys _ (e1.free hl) (e1.trans e2) upd_same (DqAll.up e2 hys)
/-- the arm of this index -/
def spArmAt (C : Addr) : Sp := fun vs H Q _ => ∃ (p : Addr) (ps : List Place) (i : Nat) (hi : i < ps.length) (j : Nat) (hj : j < ps[i].2.length), vs = [.ref p, .int (i : Int), .int (j : Int)] ∧ ProgAt C H p ps ∧
  ∀ (r : V) (H' : Hp), Ext H H' → Dq H' r (armD ps[i].2[j]) → Q r H'
def spPlArm (C : Addr) : Sp := fun vs H Q _ => ∃ (p : Addr) (ps : List Place) (i : Nat) (hi : i < ps.length) (j : Nat) (hj : j < ps[i].2.length), vs = [.ref p, .int (i : Int), .int (j : Int)] ∧ ProgAt C H p ps ∧
  ∀ (r : V) (H' : Hp), Ext H H' → Dq H' r (placeD ps[i]) → Q r H'
theorem sc_pla : FnScope ["self", "place", "index", "mode", "arms"] ["self", "place", "index"] (defScope (cP 5)) := ⟨rfl, rfl, rfl, by decide +kernel, rfl, by decide +kernel, by decide +kernel⟩
theorem ok_pla {f : Addr} {fd : FuncData} (F : Fun K "_place_with_arm" "Program._place_with_arm" (cP 5) f fd) (T : BT mg) (L : PT K mg C) (C2 : Ca P w K mg base 2 "is_number" ["thing"] (spPred Any isNumD)) (MP : Cm P w K mg base C 3 "_place" ["self", "place"] (spPl C)) :
    FnOk P w K mg base CX0 4 f fd ["self", "place", "index"] (spPlArm C) := by
  refine F.ok sc_pla (fun vs H Q E h => ?_) (fun cdv A outer s H vs Q E hr h => ?_)
  · obtain ⟨p, ps, i, hi, j, hj, rfl, _⟩ := h
    rfl
  · obtain ⟨p, ps, i, hi, j, hj, rfl, hP, q⟩ := h
    refine ⟨_, (pss_cons (ps_asg (pe_cm MP L.cl (hr.mono (by decide)) (pv 0) (pa_cons (pv 1) pa_nil)) (pg_tup (by rfl) (pgs_cons (pg_name (i := 3) sc_pla.nd rfl (.inl rfl)) (pgs_cons (pg_name (i := 4) sc_pla.nd rfl (.inl rfl)) pgs_nil))))
      (pss_cons (ps_if (PW.pt (pw_or (pt_not (pt_val (pe_ca C2 (hr.mono (by decide)) (by rfl) (pa_cons (pv 2) pa_nil)))) (pw_or1 (pt_cmpR op_ge (pv 2) (pe_callB call_len_seq (by rfl) T.n_len (by decide +kernel) (pa_cons (pv 4) pa_nil)) (nomark _))))) (pss_one ps_never) pss_nil)
      (pss_one (ps_ret (pe_tup (pa_cons (pv 3) (pa_cons (pv 4) pa_nil))))))), ?_⟩
    obtain ⟨dx, t, u, xs, us, h1, _⟩ := id hP
    refine ⟨_, rfl, p, dx, _, rfl, h1, pf_no _ _ (by decide +kernel) (by decide +kernel), _, rfl, p, ps, i, hi, rfl, hP, fun r H1 e1 hr1 => ?_⟩
    obtain ⟨a, t2, ys, rfl, ha, ht2, hys⟩ := place_inv hr1
    have ly : ys.length = ps[i].2.length := by rw [hys.len, List.length_map]
    have nn : isNumD (.int (j : Int)) = true := by
      have : (0 : Int) ≤ (j : Int) := by omega
      simp [isNumD, this]
    refine ⟨a, _, rfl, SqT.of ha, rfl, _, _, rfl, _, _, rfl, rfl, ?_⟩
    refine ⟨_, rfl, _, _, rfl, .int _, trivial, fun H2 e2 => ⟨_, rfl, ?_⟩⟩
    rw [nn]
    refine iteF ?_
    refine ⟨_, rfl, _, rfl, t2, _, rfl, .inr (SqT.of (e2 _ _ ht2)), _, _, rfl, rfl, _, rfl, ?_⟩
    refine ite2 (fun g => ?_) (fun _ => ?_)
    · have := of_decide_eq_true g
      omega
    · refine ⟨_, rfl, _, rfl, by show 2 ≤ sizeLine; decide, fun t3 ht3 => ?_⟩
      have e3 := Ext.new (o := .tup [.str ps[i].1, .ref t2]) ht3
      exact q _ _ ((e1.trans e2).trans e3) (.tup upd_same (.cons (.str _) (.cons (.tup ((e2.trans e3) _ _ ht2) (DqAll.up (e2.trans e3) hys)) .nil)))
theorem sc_arm : FnScope ["self", "place", "index"] ["self", "place", "index"] (defScope (cP 10)) := ⟨rfl, rfl, rfl, by decide +kernel, rfl, by decide +kernel, by decide +kernel⟩
theorem ok_arm {f : Addr} {fd : FuncData} (F : Fun K "arm" "Program.arm" (cP 10) f fd) (L : PT K mg C) (MA : Cm P w K mg base C 4 "_place_with_arm" ["self", "place", "index"] (spPlArm C)) :
    FnOk P w K mg base CX0 5 f fd ["self", "place", "index"] (spArmAt C) := by
  refine F.ok sc_arm (fun vs H Q E h => ?_) (fun cdv A outer s H vs Q E hr h => ?_)
  · obtain ⟨p, ps, i, hi, j, hj, rfl, _⟩ := h
    rfl
  · obtain ⟨p, ps, i, hi, j, hj, rfl, hP, q⟩ := h
    refine ⟨_, (pss_one (ps_ret (pe_ix ix_tup (pe_ix ix_tup (pe_cm MA L.cl (hr.mono (by decide)) (pv 0) (pa_cons (pv 1) (pa_cons (pv 2) pa_nil))) pe_int (fun _ _ => rfl)) (pv 2) (fun _ _ => rfl)))), ?_⟩
    obtain ⟨dx, t, u, xs, us, h1, _⟩ := id hP
    refine ⟨_, rfl, p, dx, _, rfl, h1, pf_no _ _ (by decide +kernel) (by decide +kernel), _, rfl, _, rfl, p, ps, i, hi, j, hj, rfl, hP, fun r H1 e1 hr1 => ?_⟩
    obtain ⟨a, t2, ys, rfl, ha, ht2, hys⟩ := place_inv hr1
    obtain ⟨v, hv, dv⟩ := DqAll_get hys j (armD ps[i].2[j]) (by rw [List.getElem?_map, List.getElem?_eq_getElem hj]; rfl)
    exact ⟨a, _, _, _, rfl, rfl, SqT.of ha, rfl, _, rfl, t2, _, _, _, rfl, rfl, SqT.of ht2, atI_nat hv, q _ _ e1 dv⟩
def spUsed (C : Addr) : Sp := fun vs H Q _ => ∃ (p : Addr) (ps : List Place), vs = [.ref p] ∧ ProgAt C H p ps ∧
  ∀ (l : Addr) (us : List Str) (H' : Hp), H l = none → Ext H H' → H' l = some (.lst (us.map V.str)) → sortedS us = true → us.Nodup → us.length ≤ 40 → (∀ x, x ∈ us ↔ x ∈ lanesP ps) → Q (.ref l) H'
theorem sc_used : FnScope ["self"] ["self"] (defScope (cP 11)) := ⟨rfl, rfl, rfl, by decide +kernel, rfl, by decide +kernel, by decide +kernel⟩
theorem ok_used {f : Addr} {fd : FuncData} (F : Fun K "used" "Program.used" (cP 11) f fd) (T : BT mg) (L : PT K mg C) :
    FnOk P w K mg base CX0 1 f fd ["self"] (spUsed C) := by
  refine F.ok sc_used (fun vs H Q E h => ?_) (fun cdv A outer s H vs Q E hr h => ?_)
  · obtain ⟨p, ps, rfl, _⟩ := h
    rfl
  · obtain ⟨p, ps, rfl, hP, q⟩ := h
    refine ⟨_, (pss_one (ps_ret (pe_callTy call_list_of (by rfl) T.n_list (by decide +kernel) (pa_cons (pe_fld (pv 0) rfl) pa_nil)))), ?_⟩
    obtain ⟨dx, t, u, xs, us, h1, h2, h3, h4, h5, h6, h7, h8, _⟩ := hP
    refine ⟨_, rfl, p, C, dx, _, _, rfl, h1, L.cl, L.nU, pf_u _ _, u, _, rfl, .inr (SqT.of h4), fun l hl => ?_⟩
    exact q l us _ hl (Ext.new hl) upd_same h5 h6 h7 h8
end
end K25

set_option Elab.async false
set_option linter.all false
set_option maxRecDepth 100000
set_option maxHeartbeats 4000000
namespace K25
open PySem PySem.Spec PyProof.Rows L2 Ol RZ
open TL (tl)
section
variable {P : Program} {w : World} {K : PySem.W.Frag} {mg : Str → Option Value} {base : Heap} {C CP : Addr}
/-- the method used -/
structure UsM (P : Program) (w : World) (K : PySem.W.Frag) (mg : Str → Option Value) (base : Heap) (C : Addr) : Prop where
  has : ∃ (f : Addr) (fd : FuncData), FnOk P w K mg base CX0 1 f fd ["self"] (spUsed C) ∧ Meth K C "used" f ∧ Binds K fd ["self"] []
def spCkL (C CP : Addr) : Sp := fun vs H Q _ => ∃ (lx l p : Addr) (ns : List Str) (bs : List Int) (ps : List Place), vs = [.ref lx, .ref l] ∧ LanesAt C H lx ns bs ∧ H l = some (.lst [.ref p]) ∧ ProgAt CP H p ps ∧ (∀ x ∈ lanesP ps, x ∈ ns) ∧ ∀ H', Ext H H' → Q .non H'
abbrev s_ckl : Stmt := (topS 30)
abbrev nCkl : List Str := ["lanes", "programs", "names", "program", "name"]
theorem sc_ckl : FnScope nCkl ["lanes", "programs"] (defScope s_ckl) := ⟨rfl, rfl, rfl, by decide +kernel, rfl, by decide +kernel, by decide +kernel⟩
theorem ok_ckl {f : Addr} {fd : FuncData} (F : Fun K "check_lanes" "check_lanes" s_ckl f fd) (T : BT mg) (LP : PT K mg CP) (MU : UsM P w K mg base CP)
    (MH : Cm P w K mg base C 2 "__contains__" ["self", "thing"] (spHas C)) :
    FnOk P w K mg base CX0 3 f fd ["lanes", "programs"] (spCkL C CP) := by
  obtain ⟨fU, fdU, FU, mu, bU⟩ := MU.has
  refine F.ok sc_ckl (fun vs H Q E h => ?_) (fun cdv A outer s H vs Q E hr h => ?_)
  · obtain ⟨lx, l, p, ns, bs, ps, rfl, _⟩ := h
    rfl
  · obtain ⟨lx, l, p, ns, bs, ps, rfl, hL, hl, hP, hsub, q⟩ := h
    refine ⟨_, (pss_cons (ps_setDc2 (i := 2) (own := [("program", 3), ("name", 4)]) (vs1 := [4]) (g := gName 3) (g1 := gName 4) (tt := tYes) (tt1 := tYes) (wi1 := iList K (tMeth CP "used" (spUsed CP) [] E0 (tVar 3) tNil)) rfl sc_ckl.nd rfl rfl (sw_dict rfl rfl rfl (by decide +kernel)) (pi_list (pv 1)) (blkOk_by (N := nCkl) (sc := defScope s_ckl) (by decide +kernel)) (by decide)
          (fun _ _ _ _ _ => pg_name (i := 3) sc_ckl.nd rfl (.inl rfl)) (fun _ _ _ _ _ => pts_nil) (fun _ _ _ _ _ => pi_list (pe_meth0 (pv 3) LP.cl mu FU (hr.mono (by decide)) bU .nil pass0)) (fun _ _ _ _ _ => pg_name (i := 4) sc_ckl.nd rfl (.inl rfl)) (fun _ _ _ _ _ => pts_nil) (fun _ _ _ _ _ => pv 4) (fun _ _ _ _ _ => pe_bl))
      (pss_one (ps_for PassesOwn.never rfl (pi_list (pe_callB (call_sortedD rfl) (by rfl) T.n_sorted (by decide +kernel) (pa_cons (pv 2) pa_nil))) (pg_name (i := 4) sc_ckl.nd rfl (.inl rfl))
        (pss_one (ps_if (pt_cmpR (op_notInM MH (hr.mono (by decide))) (pv 4) (pv 0) (by rfl)) (pss_one ps_never) pss_nil))))), ?_⟩
    refine ⟨_, rfl, l, rfl, ⟨_, SqL.of hl⟩, fun D hD => ?_⟩
    refine dc2_acc (walk_list (xs := [V.ref p])) (fun i j kvs _ => ∃ us : List Str, kvs = kvT us ∧ us.Nodup ∧ (∀ x ∈ us, x ∈ lanesP ps) ∧ us.length ≤ 40 * i + j ∧ i ≤ 1 ∧ j ≤ 40) (fun _ _ _ _ _ _ h => h)
      ⟨[], rfl, List.nodup_nil, (fun x hx => by cases hx), by decide, by decide, by decide⟩ hD
      (fun i j kvs _ ⟨us, e, _, _, h1, h2, h3⟩ => by rw [e]; unfold kvT; rw [List.length_map]; exact Nat.lt_of_le_of_lt (show _ ≤ 80 by omega) (by decide)) (fun H' e => SqL.of (e _ _ hl)) ?_ ?_
    · rintro i x Hi H' kvs hi e hy ⟨rfl, hxi⟩ hPi R hR
      have hi0 : i = 0 := by
        have : [V.ref p].length = 1 := rfl
        omega
      subst hi0
      cases hxi
      have hP' := hP.up e
      obtain ⟨dx, t, u, xs, us0, h1, _⟩ := id hP'
      refine ⟨rfl, ?_⟩
      refine ⟨_, rfl, p, dx, _, rfl, h1, pf_no _ _ (by decide +kernel) (by decide +kernel), p, ps, rfl, hP', fun lu us H3 nlu e3 hlu _ hnd hlen hmem => ⟨lu, rfl, ⟨_, SqL.of hlu⟩, hR _ _ _ ⟨e3, (us.map V.str).length, _, _, walk_list (xs := us.map V.str), fun Hz ez => SqL.of (ez _ _ ?_), ?_, ?_⟩⟩⟩
      · rw [del_ne (fun z => by rw [z, hy] at nlu; cases nlu)]
        exact hlu
      · rintro kvs Hz ⟨ks, a1, a2, a3, a4, a5, a6⟩
        rw [List.length_map] at a4
        exact ⟨ks, a1, a2, a3, by omega, by omega, by omega⟩
      · rintro j y Ha Hb kvs hj eH ha2 ⟨rfl, hyj⟩ ⟨ks, rfl, a2, a3, a4, a5, a6⟩ QY QN kY kN
        rw [List.length_map] at hj
        rw [List.getElem?_map, List.getElem?_eq_getElem hj] at hyj
        cases hyj
        refine ⟨rfl, ?_⟩
        refine tyes ?_
        have mm : us[j] ∈ lanesP ps := (hmem _).mp (List.getElem_mem hj)
        refine ⟨_, rfl, ?_⟩
        by_cases m : us[j] ∈ ks
        · exact kY (.inr us[j]) (.bl true) _ (Ext.refl _) ⟨ks, kvT_put m, a2, a3, by omega, a5, by omega⟩
        · refine kY (.inr us[j]) (.bl true) _ (Ext.refl _) ⟨ks ++ [us[j]], kvT_new m, ?_, fun z hz => ?_, by rw [List.length_append, List.length_singleton]; omega, a5, by omega⟩
          · refine List.nodup_append.mpr ⟨a2, by simp, fun c hc d hd e => ?_⟩
            rw [List.mem_singleton.mp hd] at e
            exact m (e ▸ hc)
          · rcases List.mem_append.mp hz with h | h
            · exact a3 z h
            · rw [List.mem_singleton.mp h]
              exact mm
    rintro H4 kvs e4 hD4 ⟨us, rfl, a2, a3, a4, _, _⟩
    have kk : (kvT us).map (·.1) = us.map Sum.inr := by
      unfold kvT
      rw [List.map_map]
      rfl
    have a4' : us.length ≤ 40 := by
      have : [V.ref p].length = 1 := rfl
      omega
    refine ⟨_, rfl, D, _, us, rfl, Rd.of hD4, kk, by omega, fun vs l2 hperm hso hl2 => ?_⟩
    have e5 := Ext.new (o := .lst (vs.map V.str)) hl2
    have k5 := upd_same (H := H4) (a := l2) (o := HO.lst (vs.map V.str))
    generalize upd H4 l2 (.lst (vs.map V.str)) = H5 at *
    refine ⟨l2, rfl, ⟨_, SqL.of k5⟩, ?_⟩
    have e45 := e4.trans e5
    refine for_list (xs := vs.map V.str) (fun i σ H' => ∃ s4, σ = [some (.ref lx), some (.ref l), some (.ref D), none, s4] ∧ Ext H5 H')
      ⟨_, rfl, Ext.refl _⟩ (fun i σ H' _ ⟨_, _, e⟩ => SqL.of (e _ _ k5)) ?_ ?_
    · rintro i x σ H6 hxi ⟨s4, rfl, e6⟩
      have hi : i < vs.length := by have := (List.getElem?_eq_some_iff.mp hxi).1; rw [List.length_map] at this; exact this
      rw [List.getElem?_map, List.getElem?_eq_getElem hi] at hxi
      cases hxi
      have mm : vs[i] ∈ ns := hsub _ (a3 _ (hperm.mem_iff.mp (List.getElem_mem hi)))
      have hL6 := hL.up (e45.trans e6)
      obtain ⟨dx, n, b, sp, h1, h2, h3, h4, hl0, hnd, hl2', hns, hbs⟩ := id hL6
      refine ⟨_, rfl, _, rfl, lx, dx, _, rfl, h1, lx, ns, bs, _, rfl, hL6, hns _ mm, fun H7 e7 => ⟨_, rfl, ?_⟩⟩
      rw [decide_eq_true mm]
      refine ⟨_, rfl, ?_⟩
      refine iteF ?_
      exact ⟨_, rfl, e6.trans e7⟩
    · rintro σ H6 ⟨s4, rfl, e6⟩
      exact q _ (e45.trans e6)
end
end K25

set_option Elab.async false
set_option linter.all false
set_option maxRecDepth 100000
set_option maxHeartbeats 4000000
namespace K25
open PySem PySem.Spec PyProof.Rows L2 Ol RZ
open TL (tl)
/-- an arm with a word is open, by the states and the bounds of the lanes -/
def openB (st : Str → Nat × Bool) (bd : Str → Int) (a : Arm) : Bool := match a.1 with
  | some p => (beh p.1 (st p.2).1 (st p.2).2 (bd p.2)).isSome
  | none => false
/-- the indexes of what p says of -/
def idxs (q : Arm → Bool) (as : List Arm) : List Nat := (List.range as.length).filter fun i => q (as.getD i (none, 0))
def openI (st : Str → Nat × Bool) (bd : Str → Int) (as : List Arm) : List Nat := if idxs (openB st bd) as = [] then idxs (fun a => a.1.isNone) as else idxs (openB st bd) as
theorem idxs_step {q : Arm → Bool} {as : List Arm} {k : Nat} (h : k < as.length) : (List.range (k + 1)).filter (fun i => q (as.getD i (none, 0))) = (List.range k).filter (fun i => q (as.getD i (none, 0))) ++ (if q as[k] = true then [k] else []) := by
  rw [List.range_succ, List.filter_append]
  congr 1
  have e : as.getD k (none, 0) = as[k] := by rw [List.getD_eq_getElem?_getD, List.getElem?_eq_getElem h]; rfl
  cases hq : q as[k] with
  | true => rw [if_pos rfl, List.filter_cons_of_pos (by rw [e]; exact hq)]; rfl
  | false => rw [if_neg (by decide), List.filter_cons_of_neg (by rw [e, hq]; decide)]; rfl
/-- Lanes and a content, as the law knows them -/
structure Ctx (C : Addr) (H : Hp) (lx : Addr) (v : V) (ns : List Str) (st : Str → Nat × Bool) (bd : Str → Int) : Prop where
  hL : LanesAt C H lx ns (ns.map bd)
  hv : Dq H v (ctD (ns.map st))
theorem Ctx.up {C : Addr} {H H' : Hp} {lx : Addr} {v : V} {ns : List Str} {st : Str → Nat × Bool} {bd : Str → Int} (e : Ext H H') (h : Ctx C H lx v ns st bd) : Ctx C H' lx v ns st bd := ⟨h.hL.up e, h.hv.up e⟩
def GAs (ns : List Str) (as : List Arm) : Prop := ∀ a ∈ as, GArm a ∧ ∀ p, a.1 = some p → p.2 ∈ ns
section
variable {P : Program} {w : World} {K : PySem.W.Frag} {mg : Str → Option Value} {base : Heap} {C CP : Addr}
def spOA (C : Addr) : Sp := fun vs H Q _ => ∃ (lx al : Addr) (v : V) (ys : List V) (as : List Arm) (ns : List Str) (st : Str → Nat × Bool) (bd : Str → Int), vs = [.ref lx, .ref al, v] ∧ Ctx C H lx v ns st bd ∧ H al = some (.lst ys) ∧ DqAll H ys (as.map armD) ∧ GAs ns as ∧ as.length ≤ 10 ∧
  ∀ (l : Addr) (H' : Hp), H l = none → Ext H H' → H' l = some (.lst ((openI st bd as).map fun i : Nat => V.int (i : Int))) → Q (.ref l) H'
abbrev s_oa : Stmt := (topS 31)
abbrev nOa : List Str := ["lanes", "arms", "content", "indexes", "index", "arm"]
theorem sc_oa : FnScope nOa ["lanes", "arms", "content"] (defScope s_oa) := ⟨rfl, rfl, rfl, by decide +kernel, rfl, by decide +kernel, by decide +kernel⟩
theorem ok_oa {f : Addr} {fd : FuncData} (F : Fun K "open_arms" "open_arms" s_oa f fd) (T : BT mg) (L : LT K mg C) (CE : Ca P w K mg base 1 "is_else" ["arm"] spElse) (MO : Cm P w K mg base C 4 "is_open" ["self", "content", "word", "lane"] (spOpen C)) :
    FnOk P w K mg base CX0 5 f fd ["lanes", "arms", "content"] (spOA C) := by
  refine F.ok sc_oa (fun vs H Q E h => ?_) (fun cdv A outer s H vs Q E hr h => ?_)
  · obtain ⟨lx, al, v, ys, as, ns, st, bd, rfl, _⟩ := h
    rfl
  · obtain ⟨lx, al, v, ys, as, ns, st, bd, rfl, X, ha, hy, ga, few, q⟩ := h
    refine ⟨_, (pss_cons (ps_setLc (i := 3) (own := [("index", 4), ("arm", 5)]) (g := gTup K 2 (gCons (gName 4) (gCons (gName 5) gNil))) rfl sc_oa.nd rfl rfl (sw_true rfl rfl rfl (by decide +kernel)) (pi_enum (by rfl) L.n_enum (pa_cons (pv 1) pa_nil)) (blkOk_by (N := nOa) (sc := defScope s_oa) (by decide +kernel)) (fun _ _ _ _ _ => pg_tup (by rfl) (pgs_cons (pg_name (i := 4) sc_oa.nd rfl (.inl rfl)) (pgs_cons (pg_name (i := 5) sc_oa.nd rfl (.inl rfl)) pgs_nil)))
          (tt := tAnd (tNot (tB (tCall spElse [] E0 (tCons (tVar 5) tNil)))) (tB (tMeth C "is_open" (spOpen C) [] E0 (tVar 0) (tCons (tVar 2) (tCons (tOp (rIxT K) (tVar 5) (tC (.int 0))) (tCons (tOp (rIxT K) (tVar 5) (tC (.int 1))) tNil)))))) (fun _ _ _ _ _ => pts_one (PW.pt (pw_and (pt_not (pt_val (pe_ca CE (hr.mono (by decide)) (by rfl) (pa_cons (pv 5) pa_nil)))) (pw_and1 (pt_val (pe_cm MO L.cl (hr.mono (by decide)) (pv 0) (pa_cons (pv 2) (pa_cons (pe_ix ix_tup (pv 5) pe_int (fun _ _ => rfl)) (pa_cons (pe_ix ix_tup (pv 5) pe_int (fun _ _ => rfl)) pa_nil))))))))) (fun _ _ _ _ _ => pv 4))
      (pss_cons (ps_if (pt_not (pt_truth (pv 3) (fun _ => rfl)))
        (pss_one (ps_setLc (i := 3) (own := [("index", 4), ("arm", 5)]) (g := gTup K 2 (gCons (gName 4) (gCons (gName 5) gNil))) rfl sc_oa.nd rfl rfl (sw_true rfl rfl rfl (by decide +kernel)) (pi_enum (by rfl) L.n_enum (pa_cons (pv 1) pa_nil)) (blkOk_by (N := nOa) (sc := defScope s_oa) (by decide +kernel)) (fun _ _ _ _ _ => pg_tup (by rfl) (pgs_cons (pg_name (i := 4) sc_oa.nd rfl (.inl rfl)) (pgs_cons (pg_name (i := 5) sc_oa.nd rfl (.inl rfl)) pgs_nil)))
          (fun _ _ _ _ _ => pts_one (pt_val (pe_ca CE (hr.mono (by decide)) (by rfl) (pa_cons (pv 5) pa_nil)))) (fun _ _ _ _ _ => pv 4))) pss_nil)
      (pss_one (ps_ret (pv 3))))), ?_⟩
    have ly : ys.length = as.length := by rw [hy.len, List.length_map]
    have idx : ∀ l ∈ ns, ∃ (i : Nat) (hi : i < ns.length), ns[i] = l := fun l hl => by
      obtain ⟨i, hi, e⟩ := List.getElem_of_mem hl
      exact ⟨i, hi, e⟩
    refine ⟨_, rfl, al, _, rfl, SqL.of ha, fun D hD => ?_⟩
    refine lc1_acc (walk_enum (xs := ys)) (fun k zs _ => zs = ((List.range k).filter fun i => openB st bd (as.getD i (none, 0))).map (fun i : Nat => V.int (i : Int)) ∧ k ≤ 10) (fun _ _ _ _ _ h => h) ⟨rfl, by decide⟩ hD
      (fun k zs _ h => by rw [h.1, List.length_map]; exact Nat.lt_of_le_of_lt (Nat.le_trans (List.length_filter_le ..) (by rw [List.length_range]; exact h.2)) (by decide)) (fun H' e => SqL.of (e _ _ ha)) ?_ ?_
    · rintro k x Hi H' zs hk e hz ⟨T', y1, y2, rfl, hT, rfl, g1, g2⟩ ⟨hp, _⟩ QY QN kY kN
      have hk2 : k < as.length := by omega
      obtain ⟨x', hx', dx'⟩ := DqAll_get hy k (armD as[k]) (by rw [List.getElem?_map, List.getElem?_eq_getElem hk2]; rfl)
      cases g1
      dsimp only at g2
      rw [hx'] at g2
      cases g2
      have eT := Ext.new (o := .tup [.int (k : Int), y2]) hT
      have e2 := e.trans eT
      have dx2 := dx'.up e2
      have gk := ga _ (List.getElem_mem hk2)
      have X2 := X.up e2
      refine ⟨T', _, rfl, SqT.of upd_same, rfl, _, _, rfl, _, _, rfl, rfl, rfl, ?_⟩
      refine ⟨_, rfl, y2, as[k], rfl, dx2, _, rfl, ?_⟩
      cases ho : as[k].1 with
      | none =>
        refine iteF ?_
        refine kN _ eT ⟨?_, by omega⟩
        have : openB st bd as[k] = false := by unfold openB; rw [ho]
        rw [hp, idxs_step hk2, this]
        simp
      | some pr =>
        refine iteT ?_
        obtain ⟨t4, ws, rfl, h4, _, h40, h41⟩ := arm_inv dx2
        have h41' := h41 pr ho
        rw [ho] at h40
        obtain ⟨j, hj, ej⟩ := idx _ (gk.2 pr ho)
        obtain ⟨dx, n, b, sp, i1, _⟩ := id X2.hL
        refine ⟨_, rfl, lx, dx, _, rfl, i1, lf_no _ _ _ (by decide +kernel) (by decide +kernel) (by decide +kernel), _, rfl, _, rfl, t4, ws, 0, .str pr.1, rfl, rfl, SqT.of h4, h40, _, rfl, t4, ws, 1, .str pr.2, rfl, rfl, SqT.of h4, h41', lx, ns, _, v, ns.map st, pr.1, j, hj, st pr.2, bd pr.2, (by rw [ej]; rfl), X2.hL, X2.hv, by rw [List.getElem?_map, List.getElem?_eq_getElem hj, ej]; rfl, by rw [List.getElem?_map, List.getElem?_eq_getElem hj, ej]; rfl, fun H3 e3 => ⟨_, rfl, ?_⟩⟩
        have eo : openB st bd as[k] = (beh pr.1 (st pr.2).1 (st pr.2).2 (bd pr.2)).isSome := by unfold openB; rw [ho]
        rw [← eo]
        refine ite2 (fun g => ?_) (fun g => ?_)
        · refine ⟨_, rfl, kY _ _ (eT.trans e3) ⟨?_, by omega⟩⟩
          rw [hp, idxs_step hk2, if_pos g, List.map_append]
          rfl
        · refine kN _ (eT.trans e3) ⟨?_, by omega⟩
          rw [hp, idxs_step hk2, if_neg g, List.append_nil]
    rintro H2 zs e2 h2 ⟨hz, _⟩
    rw [ly] at hz
    have hz' : zs = (idxs (openB st bd) as).map (fun i : Nat => V.int (i : Int)) := hz
    refine ⟨_, rfl, !zs.isEmpty, .inl ⟨zs, SqL.of h2, rfl⟩, ?_⟩
    by_cases em : idxs (openB st bd) as = []
    · have ze : zs.isEmpty = true := by rw [hz', em]; rfl
      rw [ze]
      refine iteT ?_
      have ha2 := e2 _ _ ha
      refine ⟨_, rfl, al, _, rfl, SqL.of ha2, fun D2 hD2 => ?_⟩
      refine lc1_acc (walk_enum (xs := ys)) (fun k zs _ => zs = ((List.range k).filter fun i => (fun a : Arm => a.1.isNone) (as.getD i (none, 0))).map (fun i : Nat => V.int (i : Int)) ∧ k ≤ 10) (fun _ _ _ _ _ h => h) ⟨rfl, by decide⟩ hD2
        (fun k zs _ h => by rw [h.1, List.length_map]; exact Nat.lt_of_le_of_lt (Nat.le_trans (List.length_filter_le ..) (by rw [List.length_range]; exact h.2)) (by decide)) (fun H' e => SqL.of (e _ _ ha2)) ?_ ?_
      · rintro k x Hi H' zs hk e hz ⟨T', y1, y2, rfl, hT, rfl, g1, g2⟩ ⟨hp, _⟩ QY QN kY kN
        have hk2 : k < as.length := by omega
        obtain ⟨x', hx', dx'⟩ := DqAll_get hy k (armD as[k]) (by rw [List.getElem?_map, List.getElem?_eq_getElem hk2]; rfl)
        cases g1
        dsimp only at g2
        rw [hx'] at g2
        cases g2
        have eT := Ext.new (o := .tup [.int (k : Int), y2]) hT
        have e3 := (e2.trans e).trans eT
        refine ⟨T', _, rfl, SqT.of upd_same, rfl, _, _, rfl, _, _, rfl, rfl, rfl, ?_⟩
        refine ⟨_, rfl, y2, as[k], rfl, dx'.up e3, _, rfl, ?_⟩
        refine ite2 (fun g => ?_) (fun g => ?_)
        · refine ⟨_, rfl, kY _ _ eT ⟨?_, by omega⟩⟩
          rw [hp, idxs_step (q := fun a : Arm => a.1.isNone) hk2, if_pos g, List.map_append]
          rfl
        · refine kN _ eT ⟨?_, by omega⟩
          rw [hp, idxs_step (q := fun a : Arm => a.1.isNone) hk2, if_neg g, List.append_nil]
      rintro H3 zs3 e3 h3 ⟨hz3, _⟩
      rw [ly] at hz3
      refine ⟨_, rfl, q D2 H3 (e2.free hD2) (e2.trans e3) ?_⟩
      unfold openI
      rw [if_pos em, h3, hz3]
      rfl
    · have ze : zs.isEmpty = false := by
        rw [hz']
        cases hq : idxs (openB st bd) as with
        | nil => exact absurd hq em
        | cons _ _ => rfl
      rw [ze]
      refine iteF ?_
      refine ⟨_, rfl, q D H2 hD e2 ?_⟩
      unfold openI
      rw [if_neg em, h2, hz']
end
end K25

set_option Elab.async false
set_option linter.all false
set_option maxRecDepth 100000
set_option maxHeartbeats 4000000
namespace K25
open PySem PySem.Spec PyProof.Rows L2 Ol RZ
open TL (tl)
def allowI (st : Str → Nat × Bool) (bd : Str → Int) (p : Place) : List Nat := if p.1 = "first" then (openI st bd p.2).take 1 else openI st bd p.2
section
variable {P : Program} {w : World} {K : PySem.W.Frag} {mg : Str → Option Value} {base : Heap} {C CP : Addr}
def spAl (C : Addr) : Sp := fun vs H Q _ => ∃ (lx al : Addr) (v : V) (ys : List V) (p : Place) (ns : List Str) (st : Str → Nat × Bool) (bd : Str → Int), vs = [.ref lx, .str p.1, .ref al, v] ∧ Ctx C H lx v ns st bd ∧ H al = some (.lst ys) ∧ DqAll H ys (p.2.map armD) ∧ GAs ns p.2 ∧ p.2.length ≤ 10 ∧
  ∀ (l : Addr) (H' : Hp), H l = none → Ext H H' → H' l = some (.lst ((allowI st bd p).map fun i : Nat => V.int (i : Int))) → Q (.ref l) H'
abbrev s_al : Stmt := (topS 32)
theorem sc_al : FnScope ["lanes", "mode", "arms", "content", "indexes"] ["lanes", "mode", "arms", "content"] (defScope s_al) := ⟨rfl, rfl, rfl, by decide +kernel, rfl, by decide +kernel, by decide +kernel⟩
theorem ok_al {f : Addr} {fd : FuncData} (F : Fun K "allowed" "allowed" s_al f fd) (CO : Ca P w K mg base 5 "open_arms" ["lanes", "arms", "content"] (spOA C)) :
    FnOk P w K mg base CX0 6 f fd ["lanes", "mode", "arms", "content"] (spAl C) := by
  refine F.ok sc_al (fun vs H Q E h => ?_) (fun cdv A outer s H vs Q E hr h => ?_)
  · obtain ⟨lx, al, v, ys, p, ns, st, bd, rfl, _⟩ := h
    rfl
  · obtain ⟨lx, al, v, ys, p, ns, st, bd, rfl, X, ha, hy, ga, few, q⟩ := h
    refine ⟨_, (pss_cons (ps_set (i := 4) sc_al.nd rfl (.inl rfl) (pe_ca CO (hr.mono (by decide)) (by rfl) (pa_cons (pv 0) (pa_cons (pv 2) (pa_cons (pv 3) pa_nil)))))
      (pss_cons (ps_if (pt_cmpR op_eq (pv 1) pe_str (nomark _)) (pss_one (ps_ret (pe_slice sl_list (pv 4) po_none (po_some pe_int)))) pss_nil)
      (pss_one (ps_ret (pv 4))))), ?_⟩
    refine ⟨_, rfl, _, rfl, _, rfl, lx, al, v, ys, p.2, ns, st, bd, rfl, X, ha, hy, ga, few, fun l H1 nl e1 hl => ?_⟩
    refine ⟨_, rfl, rfl, _, rfl, ?_⟩
    refine ite2 (fun g => ?_) (fun g => ?_)
    · have z := of_decide_eq_true g
      injection z with z
      refine ⟨_, rfl, _, rfl, l, _, rfl, SqL.of hl, fun l2 hl2 => ?_⟩
      have e2 := Ext.new (o := .lst (cutV ((openI st bd p.2).map fun i : Nat => V.int (i : Int)) none (some 1))) hl2
      refine q l2 _ (e1.free hl2) (e1.trans e2) ?_
      rw [upd_same]
      unfold allowI
      rw [if_pos z, List.map_take]
      have := cut_take ((openI st bd p.2).map fun i : Nat => V.int (i : Int)) 1
      rw [show (some ((1 : Nat) : Int)) = (some (1 : Int)) from rfl] at this
      rw [this]
    · have z : ¬ p.1 = "first" := fun z => g (by rw [z]; exact decide_eq_true rfl)
      refine ⟨_, rfl, q l H1 nl e1 ?_⟩
      unfold allowI
      rw [if_neg z, hl]
/-! ### choices -/
structure MdM (P : Program) (w : World) (K : PySem.W.Frag) (mg : Str → Option Value) (base : Heap) (CP : Addr) : Prop where
  md : Cm P w K mg base CP 4 "mode" ["self", "place"] (spMode CP)
  as : Cm P w K mg base CP 4 "arms" ["self", "place"] (spArms CP)
def spAt (C CP : Addr) : Sp := fun vs H Q _ => ∃ (lx pr : Addr) (v : V) (ps : List Place) (i : Nat) (hi : i < ps.length) (ns : List Str) (st : Str → Nat × Bool) (bd : Str → Int), vs = [.ref lx, .ref pr, .int (i : Int), v] ∧ Ctx C H lx v ns st bd ∧ ProgAt CP H pr ps ∧ (∀ x ∈ lanesP ps, x ∈ ns) ∧
  ∀ (l : Addr) (H' : Hp), H l = none → Ext H H' → H' l = some (.lst ((allowI st bd ps[i]).map fun i : Nat => V.int (i : Int))) → Q (.ref l) H'
abbrev s_at : Stmt := (topS 33)
theorem sc_at : FnScope ["lanes", "program", "place", "content"] ["lanes", "program", "place", "content"] (defScope s_at) := ⟨rfl, rfl, rfl, by decide +kernel, rfl, by decide +kernel, by decide +kernel⟩
theorem gas_of {ps : List Place} {ns : List Str} (ok : Pls ps) (sub : ∀ x ∈ lanesP ps, x ∈ ns) {i : Nat} (hi : i < ps.length) : GAs ns ps[i].2 := by
  intro a ha
  refine ⟨((ok.ok _ (List.getElem_mem hi)).arms a ha).1, fun p hp => sub _ ?_⟩
  unfold lanesP lanesA
  refine List.mem_flatMap.mpr ⟨ps[i], List.getElem_mem hi, List.mem_filterMap.mpr ⟨a, ha, ?_⟩⟩
  rw [hp]
  rfl
theorem ok_at {f : Addr} {fd : FuncData} (F : Fun K "allowed_at" "allowed_at" s_at f fd) (LP : PT K mg CP) (MM : MdM P w K mg base CP) (CAl : Ca P w K mg base 6 "allowed" ["lanes", "mode", "arms", "content"] (spAl C)) :
    FnOk P w K mg base CX0 7 f fd ["lanes", "program", "place", "content"] (spAt C CP) := by
  refine F.ok sc_at (fun vs H Q E h => ?_) (fun cdv A outer s H vs Q E hr h => ?_)
  · obtain ⟨lx, pr, v, ps, i, hi, ns, st, bd, rfl, _⟩ := h
    rfl
  · obtain ⟨lx, pr, v, ps, i, hi, ns, st, bd, rfl, X, hP, sub, q⟩ := h
    refine ⟨_, (pss_one (ps_ret (pe_ca CAl (hr.mono (by decide)) (by rfl) (pa_cons (pv 0) (pa_cons (pe_cm MM.md LP.cl (hr.mono (by decide)) (pv 1) (pa_cons (pv 2) pa_nil)) (pa_cons (pe_cm MM.as LP.cl (hr.mono (by decide)) (pv 1) (pa_cons (pv 2) pa_nil)) (pa_cons (pv 3) pa_nil))))))), ?_⟩
    obtain ⟨dx, t, u, xs, us, h1, _, _, _, _, _, _, _, ok⟩ := id hP
    refine ⟨_, rfl, _, rfl, pr, dx, _, rfl, h1, pf_no _ _ (by decide +kernel) (by decide +kernel), _, rfl, pr, ps, i, hi, rfl, hP, fun H1 e1 => ?_⟩
    refine ⟨_, rfl, pr, dx, _, rfl, e1 _ _ h1, pf_no _ _ (by decide +kernel) (by decide +kernel), _, rfl, pr, ps, i, hi, rfl, hP.up e1, fun l ys H2 nl e2 hl hys => ?_⟩
    have e12 := e1.trans e2
    have few := (ok.ok _ (List.getElem_mem hi)).few
    exact ⟨_, rfl, lx, l, v, ys, ps[i], ns, st, bd, rfl, X.up e12, hl, hys, gas_of ok sub hi, by omega, fun l2 H3 nl2 e3 hl2 => q l2 H3 (e12.free nl2) (e12.trans e3) hl2⟩
abbrev s_ch : Stmt := (topS 35)
theorem sc_ch : FnScope ["lanes", "program", "place", "content"] ["lanes", "program", "place", "content"] (defScope s_ch) := ⟨rfl, rfl, rfl, by decide +kernel, rfl, by decide +kernel, by decide +kernel⟩
theorem ok_ch {f : Addr} {fd : FuncData} (F : Fun K "choices" "choices" s_ch f fd) (CK : Ca P w K mg base 3 "check_lanes" ["lanes", "programs"] (spCkL C CP)) (CAt : Ca P w K mg base 7 "allowed_at" ["lanes", "program", "place", "content"] (spAt C CP)) :
    FnOk P w K mg base CX0 8 f fd ["lanes", "program", "place", "content"] (spAt C CP) := by
  refine F.ok sc_ch (fun vs H Q E h => ?_) (fun cdv A outer s H vs Q E hr h => ?_)
  · obtain ⟨lx, pr, v, ps, i, hi, ns, st, bd, rfl, _⟩ := h
    rfl
  · obtain ⟨lx, pr, v, ps, i, hi, ns, st, bd, rfl, X, hP, sub, q⟩ := h
    refine ⟨_, (pss_cons (ps_expr (pe_ca CK (hr.mono (by decide)) (by rfl) (pa_cons (pv 0) (pa_cons (pe_lst (pa_cons (pv 1) pa_nil)) pa_nil))))
      (pss_one (ps_ret (pe_ca CAt (hr.mono (by decide)) (by rfl) (pa_cons (pv 0) (pa_cons (pv 1) (pa_cons (pv 2) (pa_cons (pv 3) pa_nil)))))))), ?_⟩
    refine ⟨_, rfl, _, rfl, by show 1 ≤ sizeLine; decide, fun l hl => ?_⟩
    have e1 := Ext.new (o := .lst [.ref pr]) hl
    refine ⟨lx, l, pr, ns, _, ps, rfl, X.hL.up e1, upd_same, hP.up e1, sub, fun H2 e2 => ?_⟩
    have e12 := e1.trans e2
    exact ⟨_, rfl, _, rfl, _, rfl, _, rfl, lx, pr, v, ps, i, hi, ns, st, bd, rfl, X.up e12, hP.up e12, sub, fun l2 H3 nl2 e3 hl2 => q l2 H3 (e12.free nl2) (e12.trans e3) hl2⟩
end
end K25

set_option Elab.async false
set_option linter.all false
set_option maxRecDepth 100000
set_option maxHeartbeats 4000000
namespace K25
open PySem PySem.Spec PyProof.Rows L2 Ol RZ
open TL (tl)
section
variable {P : Program} {w : World} {K : PySem.W.Frag} {mg : Str → Option Value} {base : Heap} {C CP : Addr}
/-! ### behind_arm -/
def spBA (C : Addr) : Sp := fun vs H Q _ => ∃ (lx : Addr) (va v : V) (a : Arm) (ns : List Str) (st : Str → Nat × Bool) (bd : Str → Int), vs = [.ref lx, va, v] ∧ Ctx C H lx v ns st bd ∧ Dq H va (armD a) ∧
  ((a.1 = none ∧ ∀ (r : V) (H' : Hp), Ext H H' → Dq H' r (.tuple [.int (a.2 : Int), ctD (ns.map st)]) → Q r H') ∨
   (∃ (p : Str × Str) (j : Nat) (hj : j < ns.length) (s2 : Nat × Bool), a.1 = some p ∧ ns[j] = p.2 ∧ beh p.1 (st p.2).1 (st p.2).2 (bd p.2) = some s2 ∧ ∀ (r : V) (H' : Hp), Ext H H' → Dq H' r (.tuple [.int (a.2 : Int), ctD ((ns.map st).set j s2)]) → Q r H'))
abbrev s_ba : Stmt := (topS 34)
theorem sc_ba : FnScope ["lanes", "arm", "content"] ["lanes", "arm", "content"] (defScope s_ba) := ⟨rfl, rfl, rfl, by decide +kernel, rfl, by decide +kernel, by decide +kernel⟩
theorem ok_ba {f : Addr} {fd : FuncData} (F : Fun K "behind_arm" "behind_arm" s_ba f fd) (L : LT K mg C) (CE : Ca P w K mg base 1 "is_else" ["arm"] spElse) (MD : Cm P w K mg base C 4 "done" ["self", "content", "word", "lane"] (spDone C)) :
    FnOk P w K mg base CX0 5 f fd ["lanes", "arm", "content"] (spBA C) := by
  refine F.ok sc_ba (fun vs H Q E h => ?_) (fun cdv A outer s H vs Q E hr h => ?_)
  · obtain ⟨lx, va, v, a, ns, st, bd, rfl, _⟩ := h
    rfl
  · obtain ⟨lx, va, v, a, ns, st, bd, rfl, X, ha, q⟩ := h
    refine ⟨_, (pss_cons (ps_if (pt_val (pe_ca CE (hr.mono (by decide)) (by rfl) (pa_cons (pv 1) pa_nil))) (pss_one (ps_ret (pe_tup (pa_cons (pe_ix ix_tup (pv 1) pe_int (fun _ _ => rfl)) (pa_cons (pv 2) pa_nil))))) pss_nil)
      (pss_one (ps_ret (pe_tup (pa_cons (pe_ix ix_tup (pv 1) pe_int (fun _ _ => rfl)) (pa_cons (pe_cm MD L.cl (hr.mono (by decide)) (pv 0) (pa_cons (pv 2) (pa_cons (pe_ix ix_tup (pv 1) pe_int (fun _ _ => rfl)) (pa_cons (pe_ix ix_tup (pv 1) pe_int (fun _ _ => rfl)) pa_nil)))) pa_nil)))))), ?_⟩
    obtain ⟨o, g⟩ := a
    refine ⟨_, rfl, va, (o, g), rfl, ha, _, rfl, ?_⟩
    rcases q with ⟨e, q⟩ | ⟨p, j, hj, s2, e, ej, eb, q⟩
    · cases (show o = none from e)
      obtain ⟨t, xs, ds, rfl, ed, h1, h2⟩ := dq_tup (d := .tuple [.str "else", .int (g : Int)]) ha rfl
      cases ed
      cases h2 with
      | cons a1 t1 => cases t1 with
        | cons a2 t2 =>
          cases t2
          cases a1
          cases a2
          refine iteT ?_
          refine ⟨_, rfl, t, _, 1, .int (g : Int), rfl, rfl, SqT.of h1, rfl, _, rfl, by show 2 ≤ sizeLine; decide, fun n hn => ?_⟩
          have e1 := Ext.new (o := .tup [.int (g : Int), v]) hn
          exact q _ _ e1 (.tup upd_same (.cons (.int _) (.cons (X.hv.up e1) .nil)))
    · cases (show o = some p from e)
      obtain ⟨t, xs, ds, rfl, ed, h1, h2⟩ := dq_tup (d := .tuple [.str p.1, .str p.2, .int (g : Int)]) ha rfl
      cases ed
      cases h2 with
      | cons a1 t1 => cases t1 with
        | cons a2 t2 => cases t2 with
          | cons a3 t3 =>
            cases t3
            cases a1
            cases a2
            cases a3
            refine iteF ?_
            obtain ⟨dx, n, b, sp, i1, _, _, _, _, _, l60, _⟩ := id X.hL
            refine ⟨_, rfl, t, _, 2, .int (g : Int), rfl, rfl, SqT.of h1, rfl, _, rfl, lx, dx, _, rfl, i1, lf_no _ _ _ (by decide +kernel) (by decide +kernel) (by decide +kernel), _, rfl, _, rfl, t, _, 0, .str p.1, rfl, rfl, SqT.of h1, rfl, _, rfl, t, _, 1, .str p.2, rfl, rfl, SqT.of h1, rfl, lx, ns, _, v, ns.map st, p.1, j, hj, st p.2, bd p.2, (by rw [ej]; rfl), X.hL, X.hv, by rw [List.getElem?_map, List.getElem?_eq_getElem hj, ej]; rfl, by rw [List.getElem?_map, List.getElem?_eq_getElem hj, ej]; rfl, by rw [List.length_map]; omega, s2, eb, fun r H1 e1 hr1 => ?_⟩
            refine ⟨by show 2 ≤ sizeLine; decide, fun m hm => ?_⟩
            have e2 := Ext.new (o := .tup [.int (g : Int), r]) hm
            exact q _ _ (e1.trans e2) (.tup upd_same (.cons (.int _) (.cons (hr1.up e2) .nil)))
end
end K25

set_option Elab.async false
set_option linter.all false
set_option maxRecDepth 100000
set_option maxHeartbeats 4000000
namespace K25
open PySem PySem.Spec PyProof.Rows L2 Ol RZ
open TL (tl)
section
variable {P : Program} {w : World} {K : PySem.W.Frag} {mg : Str → Option Value} {base : Heap} {C CP R : Addr}
/-! ### Refused -/
structure RT (K : PySem.W.Frag) (mg : Str → Option Value) (R : Addr) : Prop where
  gR : mg "Refused" = some (.ref R)
  ox : OexC K R
  xf : XfC K R
  nW : PySem.W.findIn K (.ref R) "what" = some none
def wh1 (x : V) : List (Str × V) := [("what", x)]
abbrev s_rfI : Stmt := inClass (topS 9) 0
def spRfI (R : Addr) : Sp := fun vs H Q _ => ∃ (a : Addr) (x : V), vs = [.ref a, x] ∧ H a = some (exo a R none) ∧
  ∀ (dx : Addr) (H' : Hp), H dx = none → dx ≠ a → (∀ b, b ≠ a → b ≠ dx → H' b = H b) → H' a = some (exo a R (some dx)) → H' dx = some (exd dx (wh1 x)) → Q .non H'
theorem sc_rfI : FnScope ["self", "what"] ["self", "what"] (defScope s_rfI) := ⟨rfl, rfl, rfl, by decide +kernel, rfl, by decide +kernel, by decide +kernel⟩
theorem ok_rfI {f : Addr} {fd : FuncData} (F : Fun K "__init__" "Refused.__init__" s_rfI f fd) (T : RT K mg R) :
    FnOk P w K mg base CX0 1 f fd ["self", "what"] (spRfI R) := by
  refine F.ok sc_rfI (fun vs H Q E h => ?_) (fun cdv A outer s H vs Q E hr h => ?_)
  · obtain ⟨a, x, rfl, _⟩ := h
    rfl
  · obtain ⟨a, x, rfl, ha, q⟩ := h
    refine ⟨_, (pss_one (ps_ost (pv 0) (pv 1))), ?_⟩
    refine ⟨_, rfl, _, rfl, a, R, rfl, T.ox, T.nW, .inl ⟨ha, fun dx hdx nda => ?_⟩⟩
    refine q dx _ hdx nda (fun b h1 h2 => ?_) upd_same ?_
    · rw [upd_ne h1, upd_ne h2]
    · rw [upd_ne nda]
      exact upd_same
structure RI (P : Program) (w : World) (K : PySem.W.Frag) (mg : Str → Option Value) (base : Heap) (R : Addr) : Prop where
  has : ∃ (f : Addr) (fd : FuncData), FnOk P w K mg base CX0 1 f fd ["self", "what"] (spRfI R) ∧ PySem.W.findIn K (.ref R) "__init__" = some (some (.ref f)) ∧
    PySem.W.typeIn K (.ref f) = some (.type "function") ∧ Binds K fd ["self", "what"] []
/-! ### moved -/
def movD (ns : List Str) (st : Str → Nat × Bool) (bd : Str → Int) (a : Arm) : PyData := .tuple [.int (a.2 : Int), ctD (match a.1 with
  | none => ns.map st
  | some p => match ns.findIdx? (fun x => decide (x = p.2)), beh p.1 (st p.2).1 (st p.2).2 (bd p.2) with
    | some j, some s2 => (ns.map st).set j s2
    | _, _ => ns.map st)]
def spMv (C CP R : Addr) : Sp := fun vs H Q E => ∃ (lx pr : Addr) (v : V) (ps : List Place) (i : Nat) (hi : i < ps.length) (j : Nat) (hj : j < ps[i].2.length) (ns : List Str) (st : Str → Nat × Bool) (bd : Str → Int), vs = [.ref lx, .ref pr, .int (i : Int), v, .int (j : Int)] ∧ Ctx C H lx v ns st bd ∧ ProgAt CP H pr ps ∧ (∀ x ∈ lanesP ps, x ∈ ns) ∧
  (j ∈ allowI st bd ps[i] → ∀ (r : V) (H' : Hp), Ext H H' → Dq H' r (movD ns st bd ps[i].2[j]) → Q r H') ∧
  (j ∉ allowI st bd ps[i] → ∀ (d : Addr) (H' : Hp), Ext H H' → H' d = some (.xd (wh1 (.int (j : Int)))) → E (.ref R) (some d) H')
abbrev s_mv : Stmt := (topS 36)
theorem sc_mv : FnScope ["lanes", "program", "place", "content", "index", "arm"] ["lanes", "program", "place", "content", "index"] (defScope s_mv) := ⟨rfl, rfl, rfl, by decide +kernel, rfl, by decide +kernel, by decide +kernel⟩
theorem inV_idx : ∀ (l : List Nat) (j : Nat), inV (.int (j : Int)) (l.map fun i : Nat => V.int (i : Int)) = decide (j ∈ l)
  | [], j => rfl
  | i :: l, j => by
    have ih := inV_idx l j
    unfold inV at ih ⊢
    rw [List.map_cons, List.any_cons, ih]
    by_cases h : i = j
    · subst h
      simp [eqV]
    · have h2 : ¬ (i : Int) = (j : Int) := by omega
      have h3 : ¬ j = i := fun z => h z.symm
      by_cases m : j ∈ l <;> simp [eqV, h, h2, h3, m]
theorem flat_idx (l : List Nat) : (l.map fun i : Nat => V.int (i : Int)).all flatV = true := by
  rw [List.all_map]
  exact List.all_eq_true.mpr fun _ _ => rfl
theorem mem_allow {st : Str → Nat × Bool} {bd : Str → Int} {p : Place} {j : Nat} (hj : j < p.2.length) (h : j ∈ allowI st bd p) : openB st bd p.2[j] = true ∨ p.2[j].1 = none := by
  have h1 : j ∈ openI st bd p.2 := by
    unfold allowI at h
    split at h
    · exact List.mem_of_mem_take h
    · exact h
  have gd : p.2.getD j (none, 0) = p.2[j] := by rw [List.getD_eq_getElem?_getD, List.getElem?_eq_getElem hj]; rfl
  unfold openI idxs at h1
  split at h1
  · have := (List.mem_filter.mp h1).2
    rw [gd] at this
    exact .inr (Option.isNone_iff_eq_none.mp this)
  · have := (List.mem_filter.mp h1).2
    rw [gd] at this
    exact .inl this
theorem idx_at {ns : List Str} (hd : ns.Nodup) {j : Nat} (hj : j < ns.length) {x : Str} (e : ns[j] = x) : ns.findIdx? (fun y => decide (y = x)) = some j := by
  rw [List.findIdx?_eq_some_iff_getElem]
  refine ⟨hj, decide_eq_true e, fun k hk => ?_⟩
  have := List.pairwise_iff_getElem.mp hd k j (by omega) hj hk
  rw [e] at this
  simpa using this
theorem ok_mv {f : Addr} {fd : FuncData} (F : Fun K "moved" "moved" s_mv f fd) (L : LT K mg C) (LP : PT K mg CP) (TR : RT K mg R) (IR : RI P w K mg base R) (CK : Ca P w K mg base 3 "check_lanes" ["lanes", "programs"] (spCkL C CP))
    (MA : Cm P w K mg base CP 5 "arm" ["self", "place", "index"] (spArmAt CP)) (CAt : Ca P w K mg base 7 "allowed_at" ["lanes", "program", "place", "content"] (spAt C CP)) (CBA : Ca P w K mg base 5 "behind_arm" ["lanes", "arm", "content"] (spBA C)) :
    FnOk P w K mg base (L2.CX P w) 8 f fd ["lanes", "program", "place", "content", "index"] (spMv C CP R) := by
  obtain ⟨fI, fdI, FI, iC, tI, bI⟩ := IR.has
  refine F.okX sc_mv (fun vs H Q E h => ?_) (fun cdv A outer s H vs Q E hr h => ?_)
  · obtain ⟨lx, pr, v, ps, i, hi, j, hj, ns, st, bd, rfl, _⟩ := h
    rfl
  · obtain ⟨lx, pr, v, ps, i, hi, j, hj, ns, st, bd, rfl, X, hP, sub, q1, q2⟩ := h
    refine ⟨_, (pss_cons (ps_expr (pe_ca CK (hr.mono (by decide)) (by rfl) (pa_cons (pv 0) (pa_cons (pe_lst (pa_cons (pv 1) pa_nil)) pa_nil))))
      (pss_cons (ps_set (i := 5) sc_mv.nd rfl (.inl rfl) (pe_cm MA LP.cl (hr.mono (by decide)) (pv 1) (pa_cons (pv 2) (pa_cons (pv 4) pa_nil))))
      (pss_cons (ps_if (pt_cmpR op_notIn_seq (pv 4) (pe_ca CAt (hr.mono (by decide)) (by rfl) (pa_cons (pv 0) (pa_cons (pv 1) (pa_cons (pv 2) (pa_cons (pv 3) pa_nil))))) (by rfl)) (pss_one (ps_raise rfl (takes_of rfl rfl rfl rfl) (pmk_oex TR.ox iC tI FI (hr.mono (by decide)) bI .nil pass0 (by rfl) TR.gR (pa_cons (pv 4) pa_nil)))) pss_nil)
      (pss_one (ps_ret (pe_ca CBA (hr.mono (by decide)) (by rfl) (pa_cons (pv 0) (pa_cons (pv 5) (pa_cons (pv 3) pa_nil))))))))), ?_⟩
    refine ⟨_, rfl, _, rfl, by show 1 ≤ sizeLine; decide, fun l hl => ?_⟩
    have e1 := Ext.new (o := .lst [.ref pr]) hl
    refine ⟨lx, l, pr, ns, _, ps, rfl, X.hL.up e1, upd_same, hP.up e1, sub, fun H2 e2 => ?_⟩
    have e12 := e1.trans e2
    obtain ⟨dx, t, u, xs, us, h1, _, _, _, _, _, _, _, ok⟩ := id (hP.up e12)
    refine ⟨_, rfl, pr, dx, _, rfl, h1, pf_no _ _ (by decide +kernel) (by decide +kernel), _, rfl, _, rfl, pr, ps, i, hi, j, hj, rfl, hP.up e12, fun ra H3 e3 hra => ?_⟩
    have e13 := e12.trans e3
    refine ⟨_, rfl, _, rfl, _, rfl, _, rfl, _, rfl, lx, pr, v, ps, i, hi, ns, st, bd, rfl, X.up e13, hP.up e13, sub, fun l2 H4 nl2 e4 hl2 => ?_⟩
    have e14 := e13.trans e4
    refine ⟨l2, _, rfl, .inl (SqL.of hl2), rfl, flat_idx _, _, rfl, ?_⟩
    rw [if_pos rfl, inV_idx]
    by_cases m : j ∈ allowI st bd ps[i]
    · rw [decide_eq_true m]
      refine iteF ?_
      have X4 := X.up e14
      have hnd : ns.Nodup := by obtain ⟨_, _, _, _, _, _, _, _, _, h, _⟩ := X4.hL; exact h
      refine ⟨_, rfl, _, rfl, _, rfl, lx, ra, v, ps[i].2[j], ns, st, bd, rfl, X4, hra.up e4, ?_⟩
      have ga := gas_of ok sub hi
      rcases mem_allow hj m with ho | ho
      · cases hp : ps[i].2[j].1 with
        | none =>
          unfold openB at ho
          rw [hp] at ho
          cases ho
        | some p =>
          right
          obtain ⟨k, hk, ek⟩ := List.getElem_of_mem ((ga _ (List.getElem_mem hj)).2 p hp)
          unfold openB at ho
          rw [hp] at ho
          obtain ⟨s2, hs2⟩ := Option.isSome_iff_exists.mp ho
          refine ⟨p, k, hk, s2, rfl, ek, hs2, fun r H5 e5 hr5 => q1 m r H5 (e14.trans e5) ?_⟩
          unfold movD
          rw [hp]
          dsimp only
          rw [idx_at hnd hk ek, hs2]
          exact hr5
      · left
        refine ⟨ho, fun r H5 e5 hr5 => q1 m r H5 (e14.trans e5) ?_⟩
        unfold movD
        rw [ho]
        exact hr5
    · rw [decide_eq_false m]
      refine iteT ?_
      refine ⟨_, rfl, by show 1 ≤ 1000; decide, fun ax hax => ?_⟩
      refine ⟨ax, .int (j : Int), rfl, upd_same, fun dx' H5 hdx nda hk hA hD => ?_⟩
      rw [upd_ne nda] at hdx
      refine ⟨rfl, dx', _, hA, hD, hdx, q2 m dx' _ (fun b o z => ?_) upd_same⟩
      have z2 := e14 b o z
      have nb1 : b ≠ ax := fun y => by rw [y, hax] at z2; cases z2
      have nb2 : b ≠ dx' := fun y => by rw [y, hdx] at z2; cases z2
      rw [upd_ne nb2, del_ne nb1, hk b nb1 nb2, upd_ne nb1]
      exact z2
end
end K25

set_option Elab.async false
set_option linter.all false
set_option maxRecDepth 100000
set_option maxHeartbeats 4000000
namespace K25
open PySem PySem.Spec PyProof.Rows L2 Ol RZ
open TL (tl)
/-! ### _law_arm -/
abbrev w9V : List V := [.str "send", .str "take", .str "send", .str "take", .str "ended", .str "close", .str "else", .str "send", .str "take"]
theorem w9 {i : Nat} (h : i < 9) : ∃ x, w9V[i]? = some (.str x) ∧ (x = "else" ∨ x ∈ words4) := by
  have : i = 0 ∨ i = 1 ∨ i = 2 ∨ i = 3 ∨ i = 4 ∨ i = 5 ∨ i = 6 ∨ i = 7 ∨ i = 8 := by omega
  rcases this with rfl | rfl | rfl | rfl | rfl | rfl | rfl | rfl | rfl <;> first | exact ⟨_, rfl, .inr (by decide +kernel)⟩ | exact ⟨_, rfl, .inl rfl⟩
section
variable {P : Program} {w : World} {K : PySem.W.Frag} {mg : Str → Option Value} {base : Heap} {C CP : Addr}
def spLArm : Sp := fun vs H Q _ => ∃ (p nl : Addr) (ns : List Str) (pl : Nat), vs = [.ref p, .ref nl, .int (pl : Int)] ∧ Bag H p ∧ H nl = some (.lst (ns.map V.str)) ∧ 1 ≤ ns.length ∧ ns.length ≤ 3 ∧ (∀ x ∈ ns, isNameS x = true) ∧ 1 ≤ pl ∧ pl ≤ 5 ∧
  ∀ (r : Addr) (H' : Hp) (a : Arm), Ext H H' → Dq H' (.ref r) (armD a) → GArm a → a.2 < pl → (∀ p, a.1 = some p → p.2 ∈ ns) → Q (.ref r) H'
abbrev s__law_arm : Stmt := (topS 48)
theorem sc__law_arm : FnScope ["_law_bag_here", "_law_names_here", "_law_places", "_law_word"] ["_law_bag_here", "_law_names_here", "_law_places"] (defScope s__law_arm) := ⟨rfl, rfl, rfl, by decide +kernel, rfl, by decide +kernel, by decide +kernel⟩
theorem ok_larm {f : Addr} {fd : FuncData} (F : Fun K "_law_arm" "_law_arm" s__law_arm f fd) (T : BT mg)
    (CT : Ca P w K mg base 1 "_law_take" ["_law_bag_here", "_law_many"] spTake) :
    FnOk P w K mg base CX0 2 f fd ["_law_bag_here", "_law_names_here", "_law_places"] spLArm := by
  refine F.ok sc__law_arm (fun vs H Q E h => ?_) (fun cdv A outer s H vs Q E hr h => ?_)
  · obtain ⟨p, nl, ns, pl, rfl, _⟩ := h
    rfl
  · obtain ⟨p, nl, ns, pl, rfl, hB, hnl, n1, n3, hns, p1, p5, q⟩ := h
    refine ⟨_, (pss_cons (ps_set (i := 3) sc__law_arm.nd rfl (.inl rfl) (pe_ix ix_list (pe_lst (pa_cons pe_str (pa_cons pe_str (pa_cons pe_str (pa_cons pe_str (pa_cons pe_str (pa_cons pe_str (pa_cons pe_str (pa_cons pe_str (pa_cons pe_str pa_nil)))))))))) (pe_ca CT (hr.mono (by decide)) (by rfl) (pa_cons (pv 0) (pa_cons pe_int pa_nil))) (fun _ _ => rfl)))
    (pss_cons (ps_if (pt_cmpR op_eq (pv 3) pe_str (nomark _))
      (pss_one (ps_ret (pe_tup (pa_cons pe_str (pa_cons (pe_ca CT (hr.mono (by decide)) (by rfl) (pa_cons (pv 0) (pa_cons (pv 2) pa_nil))) pa_nil)))))
      pss_nil)
    (pss_one (ps_ret (pe_tup (pa_cons (pv 3) (pa_cons (pe_ix ix_list (pv 1) (pe_ca CT (hr.mono (by decide)) (by rfl) (pa_cons (pv 0) (pa_cons (pe_callB call_len_seq (by rfl) T.n_len (by decide +kernel) (pa_cons (pv 1) pa_nil)) pa_nil))) (fun _ _ => rfl)) (pa_cons (pe_ca CT (hr.mono (by decide)) (by rfl) (pa_cons (pv 0) (pa_cons (pv 2) pa_nil))) pa_nil)))))))), ?_⟩
    refine ⟨by show 9 ≤ sizeLine; decide, fun l hl => ?_⟩
    have e1 := Ext.new (o := .lst w9V) hl
    have h1 : upd H l (.lst w9V) l = some (.lst w9V) := upd_same
    generalize upd H l _ = H1 at e1 h1 ⊢
    refine ⟨_, rfl, p, 9, rfl, hB.up e1, by decide, by decide, fun r r0 r1 => ?_⟩
    obtain ⟨i, rfl⟩ := Int.eq_ofNat_of_zero_le r0
    obtain ⟨x, hx, hw⟩ := w9 (i := i) (by omega)
    refine ⟨l, _, (i : Int), .str x, rfl, rfl, SqL.of h1, atI_nat hx, ?_⟩
    refine ⟨_, rfl, rfl, _, rfl, ?_⟩
    refine ite2 (fun g => ?_) (fun g => ?_)
    · refine ⟨_, rfl, _, rfl, p, _, rfl, hB.up e1, by omega, by omega, fun g g0 g1 => ⟨by show 2 ≤ sizeLine; decide, fun t ht => ?_⟩⟩
      obtain ⟨gn, rfl⟩ := Int.eq_ofNat_of_zero_le g0
      refine q t _ (none, gn) (e1.trans (Ext.new ht)) (.tup upd_same (.cons (.str _) (.cons (.int _) .nil))) trivial (by show gn < pl; omega) (fun p hp => by cases hp)
    · have hw4 : x ∈ words4 := by
        rcases hw with h | h
        · exact absurd (dec_word.mpr h) g
        · exact h
      refine ⟨_, rfl, _, rfl, _, rfl, _, rfl, nl, _, rfl, .inl (SqL.of (e1 _ _ hnl)), p, _, rfl, hB.up e1, by rw [List.length_map]; omega, by rw [List.length_map]; omega, fun j j0 j1 => ?_⟩
      rw [List.length_map] at j1
      obtain ⟨jn, rfl⟩ := Int.eq_ofNat_of_zero_le j0
      have hj : jn < ns.length := by omega
      refine ⟨nl, _, (jn : Int), .str ns[jn], rfl, rfl, SqL.of (e1 _ _ hnl), atI_nat (ix_get jn hj), ?_⟩
      refine ⟨_, rfl, _, rfl, p, _, rfl, hB.up e1, by omega, by omega, fun g g0 g1 => ⟨by show 3 ≤ sizeLine; decide, fun t ht => ?_⟩⟩
      obtain ⟨gn, rfl⟩ := Int.eq_ofNat_of_zero_le g0
      refine q t _ (some (x, ns[jn]), gn) (e1.trans (Ext.new ht)) (.tup upd_same (.cons (.str _) (.cons (.str _) (.cons (.int _) .nil)))) ⟨hw4, hns _ (List.getElem_mem hj)⟩ (by show gn < pl; omega) (fun p hp => by cases hp; exact List.getElem_mem hj)
end
end K25

set_option Elab.async false
set_option linter.all false
set_option maxRecDepth 100000
set_option maxHeartbeats 4000000
namespace K25
open PySem PySem.Spec PyProof.Rows L2 Ol RZ
open TL (tl)
/-! ### sizes of arms -/
theorem sysUp {H H' : Hp} (h : Sys H) (e : Ext H H') : Sys H' := by
  obtain ⟨o, u, q⟩ := h
  exact ⟨o, u, e _ _ q⟩
theorem eqv_e (ds : List PyData) : PyData.eqv (.list ds) (.list []) = ds.isEmpty := by
  cases ds <;> simp [PyData.eqv, PyData.eqvAll]
theorem gd_nat5 {n : Nat} (h : n ≤ 6) : Gd 0 (.int (n : Int)) := by
  have : n = 0 ∨ n = 1 ∨ n = 2 ∨ n = 3 ∨ n = 4 ∨ n = 5 ∨ n = 6 := by omega
  rcases this with rfl | rfl | rfl | rfl | rfl | rfl | rfl <;> exact gd_int _ (by decide +kernel) (by decide +kernel)
theorem gd_arm {a : Arm} (h : GArm a) (hg : a.2 ≤ 6) : Gd 1 (armD a) := by
  obtain ⟨o, g⟩ := a
  cases o with
  | none =>
    refine gd_tuple (fun d hd => ?_) (by simp)
    simp only [List.mem_cons, List.not_mem_nil, or_false] at hd
    rcases hd with rfl | rfl
    · exact gd_str _ (by decide +kernel) (by decide +kernel)
    · exact gd_nat5 hg
  | some p =>
    obtain ⟨w, l⟩ := p
    have h' : w ∈ words4 ∧ isNameS l = true := h
    refine gd_tuple (fun d hd => ?_) (by simp)
    simp only [List.mem_cons, List.not_mem_nil, or_false] at hd
    rcases hd with rfl | rfl | rfl
    · exact word_gd _ h'.1
    · exact name_gd h'.2
    · exact gd_nat5 hg
theorem lay_arm {a : Arm} (h : GArm a) : (armD a).canLay0 = true := by
  obtain ⟨o, g⟩ := a
  cases o with
  | none =>
    show (PyData.tuple [.str "else", .int (g : Int)]).canLay0 = true
    simp only [PyData.canLay0, PyData.canLayAll0, Bool.and_true]
    decide +kernel
  | some p =>
    obtain ⟨w, l⟩ := p
    have h' : w ∈ words4 ∧ isNameS l = true := h
    show (PyData.tuple [.str w, .str l, .int (g : Int)]).canLay0 = true
    simp only [PyData.canLay0, PyData.canLayAll0, Bool.and_true, Bool.and_eq_true]
    exact ⟨word_ok _ h'.1, name_ok h'.2⟩
theorem arms_shaped {as : List Arm} (h : ∀ a ∈ as, GArm a ∧ a.2 ≤ 6) : SeqAt.shaped (.list (as.map armD)) = true := by
  have hg : ∀ d ∈ as.map armD, Gd 1 d := fun d hd => by
    obtain ⟨a, ha, rfl⟩ := List.mem_map.mp hd
    exact gd_arm (h a ha).1 (h a ha).2
  refine lay_shaped ?_ ?_
  · rw [PyData.canLay0]
    refine lay_all fun d hd => ?_
    obtain ⟨a, ha, rfl⟩ := List.mem_map.mp hd
    exact lay_arm (h a ha).1
  · have := (all_sh hg).2.1
    simp only [PyData.depth]
    omega
theorem nil_shaped : SeqAt.shaped (.list []) = true := by
  refine lay_shaped (by simp [PyData.canLay0, PyData.canLayAll0]) (by simp [PyData.depth, PyData.depthAll])
theorem filt_step {as : List Arm} {k : Nat} (h : k < as.length) (q : Arm → Bool) : (as.take (k + 1)).filter q = (as.take k).filter q ++ (if q as[k] = true then [as[k]] else []) := by
  rw [List.take_add_one, List.getElem?_eq_getElem h, List.filter_append]
  congr 1
  cases hq : q as[k] <;> simp [hq]
theorem arm_at {H : Hp} {r : Addr} {a : Arm} (h : Dq H (.ref r) (armD a)) : ∃ xs, H r = some (.tup xs) ∧ ∀ H' : Hp, H' r = some (.tup xs) → Dq H' (.ref r) (armD a) := by
  obtain ⟨o, g⟩ := a
  cases o with
  | none =>
    obtain ⟨t, xs, ds, e, ed, h1, h2⟩ := dq_tup (d := .tuple [.str "else", .int (g : Int)]) h rfl
    cases e
    cases ed
    refine ⟨xs, h1, fun H' h' => ?_⟩
    cases h2 with
    | cons a1 t1 => cases t1 with
      | cons a2 t2 =>
        cases t2
        cases a1
        cases a2
        exact .tup h' (.cons (.str _) (.cons (.int _) .nil))
  | some p =>
    obtain ⟨t, xs, ds, e, ed, h1, h2⟩ := dq_tup (d := .tuple [.str p.1, .str p.2, .int (g : Int)]) h rfl
    cases e
    cases ed
    refine ⟨xs, h1, fun H' h' => ?_⟩
    cases h2 with
    | cons a1 t1 => cases t1 with
      | cons a2 t2 => cases t2 with
        | cons a3 t3 =>
          cases t3
          cases a1
          cases a2
          cases a3
          exact .tup h' (.cons (.str _) (.cons (.str _) (.cons (.int _) .nil)))
theorem els_iff {a : Arm} (h : GArm a) : ((match a.1 with | some p => p.1 | none => ("else" : Str)) : Str) = ("else" : Str) ↔ a.1.isNone = true := by
  obtain ⟨o, g⟩ := a
  cases o with
  | none => exact ⟨fun _ => rfl, fun _ => rfl⟩
  | some p =>
    have h' : p.1 ∈ words4 ∧ isNameS p.2 = true := h
    refine ⟨fun z => ?_, fun z => Bool.noConfusion z⟩
    have hw := h'.1
    have z' : p.1 = "else" := z
    rw [z'] at hw
    exact absurd hw (by decide +kernel)
/-- the arms found so far -/
def InA (n : Nat) (ns : List Str) (Hb : Hp) (al fl : Addr) (j : Nat) (H' : Hp) : Prop := ∃ (ys : List V) (as : List Arm), Ext Hb H' ∧ H' al = some (.lst ys) ∧ DqAll (del (del H' al) fl) ys (as.map armD) ∧ as.length ≤ j ∧
  (∀ a ∈ as, GArm a ∧ a.2 < n ∧ ∀ p, a.1 = some p → p.2 ∈ ns) ∧ (as.filter fun a : Arm => a.1.isNone).length ≤ 1
theorem InA.add {n : Nat} {ns : List Str} {Hb H6 H7 : Hp} {al fl : Addr} {j : Nat} {ys : List V} {as : List Arm} {a : Arm} {r : Addr} (hal : Hb al = none) (e : Ext Hb H6) (e67 : Ext H6 H7)
    (hy : DqAll (del (del H6 al) fl) ys (as.map armD)) (hl : as.length ≤ j) (ga : ∀ a ∈ as, GArm a ∧ a.2 < n ∧ ∀ p, a.1 = some p → p.2 ∈ ns) (he : (as.filter fun a : Arm => a.1.isNone).length ≤ 1)
    (hr : Dq (del (del H7 al) fl) (.ref r) (armD a)) (g : GArm a ∧ a.2 < n ∧ ∀ p, a.1 = some p → p.2 ∈ ns) (hc : (as.filter fun a : Arm => a.1.isNone).length = 0 ∨ a.1.isNone = false) :
    InA n ns Hb al fl (j + 1) (upd H7 al (.lst (ys ++ [.ref r]))) := by
  refine ⟨ys ++ [.ref r], as ++ [a], Ext.mut (e.trans e67) hal, upd_same, ?_, by rw [List.length_append, List.length_singleton]; omega, fun b hb => ?_, ?_⟩
  · rw [del_upd, List.map_append]
    exact dq_app (DqAll.up (ext_del (ext_del e67)) hy) (.cons hr .nil)
  · rcases List.mem_append.mp hb with h | h
    · exact ga b h
    · rw [List.mem_singleton.mp h]
      exact g
  · rw [List.filter_append, List.length_append]
    rcases hc with h | h
    · rw [h]
      have : ([a].filter fun a : Arm => a.1.isNone).length ≤ 1 := Nat.le_trans (List.length_filter_le ..) (by simp)
      omega
    · rw [List.filter_cons_of_neg (by rw [h]; decide)]
      simpa using he
/-! ### _law_program -/
structure GL (n : Nat) (ns : List Str) (p : Place) : Prop where
  place : GPlace n p
  few : p.2.length ≤ 3
  lanes : ∀ x ∈ lanesA p.2, x ∈ ns
section
variable {P : Program} {w : World} {K : PySem.W.Frag} {mg : Str → Option Value} {base : Heap} {C CP : Addr}
def spLProg : Sp := fun vs H Q _ => ∃ (p nl : Addr) (ns : List Str) (n : Nat), vs = [.ref p, .ref nl, .int (n : Int)] ∧ Sys H ∧ Bag H p ∧ H nl = some (.lst (ns.map V.str)) ∧ 1 ≤ ns.length ∧ ns.length ≤ 3 ∧ (∀ x ∈ ns, isNameS x = true) ∧ 1 ≤ n ∧ n ≤ 5 ∧
  ∀ (fl : Addr) (xs : List V) (ps : List Place) (H' : Hp), H fl = none → Ext H H' → H' fl = some (.lst xs) → DqAll (del H' fl) xs (ps.map placeD) → ps.length = n → (∀ q ∈ ps, GL n ns q) → Q (.ref fl) H'
abbrev s__law_program : Stmt := (topS 49)
abbrev nLPr : List Str := ["_law_bag_here", "_law_names_here", "_law_places", "_law_found", "_law_place", "_law_mode", "_law_arms", "_law_k", "_law_arm_here", "_law_one"]
theorem sc__law_program : FnScope nLPr ["_law_bag_here", "_law_names_here", "_law_places"] (defScope s__law_program) := ⟨rfl, rfl, rfl, by decide +kernel, rfl, by decide +kernel, by decide +kernel⟩
abbrev k8V : List V := [.int 1, .int 2, .int 1, .int 2, .int 3, .int 0, .int 2, .int 1]
theorem k8 {i : Nat} (h : i < 8) : ∃ m : Nat, k8V[i]? = some (.int (m : Int)) ∧ m ≤ 3 := by
  have : i = 0 ∨ i = 1 ∨ i = 2 ∨ i = 3 ∨ i = 4 ∨ i = 5 ∨ i = 6 ∨ i = 7 := by omega
  rcases this with rfl | rfl | rfl | rfl | rfl | rfl | rfl | rfl
  · exact ⟨1, rfl, by decide⟩
  · exact ⟨2, rfl, by decide⟩
  · exact ⟨1, rfl, by decide⟩
  · exact ⟨2, rfl, by decide⟩
  · exact ⟨3, rfl, by decide⟩
  · exact ⟨0, rfl, by decide⟩
  · exact ⟨2, rfl, by decide⟩
  · exact ⟨1, rfl, by decide⟩
theorem ok_lprog {f : Addr} {fd : FuncData} (F : Fun K "_law_program" "_law_program" s__law_program f fd) (T : BT mg)
    (CT : Ca P w K mg base 1 "_law_take" ["_law_bag_here", "_law_many"] spTake) (CAr : Ca P w K mg base 2 "_law_arm" ["_law_bag_here", "_law_names_here", "_law_places"] spLArm) :
    FnOk P w K mg base CX0 3 f fd ["_law_bag_here", "_law_names_here", "_law_places"] spLProg := by
  refine F.ok sc__law_program (fun vs H Q E h => ?_) (fun cdv A outer s H vs Q E hr h => ?_)
  · obtain ⟨p, nl, ns, n, rfl, _⟩ := h
    rfl
  · obtain ⟨p, nl, ns, n, rfl, hS, hB, hnl, n1, n3, hns, p1, p5, q⟩ := h
    refine ⟨_, (pss_cons (ps_set (i := 3) sc__law_program.nd rfl (.inl rfl) (pe_lst pa_nil))
    (pss_cons (ps_for PassesOwn.never rfl (pi_range1 (by rfl) T.n_range (pa_cons (pv 2) pa_nil)) (pg_name (i := 4) sc__law_program.nd rfl (.inl rfl))
      (pss_cons (ps_par (i := 5) (j := 6) rfl sc__law_program.nd rfl rfl (by decide) rfl rfl (pa_cons (pe_ix ix_list (pe_lst (pa_cons pe_str (pa_cons pe_str pa_nil))) (pe_ca CT (hr.mono (by decide)) (by rfl) (pa_cons (pv 0) (pa_cons pe_int pa_nil))) (fun _ _ => rfl)) (pa_cons (pe_lst pa_nil) pa_nil)) (by rfl))
      (pss_cons (ps_for PassesOwn.never rfl (pi_range1 (by rfl) T.n_range (pa_cons (pe_ix ix_list (pe_lst (pa_cons pe_int (pa_cons pe_int (pa_cons pe_int (pa_cons pe_int (pa_cons pe_int (pa_cons pe_int (pa_cons pe_int (pa_cons pe_int pa_nil))))))))) (pe_ca CT (hr.mono (by decide)) (by rfl) (pa_cons (pv 0) (pa_cons pe_int pa_nil))) (fun _ _ => rfl)) pa_nil)) (pg_name (i := 7) sc__law_program.nd rfl (.inl rfl))
        (pss_cons (ps_set (i := 8) sc__law_program.nd rfl (.inl rfl) (pe_ca CAr (hr.mono (by decide)) (by rfl) (pa_cons (pv 0) (pa_cons (pv 1) (pa_cons (pv 2) pa_nil)))))
        (pss_one (ps_if (PW.pt (pw_or (pt_cmpR op_ne (pe_ix ix_tup (pv 8) pe_int (fun _ _ => rfl)) pe_str (nomark _)) (pw_or1 (pt_cmpR (op_eqQ hr) (pe_lc (own := [("_law_one", 9)]) (g := gName 9) (tt := tTest (tOp rEq (tOp (rIxT K) (tVar 9) (tC (.int 0))) (tC (.str "else")))) rfl sc__law_program.nd (pi_list (pv 6)) (blkOk_by (N := nLPr) (sc := defScope s__law_program) (by decide +kernel)) (fun _ _ _ _ _ => (pg_name (i := 9) sc__law_program.nd rfl (.inl rfl))) (fun _ _ _ _ _ => (pts_one (pt_cmpR op_eq (pe_ix ix_tup (pv 9) pe_int (fun _ _ => rfl)) pe_str (nomark _)))) (fun _ _ _ _ _ => (pv 9))) (pe_lst pa_nil) (nomark _)))))
          (pss_one (ps_expr (pe_bm PySem.F.plainAttrs_list PySem.F.slot_list_append PySem.F.type_list_append mt_append (pv 6) (pa_cons (pv 8) pa_nil))))
          pss_nil))))
      (pss_one (ps_expr (pe_bm PySem.F.plainAttrs_list PySem.F.slot_list_append PySem.F.type_list_append mt_append (pv 3) (pa_cons (pe_tup (pa_cons (pv 5) (pa_cons (pe_callTy call_tuple_of (by rfl) T.n_tuple (by decide +kernel) (pa_cons (pv 6) pa_nil)) pa_nil))) pa_nil)))))))
    (pss_one (ps_ret (pv 3))))), ?_⟩
    refine ⟨by show 0 ≤ sizeLine; decide, fun fl hfl => ?_⟩
    have e0 := Ext.new (o := .lst []) hfl
    refine ⟨_, rfl, _, rfl, by omega, by omega, ?_⟩
    refine for_range (fun i σ H' => ∃ s4 s5 s6 s7 s8 s9 xs ps, σ = [some (.ref p), some (.ref nl), some (.int (n : Int)), some (.ref fl), s4, s5, s6, s7, s8, s9] ∧ Ext H H' ∧ H' fl = some (.lst xs) ∧ DqAll (del H' fl) xs (ps.map placeD) ∧ ps.length = i ∧ ∀ q ∈ ps, GL n ns q)
      ⟨none, none, none, none, none, none, [], [], rfl, e0, upd_same, .nil, rfl, fun q hq => by cases hq⟩ ?_ ?_
    · rintro i σ H1 hi ⟨s4, s5, s6, s7, s8, s9, xs, ps, rfl, e1, f1, hx, hl, gd⟩
      have hi5 : i < 5 := by omega
      refine ⟨by show 2 ≤ sizeLine; decide, fun l hl2 => ?_⟩
      have x1 := Ext.new (o := .lst [V.str "first", V.str "any"]) hl2
      have y1 : upd H1 l (.lst [V.str "first", V.str "any"]) l = some (.lst [V.str "first", V.str "any"]) := upd_same
      generalize upd H1 l _ = H2 at x1 y1 ⊢
      have e2 := e1.trans x1
      refine ⟨_, rfl, p, 2, rfl, hB.up e2, by decide, by decide, fun r r0 r1 => ?_⟩
      obtain ⟨m, hm, hmd⟩ : ∃ m : Str, atI [V.str "first", V.str "any"] r = some (.str m) ∧ (m = "first" ∨ m = "any") := by
        have : r = 0 ∨ r = 1 := by omega
        rcases this with rfl | rfl
        · exact ⟨_, rfl, .inl rfl⟩
        · exact ⟨_, rfl, .inr rfl⟩
      refine ⟨l, _, r, .str m, rfl, rfl, SqL.of y1, hm, ?_⟩
      refine ⟨by show 0 ≤ sizeLine; decide, fun al hal => ⟨_, _, rfl, ?_⟩⟩
      have e3 := Ext.new (o := .lst []) hal
      have f2 := x1 _ _ f1
      have nfa : al ≠ fl := fun z => by rw [z, f2] at hal; cases hal
      refine ⟨by show 8 ≤ sizeLine; decide, fun l3 hl3 => ?_⟩
      have x4 := Ext.new (o := .lst k8V) hl3
      have y4 : upd (upd H2 al (.lst [])) l3 (.lst k8V) l3 = some (.lst k8V) := upd_same
      have ya : upd (upd H2 al (.lst [])) l3 (.lst k8V) al = some (.lst []) := x4 _ _ upd_same
      have e24 : Ext H2 (upd (upd H2 al (.lst [])) l3 (.lst k8V)) := e3.trans x4
      generalize upd (upd H2 al (.lst [])) l3 _ = H4 at e24 y4 ya ⊢
      refine ⟨_, rfl, p, 8, rfl, hB.up (e2.trans e24), by decide, by decide, fun r8 r80 r81 => ?_⟩
      obtain ⟨i8, rfl⟩ := Int.eq_ofNat_of_zero_le r80
      obtain ⟨m8, hm8, l8⟩ := k8 (i := i8) (by omega)
      refine ⟨l3, _, (i8 : Int), .int (m8 : Int), rfl, rfl, SqL.of y4, atI_nat hm8, _, rfl, by omega, by omega, ?_⟩
      refine for_range (fun j σ H' => ∃ s7 s8 s9, σ = [some (.ref p), some (.ref nl), some (.int (n : Int)), some (.ref fl), some (.int (0 + (i : Int))), some (.str m), some (.ref al), s7, s8, s9] ∧ InA n ns H2 al fl j H')
        ⟨_, _, _, rfl, [], [], e24, ya, .nil, by simp, fun a ha => (by cases ha), by simp⟩ ?_ ?_
      · rintro j σ H5 hj ⟨s7, s8, s9, rfl, ys, as, e5, a5, hy, hla, ga, he⟩
        have hj3 : j < 3 := by omega
        have hB5 := hB.up (e2.trans e5)
        refine ⟨_, rfl, _, rfl, _, rfl, p, nl, ns, n, rfl, hB5, (e2.trans e5) _ _ hnl, n1, n3, hns, p1, p5, fun r H6 a e6 hra g1 g2 g3 => ?_⟩
        have e56 := e5.trans e6
        have a6 := e6 _ _ a5
        have f6 := e56 _ _ f2
        have lys : ys.length = as.length := by rw [hy.len, List.length_map]
        obtain ⟨ws, h4, re⟩ := arm_at hra
        obtain ⟨t4, ws4, et4, h4', _, h40, _⟩ := arm_inv hra
        cases et4
        rw [h4] at h4'
        cases h4'
        have nta : r ≠ al := fun z => by rw [z, a6] at h4; cases h4
        have ntf : r ≠ fl := fun z => by rw [z, f6] at h4; cases h4
        have hra' : ∀ H7 : Hp, Ext H6 H7 → Dq (del (del H7 al) fl) (.ref r) (armD a) := fun H7 e7 => re _ (by rw [del_ne ntf, del_ne nta]; exact e7 _ _ h4)
        have hy6 : DqAll (del (del H6 al) fl) ys (as.map armD) := DqAll.up (ext_del (ext_del e6)) hy
        have hlen : ys.length < sizeLine := by rw [lys]; exact Nat.lt_of_le_of_lt (show _ ≤ 3 by omega) (by decide)
        have nxt : ∀ H7 : Hp, Ext H6 H7 → ((as.filter fun a : Arm => a.1.isNone).length = 0 ∨ a.1.isNone = false) → InA n ns H2 al fl (j + 1) (upd H7 al (.lst (ys ++ [.ref r]))) := fun H7 e7 hc =>
          InA.add hal e56 e7 hy6 hla ga he (hra' H7 e7) ⟨g1, g2, g3⟩ hc
        refine ⟨_, rfl, r, ws, 0, _, rfl, rfl, SqT.of h4, h40, rfl, _, rfl, ?_⟩
        refine ite2 (fun g => ?_) (fun g => ?_)
        · refine iteT ?_
          refine ⟨_, rfl, .inl ⟨rfl, _, SqL.of a6⟩, _, rfl, al, ys, _, rfl, rfl, a6, hlen, _, _, _, rfl, nxt H6 (Ext.refl _) (.inr ?_)⟩
          cases ha : a.1 with
          | none => rw [ha] at g; simp at g
          | some _ => rfl
        · refine ⟨_, rfl, al, rfl, ⟨_, SqL.of a6⟩, fun D hD => ?_⟩
          refine lc1_acc (walk_list (xs := ys)) (fun k zs Hz => DqAll Hz zs (((as.take k).filter fun a : Arm => a.1.isNone).map armD)) (fun _ _ _ _ e h => DqAll.up e h) .nil hD
            (fun k zs Hz h => ?_) (fun Hz ez => SqL.of (ez _ _ a6)) ?_ ?_
          · rw [h.len, List.length_map]
            refine Nat.lt_of_le_of_lt (Nat.le_trans (List.length_filter_le ..) ?_) (show 3 < sizeLine by decide)
            rw [List.length_take]
            omega
          · rintro k y Ha Hb zs hk ea hza ⟨rfl, hyk⟩ hp QY QN kY kN
            have hk2 : k < as.length := by omega
            obtain ⟨y', hy', dy'⟩ := DqAll_get (DqAll.up (del_ext.trans del_ext) hy6) k (armD as[k]) (by rw [List.getElem?_map, List.getElem?_eq_getElem hk2]; rfl)
            rw [hyk] at hy'
            cases hy'
            obtain ⟨t5, ws5, rfl, h5, _, h50, _⟩ := arm_inv (dy'.up ea)
            have gk := ga _ (List.getElem_mem hk2)
            refine ⟨rfl, ?_⟩
            refine ⟨_, rfl, t5, ws5, 0, _, rfl, rfl, SqT.of h5, h50, rfl, _, rfl, ?_⟩
            refine ite2 (fun g' => ?_) (fun g' => ?_)
            · have ee := (els_iff gk.1).mp (dec_word.mp g')
              refine ⟨_, rfl, kY _ _ (Ext.refl _) ?_⟩
              rw [filt_step hk2, ee, if_pos rfl, List.map_append]
              exact dq_app hp (.cons (dy'.up (ext_to ea hD)) .nil)
            · have ee : as[k].1.isNone = false := Bool.eq_false_iff.mpr fun z => g' (dec_word.mpr ((els_iff gk.1).mpr z))
              refine kN _ (Ext.refl _) ?_
              rw [filt_step hk2, ee, if_neg (by decide), List.append_nil]
              exact hp
          rintro H7 zs e7 hz hp
          rw [lys, List.take_length] at hp
          refine ⟨by show 0 ≤ sizeLine; decide, fun l7 hl7 => ?_⟩
          have e8 := Ext.new (o := .lst []) hl7
          have e78 := e7.trans e8
          refine ⟨.list ((as.filter fun a : Arm => a.1.isNone).map armD), .list [], sysUp hS ((e2.trans e56).trans e78), .lst (e8 _ _ hz) (DqAll.up e8 hp), .lst upd_same .nil, arms_shaped (fun a ha => ⟨(ga a (List.mem_filter.mp ha).1).1, by have := (ga a (List.mem_filter.mp ha).1).2.1; omega⟩), nil_shaped, _, rfl, ?_⟩
          rw [eqv_e]
          refine ite2 (fun g' => ?_) (fun g' => ?_)
          · have hz0 : (as.filter fun a : Arm => a.1.isNone).length = 0 := by
              have := List.isEmpty_iff.mp g'
              rw [← List.length_map (f := armD), this]
              rfl
            exact ⟨_, rfl, .inl ⟨rfl, _, SqL.of (e78 _ _ a6)⟩, _, rfl, al, ys, _, rfl, rfl, e78 _ _ a6, hlen, _, _, _, rfl, nxt _ e78 (.inl hz0)⟩
          · exact ⟨_, _, _, rfl, ys, as, e56.trans e78, e78 _ _ a6, DqAll.up (ext_del (ext_del e78)) hy6, by omega, ga, he⟩
      · rintro σ H5 ⟨s7, s8, s9, rfl, ys, as, e5, a5, hy, hla, ga, he⟩
        have f5 := e5 _ _ f2
        have hl3' : as.length ≤ 3 := by omega
        refine ⟨_, rfl, .inl ⟨rfl, _, SqL.of f5⟩, _, rfl, _, rfl, al, ys, rfl, .inl ⟨SqL.of a5, fun t ht => ⟨by show 2 ≤ sizeLine; decide, fun t2 ht2 => ?_⟩⟩⟩
        have x6 := Ext.new (o := .tup ys) ht
        have x7 := Ext.new (o := .tup [.str m, .ref t]) ht2
        have x67 := x6.trans x7
        have f7 := x67 _ _ f5
        have y6 : upd (upd H5 t (.tup ys)) t2 (.tup [.str m, .ref t]) t = some (.tup ys) := x7 _ _ upd_same
        have y7 : upd (upd H5 t (.tup ys)) t2 (.tup [.str m, .ref t]) t2 = some (.tup [.str m, .ref t]) := upd_same
        generalize upd (upd H5 t (.tup ys)) t2 _ = H7 at x67 f7 y6 y7 ⊢
        have nt : t ≠ fl := fun z => by rw [z, f5] at ht; cases ht
        have nt2 : t2 ≠ fl := fun z => by rw [z, x6 _ _ f5] at ht2; cases ht2
        have lxs : xs.length = ps.length := by rw [hx.len, List.length_map]
        have hyf : DqAll (del H7 fl) ys (as.map armD) := DqAll.up (ext_del x67) (DqAll.up (ext_del del_ext) hy)
        refine ⟨fl, xs, _, rfl, rfl, f7, by rw [lxs, hl]; exact Nat.lt_trans hi5 (by decide), ?_⟩
        refine ⟨_, _, _, _, _, _, xs ++ [.ref t2], ps ++ [(m, as)], rfl, Ext.mut (e2.trans (e5.trans x67)) hfl, upd_same, ?_, by rw [List.length_append, hl]; rfl, fun z hz => ?_⟩
        · rw [del_upd, List.map_append]
          exact dq_app (DqAll.up (ext_del (x1.trans (e5.trans x67))) hx) (.cons (.tup (by rw [del_ne nt2]; exact y7) (.cons (.str _) (.cons (.tup (by rw [del_ne nt]; exact y6) hyf) .nil))) .nil)
        · rcases List.mem_append.mp hz with h | h
          · exact gd z h
          · rw [List.mem_singleton.mp h]
            refine ⟨⟨hmd, fun a ha => ⟨(ga a ha).1, (ga a ha).2.1⟩, he, by show as.length ≤ 5; omega⟩, hl3', fun x hx => ?_⟩
            unfold lanesA at hx
            obtain ⟨a, ha, ea⟩ := List.mem_filterMap.mp hx
            cases hp : a.1 with
            | none => rw [hp] at ea; cases ea
            | some pr =>
              rw [hp] at ea
              cases ea
              exact (ga a ha).2.2 pr hp
    · rintro σ H5 ⟨s4, s5, s6, s7, s8, s9, xs, ps, rfl, e1, f1, hx, hl, gd⟩
      exact ⟨_, rfl, q fl xs ps _ hfl e1 f1 hx (by omega) gd⟩
end
end K25

set_option Elab.async false
set_option linter.all false
set_option maxRecDepth 100000
set_option maxHeartbeats 4000000
namespace K25
open PySem PySem.Spec PyProof.Rows L2 Ol RZ
open TL (tl)
/-- the parts of an arm -/
def armV : Arm → List V
  | (some p, g) => [.str p.1, .str p.2, .int (g : Int)]
  | (none, g) => [.str "else", .int (g : Int)]
theorem arm_tup {H : Hp} {v : V} {a : Arm} (h : Dq H v (armD a)) : ∃ r, v = .ref r ∧ H r = some (.tup (armV a)) := by
  obtain ⟨o, g⟩ := a
  cases o with
  | none =>
    obtain ⟨t, xs, ds, e, ed, h1, h2⟩ := dq_tup (d := .tuple [.str "else", .int (g : Int)]) h rfl
    cases ed
    refine ⟨t, e, ?_⟩
    cases h2 with
    | cons a1 t1 => cases t1 with
      | cons a2 t2 =>
        cases t2
        cases a1
        cases a2
        exact h1
  | some p =>
    obtain ⟨t, xs, ds, e, ed, h1, h2⟩ := dq_tup (d := .tuple [.str p.1, .str p.2, .int (g : Int)]) h rfl
    cases ed
    refine ⟨t, e, ?_⟩
    cases h2 with
    | cons a1 t1 => cases t1 with
      | cons a2 t2 => cases t2 with
        | cons a3 t3 =>
          cases t3
          cases a1
          cases a2
          cases a3
          exact h1
theorem armV0 {a : Arm} : atI (armV a) 0 = some (.str (match a.1 with | some p => p.1 | none => ("else" : Str))) := by
  obtain ⟨o, g⟩ := a
  cases o <;> rfl
theorem idxs_len (q : Arm → Bool) (as : List Arm) : (idxs q as).length = (as.filter q).length := by
  have e := range_getD (fun a : Arm => a) (none, 0) as
  rw [List.map_id'] at e
  conv => rhs; rw [← e]
  rw [List.filter_map, List.length_map]
  rfl
theorem idx_small {q : Arm → Bool} {as : List Arm} {n : Nat} (h : as.length ≤ n) : ∀ i ∈ idxs q as, i < n := fun i hi => by
  have := List.mem_range.mp (List.mem_filter.mp hi).1
  omega
theorem dq_ints (H : Hp) : ∀ l : List Nat, DqAll H (l.map fun i : Nat => V.int (i : Int)) (l.map fun i : Nat => PyData.int (i : Int))
  | [] => .nil
  | _ :: l => .cons (.int _) (dq_ints H l)
theorem ints_shaped {l : List Nat} (h : ∀ i ∈ l, i < 7) : SeqAt.shaped (.list (l.map fun i : Nat => PyData.int (i : Int))) = true := by
  have hg : ∀ d ∈ l.map (fun i : Nat => PyData.int (i : Int)), Gd 0 d := fun d hd => by
    obtain ⟨i, hi, rfl⟩ := List.mem_map.mp hd
    exact gd_nat5 (by have := h i hi; omega)
  refine lay_shaped ?_ ?_
  · rw [PyData.canLay0]
    refine lay_all fun d hd => ?_
    obtain ⟨i, hi, rfl⟩ := List.mem_map.mp hd
    simp [PyData.canLay0]
  · have := (all_sh hg).2.1
    simp only [PyData.depth]
    omega
section
variable {P : Program} {w : World} {K : PySem.W.Frag} {mg : Str → Option Value} {base : Heap} {C CP : Addr}
/-! ### _law_choices -/
def spLCh : Sp := fun vs H Q _ => ∃ (db : Addr) (vr vc : V) (prs : List (Str × Int)) (ns : List Str) (st : Str → Nat × Bool) (n : Nat) (p : Place), vs = [.ref db, vr, vc] ∧ Sys H ∧ H db = some (.dK (kvI prs)) ∧ Dq H vr (placeD p) ∧ Dq H vc (ctD (ns.map st)) ∧ prs.length ≤ 3 ∧
  ns.Perm (prs.map (·.1)) ∧ ns.Nodup ∧ sortedS ns = true ∧ GL n ns p ∧
  ∀ (l : Addr) (H' : Hp), H l = none → Ext H H' → H' l = some (.lst ((allowI st (bdOf prs) p).map fun i : Nat => V.int (i : Int))) → Q (.ref l) H'
abbrev s__law_choices : Stmt := (topS 54)
abbrev nLCh : List Str := ["_law_bounds_here", "_law_row", "_law_content_here", "_law_arms", "_law_found", "_law_k"]
theorem sc__law_choices : FnScope nLCh ["_law_bounds_here", "_law_row", "_law_content_here"] (defScope s__law_choices) := ⟨rfl, rfl, rfl, by decide +kernel, rfl, by decide +kernel, by decide +kernel⟩
theorem ok_lch {f : Addr} {fd : FuncData} (F : Fun K "_law_choices" "_law_choices" s__law_choices f fd) (T : BT mg)
    (COp : Ca P w K mg base 1 "_law_opens" ["_law_bounds_here", "_law_content_here", "_law_arm_here"] spOpens) :
    FnOk P w K mg base CX0 2 f fd ["_law_bounds_here", "_law_row", "_law_content_here"] spLCh := by
  refine F.ok sc__law_choices (fun vs H Q E h => ?_) (fun cdv A outer s H vs Q E hr h => ?_)
  · obtain ⟨db, vr, vc, prs, ns, st, n, p, rfl, _⟩ := h
    rfl
  · obtain ⟨db, vr, vc, prs, ns, st, n, p, rfl, hS, hdb, hvr, hvc, l3, hperm, hnd, hso, gl, q⟩ := h
    refine ⟨_, (pss_cons (ps_set (i := 3) sc__law_choices.nd rfl (.inr rfl) (pe_ix ix_tup (pv 1) pe_int (fun _ _ => rfl)))
    (pss_cons (ps_setLc (i := 4) (own := [("_law_k", 5)]) (g := gName 5) (tt := tAnd (tTest (tOp rNe (tOp (rIxT K) (tOp (rIxT K) (tVar 3) (tVar 5)) (tC (.int 0))) (tC (.str "else")))) (tB (tCall spOpens [] E0 (tCons (tVar 0) (tCons (tVar 2) (tCons (tOp (rIxT K) (tVar 3) (tVar 5)) tNil)))))) rfl sc__law_choices.nd rfl rfl (sw_true rfl rfl rfl (by decide +kernel)) (pi_range1 (by rfl) T.n_range (pa_cons (pe_callB call_len_seq (by rfl) T.n_len (by decide +kernel) (pa_cons (pv 3) pa_nil)) pa_nil)) (blkOk_by (N := nLCh) (sc := defScope s__law_choices) (by decide +kernel)) (fun _ _ _ _ _ => (pg_name (i := 5) sc__law_choices.nd rfl (.inl rfl))) (fun _ _ _ _ _ => (pts_one (PW.pt (pw_and (pt_cmpR op_ne (pe_ix ix_tup (pe_ix ix_tup (pv 3) (pv 5) (fun _ _ => rfl)) pe_int (fun _ _ => rfl)) pe_str (nomark _)) (pw_and1 (pt_val (pe_ca COp (hr.mono (by decide)) (by rfl) (pa_cons (pv 0) (pa_cons (pv 2) (pa_cons (pe_ix ix_tup (pv 3) (pv 5) (fun _ _ => rfl)) pa_nil)))))))))) (fun _ _ _ _ _ => (pv 5)))
    (pss_cons (ps_if (pt_cmpR (op_eqQ hr) (pv 4) (pe_lst pa_nil) (nomark _))
      (pss_one (ps_ret (pe_lc (own := [("_law_k", 5)]) (g := gName 5) (tt := tTest (tOp rEq (tOp (rIxT K) (tOp (rIxT K) (tVar 3) (tVar 5)) (tC (.int 0))) (tC (.str "else")))) rfl sc__law_choices.nd (pi_range1 (by rfl) T.n_range (pa_cons (pe_callB call_len_seq (by rfl) T.n_len (by decide +kernel) (pa_cons (pv 3) pa_nil)) pa_nil)) (blkOk_by (N := nLCh) (sc := defScope s__law_choices) (by decide +kernel)) (fun _ _ _ _ _ => (pg_name (i := 5) sc__law_choices.nd rfl (.inl rfl))) (fun _ _ _ _ _ => (pts_one (pt_cmpR op_eq (pe_ix ix_tup (pe_ix ix_tup (pv 3) (pv 5) (fun _ _ => rfl)) pe_int (fun _ _ => rfl)) pe_str (nomark _)))) (fun _ _ _ _ _ => (pv 5)))))
      pss_nil)
    (pss_one (ps_ret (pe_ifExp (pt_cmpR op_eq (pe_ix ix_tup (pv 1) pe_int (fun _ _ => rfl)) pe_str (nomark _)) (pe_slice sl_list (pv 4) po_none (po_some pe_int)) (pv 4))))))), ?_⟩
    obtain ⟨ra, t2, ys, rfl, hra, ht2, hys⟩ := place_inv hvr
    have ly : ys.length = p.2.length := by rw [hys.len, List.length_map]
    have few := gl.few
    refine ⟨_, rfl, ra, _, 1, _, rfl, rfl, SqT.of hra, atI_nat (by rfl), ?_⟩
    refine ⟨_, rfl, t2, _, rfl, .inr (SqT.of ht2), _, rfl, by rw [ly]; omega, by rw [ly]; omega, fun D hD => ?_⟩
    rw [Int.toNat_natCast, ly]
    have gas : GAs ns p.2 := fun a ha => ⟨(gl.place.arms a ha).1, fun pr hp => gl.lanes _ (List.mem_filterMap.mpr ⟨a, ha, by rw [hp]; rfl⟩)⟩
    have arm : ∀ (k : Nat) (hk : k < p.2.length) (H' : Hp), Ext H H' → ∃ r, H' r = some (.tup (armV p.2[k])) ∧ SqT K H' t2 ys ∧ atI ys (0 + (k : Int)) = some (.ref r) := fun k hk H' e => by
      obtain ⟨x', hx', dx'⟩ := DqAll_get hys k (armD p.2[k]) (by rw [List.getElem?_map, List.getElem?_eq_getElem hk]; rfl)
      obtain ⟨r, rfl, h1⟩ := arm_tup dx'
      exact ⟨r, e _ _ h1, SqT.of (e _ _ ht2), by rw [Int.zero_add]; exact atI_nat hx'⟩
    refine lc1_acc walk_range (fun k zs _ => zs = ((List.range k).filter fun i => openB st (bdOf prs) (p.2.getD i (none, 0))).map (fun i : Nat => V.int (i : Int)) ∧ k ≤ 10) (fun _ _ _ _ _ h => h) ⟨rfl, by decide⟩ hD
      (fun k zs _ h => by rw [h.1, List.length_map]; exact Nat.lt_of_le_of_lt (Nat.le_trans (List.length_filter_le ..) (by rw [List.length_range]; exact h.2)) (by decide)) (fun _ _ => trivial) ?_ ?_
    · rintro k x Hi H' zs hk e hz ⟨rfl, rfl⟩ ⟨hp, _⟩ QY QN kY kN
      have gk := gas _ (List.getElem_mem hk)
      obtain ⟨r, h1, s2, a2⟩ := arm k hk _ e
      refine ⟨rfl, ?_⟩
      refine ⟨_, rfl, _, rfl, t2, ys, _, _, rfl, rfl, s2, a2, r, _, 0, _, rfl, rfl, SqT.of h1, armV0, rfl, _, rfl, ?_⟩
      refine ite2 (fun g => ?_) (fun g => ?_)
      · cases ho : p.2[k].1 with
        | none =>
          rw [ho] at g
          simp at g
        | some pr =>
          obtain ⟨j, hj, ej⟩ := List.getElem_of_mem (gk.2 pr ho)
          have hw : pr.1 ∈ words4 ∧ isNameS pr.2 = true := by
            have := gk.1
            unfold GArm at this
            rw [ho] at this
            exact this
          have h1' : H' r = some (.tup [.str pr.1, .str ns[j], .int (p.2[k].2 : Int)]) := by
            rw [h1, ej]
            generalize p.2[k] = a at ho
            obtain ⟨o, gg⟩ := a
            cases ho
            rfl
          refine ⟨_, rfl, _, rfl, _, rfl, _, rfl, t2, ys, _, _, rfl, rfl, s2, a2, db, r, vc, _, prs, ns, st, pr.1, j, hj, rfl, e _ _ hdb, hvc.up e, h1', l3, hperm, hnd, hso, hw.1, fun H3 e3 => ⟨_, rfl, ?_⟩⟩
          have eo : openB st (bdOf prs) p.2[k] = (beh pr.1 (st ns[j]).1 (st ns[j]).2 (bdOf prs ns[j])).isSome := by unfold openB; rw [ho, ej]
          rw [← eo]
          refine ite2 (fun g => ?_) (fun g => ?_)
          · refine ⟨_, rfl, ?_⟩
            show QY (.int (0 + (k : Int))) _
            rw [Int.zero_add]
            refine kY _ _ e3 ⟨?_, by omega⟩
            rw [hp, idxs_step hk, if_pos g, List.map_append]
            rfl
          · refine kN _ e3 ⟨?_, by omega⟩
            rw [hp, idxs_step hk, if_neg g, List.append_nil]
      · have ho : p.2[k].1 = none := by
          cases ho : p.2[k].1 with
          | none => rfl
          | some pr =>
            refine absurd ?_ g
            have z := mt (els_iff gk.1).mp (by rw [ho]; exact Bool.false_ne_true)
            rw [Bool.not_eq_true', decide_eq_false]
            exact fun y => z (by injection y)
        refine iteF ?_
        refine kN _ (Ext.refl _) ⟨?_, by omega⟩
        have : openB st (bdOf prs) p.2[k] = false := by unfold openB; rw [ho]
        rw [hp, idxs_step hk, this]
        simp
    rintro H2 zs e2 h2 ⟨hz, _⟩
    have hz' : zs = (idxs (openB st (bdOf prs)) p.2).map (fun i : Nat => V.int (i : Int)) := hz
    rw [hz'] at h2
    refine ⟨_, rfl, by show 0 ≤ sizeLine; decide, fun l7 hl7 => ?_⟩
    have e8 := Ext.new (o := .lst []) hl7
    have e28 := e2.trans e8
    refine ⟨.list ((idxs (openB st (bdOf prs)) p.2).map fun i : Nat => PyData.int (i : Int)), .list [], sysUp hS e28, .lst (e8 _ _ h2) (dq_ints _ _), .lst upd_same .nil, ints_shaped (fun i hi => by have := idx_small few i hi; omega), nil_shaped, _, rfl, ?_⟩
    have h28 := e8 _ _ h2
    generalize upd H2 l7 _ = H3 at e28 h28 ⊢
    rw [eqv_e]
    refine ite2 (fun g => ?_) (fun g => ?_)
    · have em : idxs (openB st (bdOf prs)) p.2 = [] := List.map_eq_nil_iff.mp (List.isEmpty_iff.mp g)
      refine ⟨_, rfl, t2, _, rfl, .inr (SqT.of (e28 _ _ ht2)), _, rfl, by rw [ly]; omega, by rw [ly]; omega, fun D2 hD2 => ?_⟩
      rw [Int.toNat_natCast, ly]
      refine lc1_acc walk_range (fun k zs _ => zs = ((List.range k).filter fun i => (fun a : Arm => a.1.isNone) (p.2.getD i (none, 0))).map (fun i : Nat => V.int (i : Int)) ∧ k ≤ 10) (fun _ _ _ _ _ h => h) ⟨rfl, by decide⟩ hD2
        (fun k zs _ h => by rw [h.1, List.length_map]; exact Nat.lt_of_le_of_lt (Nat.le_trans (List.length_filter_le ..) (by rw [List.length_range]; exact h.2)) (by decide)) (fun _ _ => trivial) ?_ ?_
      · rintro k x Hi H' zs hk e hz ⟨rfl, rfl⟩ ⟨hp, _⟩ QY QN kY kN
        have gk := gas _ (List.getElem_mem hk)
        obtain ⟨r, h1, s2, a2⟩ := arm k hk _ (e28.trans e)
        refine ⟨rfl, ?_⟩
        refine ⟨_, rfl, _, rfl, t2, ys, _, _, rfl, rfl, s2, a2, r, _, 0, _, rfl, rfl, SqT.of h1, armV0, rfl, _, rfl, ?_⟩
        refine ite2 (fun g' => ?_) (fun g' => ?_)
        · have ee := (els_iff gk.1).mp (dec_word.mp g')
          refine ⟨_, rfl, ?_⟩
          show QY (.int (0 + (k : Int))) _
          rw [Int.zero_add]
          refine kY _ _ (Ext.refl _) ⟨?_, by omega⟩
          rw [hp, idxs_step (q := fun a : Arm => a.1.isNone) hk, if_pos ee, List.map_append]
          rfl
        · refine kN _ (Ext.refl _) ⟨?_, by omega⟩
          rw [hp, idxs_step (q := fun a : Arm => a.1.isNone) hk, if_neg (fun z => g' (dec_word.mpr ((els_iff gk.1).mpr z))), List.append_nil]
      rintro H4 zs e4 h4 ⟨hz, _⟩
      refine q D2 H4 (e28.free hD2) (e28.trans e4) ?_
      rw [h4, hz]
      have z1 : (idxs (fun a : Arm => a.1.isNone) p.2).length ≤ 1 := by rw [idxs_len]; exact gl.place.els
      have z2 : allowI st (bdOf prs) p = idxs (fun a : Arm => a.1.isNone) p.2 := by
        unfold allowI openI
        rw [if_pos em, List.take_of_length_le z1]
        split <;> rfl
      rw [z2]
      rfl
    · have em : ¬ idxs (openB st (bdOf prs)) p.2 = [] := fun z => g (by rw [z]; rfl)
      have eo : openI st (bdOf prs) p.2 = idxs (openB st (bdOf prs)) p.2 := by unfold openI; rw [if_neg em]
      refine ⟨_, rfl, ra, _, 0, _, rfl, rfl, SqT.of (e28 _ _ hra), atI_nat (by rfl), rfl, _, rfl, ?_⟩
      refine ite2 (fun g => ?_) (fun g => ?_)
      · refine ⟨_, rfl, _, rfl, D, _, rfl, SqL.of h28, fun l2 hl2 => ?_⟩
        refine q l2 _ (e28.free hl2) (e28.trans (Ext.new hl2)) ?_
        rw [upd_same]
        unfold allowI
        rw [if_pos (dec_word.mp g), eo, List.map_take]
        have := cut_take ((idxs (openB st (bdOf prs)) p.2).map fun i : Nat => V.int (i : Int)) 1
        rw [show (some ((1 : Nat) : Int)) = (some (1 : Int)) from rfl] at this
        rw [this]
      · refine ⟨_, rfl, q D H3 hD e28 ?_⟩
        unfold allowI
        rw [if_neg (fun z => g (dec_word.mpr z)), eo, h28]
end
end K25

set_option Elab.async false
set_option linter.all false
set_option maxRecDepth 100000
set_option maxHeartbeats 4000000
namespace K25
open PySem PySem.Spec PyProof.Rows L2 Ol RZ
open TL (tl)
theorem cutN {tf tg : TS} {D : Ends} {σ : L2.St} {H : Hp} (W : L2.St → Hp → Prop) (h1 : ∀ N : L2.St → Hp → Prop, (∀ σ' H', W σ' H' → N σ' H') → tf { D with nx := N } σ H) (h2 : ∀ σ' H', W σ' H' → tg D σ' H') : tSeq tf tg D σ H :=
  h1 _ h2
section
variable {P : Program} {w : World} {K : PySem.W.Frag} {mg : Str → Option Value} {base : Heap} {C S N : Addr}
/-! ### _law_left -/
def spLeft : Sp := fun vs H Q _ => (∃ (db da : Addr) (va z : V) (ps : List (Str × Int)) (ns : List Str) (st : Str → Nat × Bool) (word : Str) (j : Nat) (hj : j < ns.length) (s' : Nat × Bool), vs = [.ref db, va, .ref da] ∧ H db = some (.dK (kvI ps)) ∧ Dq H va (ctD (ns.map st)) ∧
  H da = some (.tup [.str word, .str ns[j], z]) ∧ ps.length ≤ 3 ∧ ns.Perm (ps.map (·.1)) ∧ ns.Nodup ∧ sortedS ns = true ∧ word ∈ words4 ∧ ((st ns[j]).1 : Int) ≤ bdOf ps ns[j] ∧
  beh word (st ns[j]).1 (st ns[j]).2 (bdOf ps ns[j]) = some s' ∧ ∀ (r : V) (H' : Hp), Ext H H' → Dq H' r (ctD ((ns.map st).set j s')) → Q r H') ∨
  (∃ (db da : Addr) (va z : V), vs = [.ref db, va, .ref da] ∧ H da = some (.tup [.str "else", z]) ∧ Q va H)
abbrev s_left : Stmt := (topS 53)
theorem sc_left : FnScope ["_law_bounds_here", "_law_content_here", "_law_arm_here", "_law_found", "_law_at", "_law_count", "_law_closed", "_law_more"] ["_law_bounds_here", "_law_content_here", "_law_arm_here"] (defScope s_left) := ⟨rfl, rfl, rfl, by decide +kernel, rfl, by decide +kernel, by decide +kernel⟩
theorem word_no {word : Str} (hw : word ∈ words4) : ¬ word = "else" := fun z => by
  rw [z] at hw
  exact absurd hw (by decide +kernel)
theorem ok_left {f : Addr} {fd : FuncData} (F : Fun K "_law_left" "_law_left" s_left f fd) (T : BT mg) :
    FnOk P w K mg base CX0 1 f fd ["_law_bounds_here", "_law_content_here", "_law_arm_here"] spLeft := by
  refine F.ok sc_left (fun vs H Q E h => ?_) (fun cdv A outer s H vs Q E hr h => ?_)
  · rcases h with ⟨db, da, va, z, ps, ns, st, word, j, hj, s', rfl, _⟩ | ⟨db, da, va, z, rfl, _⟩ <;> rfl
  · have hu := hu_of hr
    refine ⟨_, (pss_cons (ps_if (pt_cmpR op_eq (pe_ix ix_tup (pv 2) pe_int (fun _ _ => rfl)) pe_str (nomark _)) (pss_one (ps_ret (pv 1))) pss_nil)
    (pss_cons (ps_par (i := 3) (j := 4) rfl sc_left.nd rfl rfl (by decide) rfl rfl (pa_cons (pe_callTy call_list_of (by rfl) T.n_list (by decide +kernel) (pa_cons (pv 1) pa_nil)) (pa_cons (pe_bm PySem.F.plainAttrs_list PySem.F.slot_list_index PySem.F.type_list_index mt_index (pe_callB (call_sortedD rfl) (by rfl) T.n_sorted (by decide +kernel) (pa_cons (pv 0) pa_nil)) (pa_cons (pe_ix ix_tup (pv 2) pe_int (fun _ _ => rfl)) pa_nil)) pa_nil)) (by rfl))
    (pss_cons (ps_asg (pe_ix ix_list (pv 3) (pv 4) (fun _ _ => rfl)) (pg_tup (by rfl) (pgs_cons (pg_name (i := 5) sc_left.nd rfl (.inl rfl)) (pgs_cons (pg_name (i := 6) sc_left.nd rfl (.inl rfl)) pgs_nil))))
    (pss_cons (ps_set (i := 7) sc_left.nd rfl (.inl rfl) (pe_ifExp (pt_cmpR op_eq (pe_ix ix_tup (pv 2) pe_int (fun _ _ => rfl)) pe_str (nomark _)) pe_int (pe_ifExp (pt_cmpR op_eq (pe_ix ix_tup (pv 2) pe_int (fun _ _ => rfl)) pe_str (nomark _)) (pe_un un_neg pe_int) pe_int)))
    (pss_cons (ps_asg (pe_tup (pa_cons (pe_op op_add (pv 5) (pv 7)) (pa_cons (pe_or (pv 6) (pe_one (pe_cmpR op_eq (pe_ix ix_tup (pv 2) pe_int (fun _ _ => rfl)) pe_str (nomark _)))) pa_nil))) (pg_sub (pv 3) (pv 4) set_list))
    (pss_one (ps_ret (pe_callTy call_tuple_of (by rfl) T.n_tuple (by decide +kernel) (pa_cons (pv 3) pa_nil))))))))), ?_⟩
    rcases h with ⟨db, da, va, z, ps, ns, st, word, j, hj, s', rfl, hdb, hva, hda, hl3, hperm, hnd, hso, hw, hle, hbe, q⟩ | ⟨db, da, va, z, rfl, hda, q⟩
    case inr =>
      refine ⟨_, rfl, da, _, 0, _, rfl, rfl, SqT.of hda, atI_nat (by rfl), rfl, _, rfl, ?_⟩
      refine ite2 (fun g => ?_) (fun g => absurd (dec_word.mpr rfl) g)
      exact ⟨_, rfl, q⟩
    obtain ⟨a, xs, rfl, ha, hxs, hxl⟩ := ct_inv hva
    refine ⟨_, rfl, da, _, 0, _, rfl, rfl, SqT.of hda, atI_nat (by rfl), rfl, _, rfl, ?_⟩
    refine ite2 (fun g => absurd (dec_word.mp g) (word_no hw)) (fun _ => ?_)
    have nl : ns.length ≤ 3 := by rw [hperm.length_eq, List.length_map]; exact hl3
    have xl : xs.length = ns.length := by rw [hxl, List.length_map]
    refine ⟨_, rfl, a, xs, rfl, .inr (SqT.of ha), fun l hl => ?_⟩
    have e1 := Ext.new (o := .lst xs) hl
    have hl1 : upd H l (.lst xs) l = some (.lst xs) := upd_same
    refine ⟨_, rfl, db, _, _, rfl, Rd.of (e1 _ _ hdb), kvI_keys ps, (by rw [List.length_map]; omega), fun ys p1 hperm2 hso2 hp1 => ?_⟩
    obtain rfl : ys = ns := sorted_one hso2 hso (hperm2.trans hperm.symm)
    have e3 := Ext.new (o := .lst (ys.map V.str)) hp1
    have h3 : upd (upd H l (.lst xs)) p1 (.lst (ys.map V.str)) p1 = some (.lst (ys.map V.str)) := upd_same
    have hl3' := e3 _ _ hl1
    have e13 := e1.trans e3
    refine ⟨.inl ⟨rfl, _, SqL.of h3⟩, ?_⟩
    generalize upd (upd H l (.lst xs)) p1 (.lst (ys.map V.str)) = H3 at *
    have hda3 := e13 _ _ hda
    have hxs3 := DqAll.up e13 hxs
    obtain ⟨u, hu2, du⟩ := DqAll_get hxs3 j (stD (st ys[j]).1 (st ys[j]).2) (by unfold ctL; rw [List.map_map, List.getElem?_map, List.getElem?_eq_getElem hj]; rfl)
    refine ⟨_, rfl, da, _, 1, _, rfl, rfl, SqT.of hda3, atI_nat (by rfl), ?_⟩
    refine ⟨p1, ys.map V.str, .str ys[j], j, .str ys[j], rfl, rfl, SqL.of h3, rfl, ix_all ys, ix_get j hj, ix_eq _, ix_no hnd j hj, ?_⟩
    refine ⟨_, _, rfl, ?_⟩
    obtain ⟨b, rfl, hb⟩ := st_inv du
    refine ⟨_, rfl, _, rfl, l, _, _, _, rfl, rfl, SqL.of hl3', atI_nat hu2, ?_⟩
    refine ⟨b, _, rfl, SqT.of hb, rfl, _, _, rfl, _, _, rfl, rfl, ?_⟩
    obtain ⟨q1, q2, q3⟩ := beh_counts hle hbe
    generalize (st ys[j]).1 = c at *
    generalize (st ys[j]).2 = cl at *
    dsimp only [gName]
    refine cutN (fun σ' H' => H' = H3 ∧ σ' = [some (.ref db), some (.ref a), some (.ref da), some (.ref l), some (.int (j : Int)), some (.int (c : Int)), some (.bl cl), some (.int (addW word))]) (fun W hW => ?_) ?_
    · refine ⟨_, rfl, da, _, 0, _, rfl, rfl, SqT.of hda3, atI_nat (by rfl), rfl, _, rfl, ?_⟩
      refine ite2 (fun g => ?_) (fun g => ?_)
      · refine hW _ _ ⟨rfl, ?_⟩
        have z : addW word = 1 := by unfold addW; rw [if_pos (dec_word.mp g)]
        rw [z]
        rfl
      · have n1 : ¬ word = "send" := fun z => g (dec_word.mpr z)
        refine ⟨_, rfl, da, _, 0, _, rfl, rfl, SqT.of hda3, atI_nat (by rfl), rfl, _, rfl, ?_⟩
        refine ite2 (fun g2 => ?_) (fun g2 => ?_)
        · refine ⟨_, rfl, hW _ _ ⟨rfl, ?_⟩⟩
          have z : addW word = -1 := by unfold addW; rw [if_neg n1, if_pos (dec_word.mp g2)]
          rw [z]
          rfl
        · refine hW _ _ ⟨rfl, ?_⟩
          have z : addW word = 0 := by unfold addW; rw [if_neg n1, if_neg (fun z => g2 (dec_word.mpr z))]
          rw [z]
          rfl
    rintro σ' H' ⟨rfl, rfl⟩
    have ixj : ixN xs.length (j : Int) = some j := by
      unfold ixN
      rw [if_pos (by omega), if_pos (by omega)]
      simp
    refine cutN (fun σ' H5 => σ' = [some (.ref db), some (.ref a), some (.ref da), some (.ref l), some (.int (j : Int)), some (.int (c : Int)), some (.bl cl), some (.int (addW word))] ∧ Ext H H5 ∧ ∃ t, H5 l = some (.lst (xs.set j (.ref t))) ∧ H5 t = some (.tup [.int (((s'.1 : Nat) : Int)), .bl s'.2])) (fun W hW => ?_) ?_
    · have fin : ∀ (bb : Bool) (t : Addr), bb = s'.2 → H' t = none → W [some (.ref db), some (.ref a), some (.ref da), some (.ref l), some (.int (j : Int)), some (.int (c : Int)), some (.bl cl), some (.int (addW word))] (upd (upd H' t (.tup [.int ((c : Int) + addW word), .bl bb])) l (.lst (xs.set j (.ref t)))) := by
        intro bb t hbb ht
        have et := Ext.new (o := .tup [.int ((c : Int) + addW word), .bl bb]) ht
        have ntl : t ≠ l := fun z => by rw [z, hl3'] at ht; cases ht
        refine hW _ _ ⟨rfl, Ext.mut (e13.trans et) hl, t, upd_same, ?_⟩
        rw [upd_ne ntl, upd_same, ← q1, hbb]
      refine ⟨_, rfl, _, rfl, _, _, rfl, rfl, _, rfl, _, rfl, ?_⟩
      have sub : ∀ (bb : Bool) (t : Addr), bb = s'.2 → H' t = none → upd H' t (.tup [.int ((c : Int) + addW word), .bl bb]) l = some (.lst xs) := fun bb t _ ht => Ext.new ht _ _ hl3'
      refine ite2 (fun g => ?_) (fun g => ?_)
      · refine ⟨by show 2 ≤ sizeLine; decide, fun t ht => ?_⟩
        have hb2 : true = s'.2 := by rw [q2, g]; rfl
        exact ⟨_, rfl, _, rfl, l, _, _, j, rfl, rfl, sub true t hb2 ht, ixj, fin true t hb2 ht⟩
      · refine ⟨_, rfl, da, _, 0, _, rfl, rfl, SqT.of hda3, atI_nat (by rfl), rfl, by show 2 ≤ sizeLine; decide, fun t ht => ?_⟩
        have hb2 : decide (V.str word = V.str "close") = s'.2 := by
          rw [q2, Bool.eq_false_iff.mpr g, Bool.false_or]
          by_cases c : word = "close"
          · rw [decide_eq_true c]; exact dec_word.mpr c
          · rw [decide_eq_false c]; exact Bool.eq_false_iff.mpr fun z => c (dec_word.mp z)
        exact ⟨_, rfl, _, rfl, l, _, _, j, rfl, rfl, sub _ t hb2 ht, ixj, fin _ t hb2 ht⟩
    rintro σ' H5 ⟨rfl, e5, t, hl5, ht5⟩
    refine ⟨_, rfl, l, _, rfl, .inl ⟨SqL.of hl5, fun r hr => ?_⟩⟩
    have e6 := Ext.new (o := .tup (xs.set j (.ref t))) hr
    refine q _ _ (e5.trans e6) (.tup upd_same ?_)
    have z := DqAll_set (DqAll.up (e5.trans e6) hxs) j (.ref t) (stD s'.1 s'.2) (.tup (e6 _ _ ht5) (.cons (.int _) (.cons (.bl _) .nil)))
    unfold ctL at z ⊢
    rw [List.map_set]
    exact z
end
end K25

set_option Elab.async false
set_option linter.all false
set_option maxRecDepth 100000
set_option maxHeartbeats 4000000
namespace K25
open PySem PySem.Spec PyProof.Rows L2 Ol RZ
open TL (tl)
section
variable {P : Program} {w : World} {K : PySem.W.Frag} {mg : Str → Option Value} {base : Heap} {C CP R NL NP NA : Addr}
/-! ### errors with one field -/
structure XT (K : PySem.W.Frag) (mg : Str → Option Value) (nm fld : Str) (R : Addr) : Prop where
  g : mg nm = some (.ref R)
  ox : OexC K R
  xf : XfC K R
  nF : PySem.W.findIn K (.ref R) fld = some none
def x1 (fld : Str) (x : V) : List (Str × V) := [(fld, x)]
theorem x1_at (fld : Str) (x : V) : (x1 fld x).lookup fld = some x := by
  unfold x1
  rw [List.lookup_cons_self]
def spXI (fld : Str) (R : Addr) : Sp := fun vs H Q _ => ∃ (a : Addr) (x : V), vs = [.ref a, x] ∧ H a = some (exo a R none) ∧
  ∀ (dx : Addr) (H' : Hp), H dx = none → dx ≠ a → (∀ b, b ≠ a → b ≠ dx → H' b = H b) → H' a = some (exo a R (some dx)) → H' dx = some (exd dx (x1 fld x)) → Q .non H'
structure XI (P : Program) (w : World) (K : PySem.W.Frag) (mg : Str → Option Value) (base : Heap) (fld : Str) (R : Addr) : Prop where
  has : ∃ (f : Addr) (fd : FuncData), FnOk P w K mg base CX0 1 f fd ["self", fld] (spXI fld R) ∧ PySem.W.findIn K (.ref R) "__init__" = some (some (.ref f)) ∧
    PySem.W.typeIn K (.ref f) = some (.type "function") ∧ Binds K fd ["self", fld] []
abbrev s_xlane : Stmt := inClass (topS 4) 0
theorem sc_xlane : FnScope ["self", "lane"] ["self", "lane"] (defScope s_xlane) := ⟨rfl, rfl, rfl, by decide +kernel, rfl, by decide +kernel, by decide +kernel⟩
theorem ok_xlane {f : Addr} {fd : FuncData} (F : Fun K "__init__" "NoLane.__init__" s_xlane f fd) (T : XT K mg "NoLane" "lane" R) :
    FnOk P w K mg base CX0 1 f fd ["self", "lane"] (spXI "lane" R) := by
  refine F.ok sc_xlane (fun vs H Q E h => ?_) (fun cdv A outer s H vs Q E hr h => ?_)
  · obtain ⟨a, x, rfl, _⟩ := h
    rfl
  · obtain ⟨a, x, rfl, ha, q⟩ := h
    refine ⟨_, (pss_one (ps_ost (pv 0) (pv 1))), ?_⟩
    refine ⟨_, rfl, _, rfl, a, R, rfl, T.ox, T.nF, .inl ⟨ha, fun dx hdx nda => ?_⟩⟩
    refine q dx _ hdx nda (fun b h1 h2 => ?_) upd_same ?_
    · rw [upd_ne h1, upd_ne h2]
    · rw [upd_ne nda]
      exact upd_same
abbrev s_xplace : Stmt := inClass (topS 6) 0
theorem sc_xplace : FnScope ["self", "place"] ["self", "place"] (defScope s_xplace) := ⟨rfl, rfl, rfl, by decide +kernel, rfl, by decide +kernel, by decide +kernel⟩
theorem ok_xplace {f : Addr} {fd : FuncData} (F : Fun K "__init__" "NoPlace.__init__" s_xplace f fd) (T : XT K mg "NoPlace" "place" R) :
    FnOk P w K mg base CX0 1 f fd ["self", "place"] (spXI "place" R) := by
  refine F.ok sc_xplace (fun vs H Q E h => ?_) (fun cdv A outer s H vs Q E hr h => ?_)
  · obtain ⟨a, x, rfl, _⟩ := h
    rfl
  · obtain ⟨a, x, rfl, ha, q⟩ := h
    refine ⟨_, (pss_one (ps_ost (pv 0) (pv 1))), ?_⟩
    refine ⟨_, rfl, _, rfl, a, R, rfl, T.ox, T.nF, .inl ⟨ha, fun dx hdx nda => ?_⟩⟩
    refine q dx _ hdx nda (fun b h1 h2 => ?_) upd_same ?_
    · rw [upd_ne h1, upd_ne h2]
    · rw [upd_ne nda]
      exact upd_same
abbrev s_xindex : Stmt := inClass (topS 7) 0
theorem sc_xindex : FnScope ["self", "index"] ["self", "index"] (defScope s_xindex) := ⟨rfl, rfl, rfl, by decide +kernel, rfl, by decide +kernel, by decide +kernel⟩
theorem ok_xindex {f : Addr} {fd : FuncData} (F : Fun K "__init__" "NoArm.__init__" s_xindex f fd) (T : XT K mg "NoArm" "index" R) :
    FnOk P w K mg base CX0 1 f fd ["self", "index"] (spXI "index" R) := by
  refine F.ok sc_xindex (fun vs H Q E h => ?_) (fun cdv A outer s H vs Q E hr h => ?_)
  · obtain ⟨a, x, rfl, _⟩ := h
    rfl
  · obtain ⟨a, x, rfl, ha, q⟩ := h
    refine ⟨_, (pss_one (ps_ost (pv 0) (pv 1))), ?_⟩
    refine ⟨_, rfl, _, rfl, a, R, rfl, T.ox, T.nF, .inl ⟨ha, fun dx hdx nda => ?_⟩⟩
    refine q dx _ hdx nda (fun b h1 h2 => ?_) upd_same ?_
    · rw [upd_ne h1, upd_ne h2]
    · rw [upd_ne nda]
      exact upd_same
abbrev s_xwhat : Stmt := inClass (topS 9) 0
theorem sc_xwhat : FnScope ["self", "what"] ["self", "what"] (defScope s_xwhat) := ⟨rfl, rfl, rfl, by decide +kernel, rfl, by decide +kernel, by decide +kernel⟩
theorem ok_xwhat {f : Addr} {fd : FuncData} (F : Fun K "__init__" "Refused.__init__" s_xwhat f fd) (T : XT K mg "Refused" "what" R) :
    FnOk P w K mg base CX0 1 f fd ["self", "what"] (spXI "what" R) := by
  refine F.ok sc_xwhat (fun vs H Q E h => ?_) (fun cdv A outer s H vs Q E hr h => ?_)
  · obtain ⟨a, x, rfl, _⟩ := h
    rfl
  · obtain ⟨a, x, rfl, ha, q⟩ := h
    refine ⟨_, (pss_one (ps_ost (pv 0) (pv 1))), ?_⟩
    refine ⟨_, rfl, _, rfl, a, R, rfl, T.ox, T.nF, .inl ⟨ha, fun dx hdx nda => ?_⟩⟩
    refine q dx _ hdx nda (fun b h1 h2 => ?_) upd_same ?_
    · rw [upd_ne h1, upd_ne h2]
    · rw [upd_ne nda]
      exact upd_same
/-! ### a place, or NoPlace -/
abbrev RzP (P : XK) (H : Hp) (R : Addr) (fld : Str) (x : V) : Prop := ∀ (d : Addr) (H' : Hp), Ext H H' → H' d = some (.xd (x1 fld x)) → P (.ref R) (some d) H'
def isPl (z : Int) (n : Nat) : Prop := 0 ≤ z ∧ z < (n : Int)
def spPlX (C NP : Addr) : Sp := fun vs H Q E => ∃ (p : Addr) (ps : List Place) (z : Int), vs = [.ref p, .int z] ∧ ProgAt C H p ps ∧
  (∀ (i : Nat) (hi : i < ps.length), z = (i : Int) → ∀ (r : V) (H' : Hp), Ext H H' → Dq H' r (placeD ps[i]) → Q r H') ∧ (¬ isPl z ps.length → RzP E H NP "place" (.int z))
theorem num_pos {z : Int} (h : 0 ≤ z) : isNumD (.int z) = true := by simp [isNumD, h]
theorem num_neg {z : Int} (h : ¬ 0 ≤ z) : isNumD (.int z) = false := by
  have : z < 0 := by omega
  simp [isNumD, this]
theorem ok_plX {f : Addr} {fd : FuncData} (F : Fun K "_place" "Program._place" (cP 4) f fd) (T : BT mg) (L : PT K mg C) (C2 : Ca P w K mg base 2 "is_number" ["thing"] (spPred Any isNumD)) (TP : XT K mg "NoPlace" "place" NP) (IP : XI P w K mg base "place" NP) :
    FnOk P w K mg base (L2N.CX P w) 3 f fd ["self", "place"] (spPlX C NP) := by
  obtain ⟨fI, fdI, FI, iC, tI, bI⟩ := IP.has
  refine okXN F sc_pl (fun vs H Q E h => ?_) (fun cdv A outer s H vs Q E hr h => ?_)
  · obtain ⟨p, ps, z, rfl, _⟩ := h
    rfl
  · obtain ⟨p, ps, z, rfl, hP, q1, q2⟩ := h
    refine ⟨_, (pss_cons (ps_if (PW.pt (pw_or (pt_not (pt_val (pe_ca C2 (hr.mono (by decide)) (by rfl) (pa_cons (pv 1) pa_nil)))) (pw_or1 (pt_cmpR op_ge (pv 1) (pe_callB call_len_seq (by rfl) T.n_len (by decide +kernel) (pa_cons (pe_fld (pv 0) rfl) pa_nil)) (nomark _))))) (pss_one (L2N.ps_raise rfl (L2N.takes_of rfl rfl rfl rfl) (pmk_oexN TP.ox iC tI FI (hr.mono (by decide)) bI .nil pass0 (by rfl) TP.g (pa_cons (pv 1) pa_nil)))) pss_nil)
      (pss_one (ps_ret (pe_ix ix_tup (pe_fld (pv 0) rfl) (pv 1) (fun _ _ => rfl))))), ?_⟩
    refine ⟨_, rfl, _, _, rfl, .int _, trivial, fun H1 e1 => ⟨_, rfl, ?_⟩⟩
    by_cases h0 : 0 ≤ z
    · rw [num_pos h0]
      refine iteF ?_
      obtain ⟨dx, t, u, xs, us, h1, h2, h3, _⟩ := hP.up e1
      have lx : xs.length = ps.length := by rw [h3.len, List.length_map]
      refine ⟨_, rfl, _, rfl, p, C, dx, _, _, rfl, h1, L.cl, L.nP, pf_p _ _, t, _, rfl, .inr (SqT.of h2), _, _, rfl, rfl, _, rfl, ?_⟩
      refine ite2 (fun g => ?_) (fun g => ?_)
      · have g' := of_decide_eq_true g
        have hn : ¬ isPl z ps.length := fun y => by have := y.2; omega
        refine ⟨_, rfl, by show 1 ≤ 1000; decide, fun ax hax => ?_⟩
        refine ⟨ax, .int z, rfl, upd_same, fun dx' H5 hdx nda hk hA hD => ?_⟩
        rw [upd_ne nda] at hdx
        refine ⟨rfl, dx', _, hA, hD, hdx, q2 hn dx' _ (fun b o z => ?_) upd_same⟩
        have z2 := e1 b o z
        have nb1 : b ≠ ax := fun y => by rw [y, hax] at z2; cases z2
        have nb2 : b ≠ dx' := fun y => by rw [y, hdx] at z2; cases z2
        rw [upd_ne nb2, del_ne nb1, hk b nb1 nb2, upd_ne nb1]
        exact z2
      · obtain ⟨i, rfl⟩ := Int.eq_ofNat_of_zero_le h0
        have hi : i < ps.length := by
          have := of_decide_eq_false (Bool.eq_false_iff.mpr g)
          omega
        obtain ⟨v, hv, dv⟩ := DqAll_get h3 i (placeD ps[i]) (by rw [List.getElem?_map, List.getElem?_eq_getElem hi]; rfl)
        exact ⟨_, rfl, p, C, dx, _, _, rfl, h1, L.cl, L.nP, pf_p _ _, _, rfl, t, _, _, _, rfl, rfl, SqT.of h2, atI_nat hv, q1 i hi rfl _ _ e1 dv⟩
    · rw [num_neg h0]
      refine iteT ?_
      refine iteT ?_
      have hn : ¬ isPl z ps.length := fun y => h0 y.1
      refine ⟨_, rfl, by show 1 ≤ 1000; decide, fun ax hax => ?_⟩
      refine ⟨ax, .int z, rfl, upd_same, fun dx' H5 hdx nda hk hA hD => ?_⟩
      rw [upd_ne nda] at hdx
      refine ⟨rfl, dx', _, hA, hD, hdx, q2 hn dx' _ (fun b o z => ?_) upd_same⟩
      have z2 := e1 b o z
      have nb1 : b ≠ ax := fun y => by rw [y, hax] at z2; cases z2
      have nb2 : b ≠ dx' := fun y => by rw [y, hdx] at z2; cases z2
      rw [upd_ne nb2, del_ne nb1, hk b nb1 nb2, upd_ne nb1]
      exact z2
def spMdX (C NP : Addr) : Sp := fun vs H Q E => ∃ (p : Addr) (ps : List Place) (z : Int), vs = [.ref p, .int z] ∧ ProgAt C H p ps ∧
  (∀ (i : Nat) (hi : i < ps.length), z = (i : Int) → ∀ (H' : Hp), Ext H H' → Q (.str ps[i].1) H') ∧ (¬ isPl z ps.length → RzP E H NP "place" (.int z))
theorem ok_mdX {f : Addr} {fd : FuncData} (F : Fun K "mode" "Program.mode" (cP 8) f fd) (L : PT K mg C) (MP : CmN P w K mg base C 3 "_place" ["self", "place"] (spPlX C NP)) :
    FnOk P w K mg base (L2N.CX P w) 4 f fd ["self", "place"] (spMdX C NP) := by
  refine okXN F sc_md (fun vs H Q E h => ?_) (fun cdv A outer s H vs Q E hr h => ?_)
  · obtain ⟨p, ps, z, rfl, _⟩ := h
    rfl
  · obtain ⟨p, ps, z, rfl, hP, q1, q2⟩ := h
    refine ⟨_, (pss_one (ps_ret (pe_ix ix_tup (pe_cmN MP L.cl (hr.mono (by decide)) (fun σ => passAtN (L2N.takes_of rfl rfl rfl rfl) σ) (pv 0) (pa_cons (pv 1) pa_nil)) pe_int (fun _ _ => rfl)))), ?_⟩
    obtain ⟨dx, t, u, xs, us, h1, _⟩ := id hP
    refine ⟨_, rfl, p, dx, _, rfl, h1, pf_no _ _ (by decide +kernel) (by decide +kernel), _, rfl, p, ps, z, rfl, hP, fun i hi ez r H1 e1 hr1 => ?_, q2⟩
    obtain ⟨a, t2, ys, rfl, ha, _⟩ := place_inv hr1
    exact ⟨a, _, _, _, rfl, rfl, SqT.of ha, rfl, q1 i hi ez _ e1⟩
/-! ### an arm, or NoPlace or NoArm -/
def spArmX (C NP NA : Addr) : Sp := fun vs H Q E => ∃ (p : Addr) (ps : List Place) (z k : Int), vs = [.ref p, .int z, .int k] ∧ ProgAt C H p ps ∧
  (∀ (i : Nat) (hi : i < ps.length) (j : Nat) (hj : j < ps[i].2.length), z = (i : Int) → k = (j : Int) → ∀ (r : V) (H' : Hp), Ext H H' → Dq H' r (armD ps[i].2[j]) → Q r H') ∧
  (¬ isPl z ps.length → RzP E H NP "place" (.int z)) ∧ (∀ (i : Nat) (hi : i < ps.length), z = (i : Int) → ¬ isPl k ps[i].2.length → RzP E H NA "index" (.int k))
def spPlaX (C NP NA : Addr) : Sp := fun vs H Q E => ∃ (p : Addr) (ps : List Place) (z k : Int), vs = [.ref p, .int z, .int k] ∧ ProgAt C H p ps ∧
  (∀ (i : Nat) (hi : i < ps.length) (j : Nat) (hj : j < ps[i].2.length), z = (i : Int) → k = (j : Int) → ∀ (r : V) (H' : Hp), Ext H H' → Dq H' r (placeD ps[i]) → Q r H') ∧
  (¬ isPl z ps.length → RzP E H NP "place" (.int z)) ∧ (∀ (i : Nat) (hi : i < ps.length), z = (i : Int) → ¬ isPl k ps[i].2.length → RzP E H NA "index" (.int k))
theorem pl_or {z : Int} {n : Nat} : (∃ i : Nat, i < n ∧ z = (i : Int)) ∨ ¬ isPl z n := by
  by_cases h : 0 ≤ z ∧ z < (n : Int)
  · obtain ⟨i, rfl⟩ := Int.eq_ofNat_of_zero_le h.1
    exact .inl ⟨i, by have := h.2; omega, rfl⟩
  · exact .inr h
theorem ok_plaX {f : Addr} {fd : FuncData} (F : Fun K "_place_with_arm" "Program._place_with_arm" (cP 5) f fd) (T : BT mg) (L : PT K mg C) (C2 : Ca P w K mg base 2 "is_number" ["thing"] (spPred Any isNumD)) (MP : CmN P w K mg base C 3 "_place" ["self", "place"] (spPlX C NP))
    (TA : XT K mg "NoArm" "index" NA) (IA : XI P w K mg base "index" NA) :
    FnOk P w K mg base (L2N.CX P w) 4 f fd ["self", "place", "index"] (spPlaX C NP NA) := by
  obtain ⟨fI, fdI, FI, iC, tI, bI⟩ := IA.has
  refine okXN F sc_pla (fun vs H Q E h => ?_) (fun cdv A outer s H vs Q E hr h => ?_)
  · obtain ⟨p, ps, z, k, rfl, _⟩ := h
    rfl
  · obtain ⟨p, ps, z, k, rfl, hP, q1, q2, q3⟩ := h
    refine ⟨_, (pss_cons (ps_asg (pe_cmN MP L.cl (hr.mono (by decide)) (fun σ => passAtN (L2N.takes_of rfl rfl rfl rfl) σ) (pv 0) (pa_cons (pv 1) pa_nil)) (pg_tup (by rfl) (pgs_cons (pg_name (i := 3) sc_pla.nd rfl (.inl rfl)) (pgs_cons (pg_name (i := 4) sc_pla.nd rfl (.inl rfl)) pgs_nil))))
      (pss_cons (ps_if (PW.pt (pw_or (pt_not (pt_val (pe_ca C2 (hr.mono (by decide)) (by rfl) (pa_cons (pv 2) pa_nil)))) (pw_or1 (pt_cmpR op_ge (pv 2) (pe_callB call_len_seq (by rfl) T.n_len (by decide +kernel) (pa_cons (pv 4) pa_nil)) (nomark _))))) (pss_one (L2N.ps_raise rfl (L2N.takes_of rfl rfl rfl rfl) (pmk_oexN TA.ox iC tI FI (hr.mono (by decide)) bI .nil pass0 (by rfl) TA.g (pa_cons (pv 2) pa_nil)))) pss_nil)
      (pss_one (ps_ret (pe_tup (pa_cons (pv 3) (pa_cons (pv 4) pa_nil))))))), ?_⟩
    obtain ⟨dx, t, u, xs, us, h1, _⟩ := id hP
    refine ⟨_, rfl, p, dx, _, rfl, h1, pf_no _ _ (by decide +kernel) (by decide +kernel), _, rfl, p, ps, z, rfl, hP, fun i hi ez r H1 e1 hr1 => ?_, q2⟩
    obtain ⟨a, t2, ys, rfl, ha, ht2, hys⟩ := place_inv hr1
    have ly : ys.length = ps[i].2.length := by rw [hys.len, List.length_map]
    refine ⟨a, _, rfl, SqT.of ha, rfl, _, _, rfl, _, _, rfl, rfl, ?_⟩
    refine ⟨_, rfl, _, _, rfl, .int _, trivial, fun H2 e2 => ⟨_, rfl, ?_⟩⟩
    have e12 := e1.trans e2
    by_cases h0 : 0 ≤ k
    · rw [num_pos h0]
      refine iteF ?_
      refine ⟨_, rfl, _, rfl, t2, _, rfl, .inr (SqT.of (e2 _ _ ht2)), _, _, rfl, rfl, _, rfl, ?_⟩
      refine ite2 (fun g => ?_) (fun g => ?_)
      · have g' := of_decide_eq_true g
        have hn : ¬ isPl k ps[i].2.length := fun y => by have := y.2; omega
        refine ⟨_, rfl, by show 1 ≤ 1000; decide, fun ax hax => ?_⟩
        refine ⟨ax, .int k, rfl, upd_same, fun dx' H5 hdx nda hk hA hD => ?_⟩
        rw [upd_ne nda] at hdx
        refine ⟨rfl, dx', _, hA, hD, hdx, q3 i hi ez hn dx' _ (fun b o z => ?_) upd_same⟩
        have z2 := e12 b o z
        have nb1 : b ≠ ax := fun y => by rw [y, hax] at z2; cases z2
        have nb2 : b ≠ dx' := fun y => by rw [y, hdx] at z2; cases z2
        rw [upd_ne nb2, del_ne nb1, hk b nb1 nb2, upd_ne nb1]
        exact z2
      · obtain ⟨j, rfl⟩ := Int.eq_ofNat_of_zero_le h0
        have hj : j < ps[i].2.length := by
          have := of_decide_eq_false (Bool.eq_false_iff.mpr g)
          omega
        refine ⟨_, rfl, _, rfl, by show 2 ≤ sizeLine; decide, fun t3 ht3 => ?_⟩
        have e3 := Ext.new (o := .tup [.str ps[i].1, .ref t2]) ht3
        exact q1 i hi j hj ez rfl _ _ (e12.trans e3) (.tup upd_same (.cons (.str _) (.cons (.tup ((e2.trans e3) _ _ ht2) (DqAll.up (e2.trans e3) hys)) .nil)))
    · rw [num_neg h0]
      refine iteT ?_
      refine iteT ?_
      have hn : ¬ isPl k ps[i].2.length := fun y => h0 y.1
      refine ⟨_, rfl, by show 1 ≤ 1000; decide, fun ax hax => ?_⟩
      refine ⟨ax, .int k, rfl, upd_same, fun dx' H5 hdx nda hk hA hD => ?_⟩
      rw [upd_ne nda] at hdx
      refine ⟨rfl, dx', _, hA, hD, hdx, q3 i hi ez hn dx' _ (fun b o z => ?_) upd_same⟩
      have z2 := e12 b o z
      have nb1 : b ≠ ax := fun y => by rw [y, hax] at z2; cases z2
      have nb2 : b ≠ dx' := fun y => by rw [y, hdx] at z2; cases z2
      rw [upd_ne nb2, del_ne nb1, hk b nb1 nb2, upd_ne nb1]
      exact z2
theorem ok_armX {f : Addr} {fd : FuncData} (F : Fun K "arm" "Program.arm" (cP 10) f fd) (L : PT K mg C) (MA : CmN P w K mg base C 4 "_place_with_arm" ["self", "place", "index"] (spPlaX C NP NA)) :
    FnOk P w K mg base (L2N.CX P w) 5 f fd ["self", "place", "index"] (spArmX C NP NA) := by
  refine okXN F sc_arm (fun vs H Q E h => ?_) (fun cdv A outer s H vs Q E hr h => ?_)
  · obtain ⟨p, ps, z, k, rfl, _⟩ := h
    rfl
  · obtain ⟨p, ps, z, k, rfl, hP, q1, q2, q3⟩ := h
    refine ⟨_, (pss_one (ps_ret (pe_ix ix_tup (pe_ix ix_tup (pe_cmN MA L.cl (hr.mono (by decide)) (fun σ => passAtN (L2N.takes_of rfl rfl rfl rfl) σ) (pv 0) (pa_cons (pv 1) (pa_cons (pv 2) pa_nil))) pe_int (fun _ _ => rfl)) (pv 2) (fun _ _ => rfl)))), ?_⟩
    obtain ⟨dx, t, u, xs, us, h1, _⟩ := id hP
    refine ⟨_, rfl, p, dx, _, rfl, h1, pf_no _ _ (by decide +kernel) (by decide +kernel), _, rfl, _, rfl, p, ps, z, k, rfl, hP, fun i hi j hj ez ek r H1 e1 hr1 => ?_, q2, q3⟩
    obtain ⟨a, t2, ys, rfl, ha, ht2, hys⟩ := place_inv hr1
    obtain ⟨v, hv, dv⟩ := DqAll_get hys j (armD ps[i].2[j]) (by rw [List.getElem?_map, List.getElem?_eq_getElem hj]; rfl)
    exact ⟨a, _, _, _, rfl, rfl, SqT.of ha, rfl, _, rfl, t2, _, _, _, rfl, rfl, SqT.of ht2, by rw [ek]; exact atI_nat hv, q1 i hi j hj ez ek _ _ e1 dv⟩
end
end K25

set_option Elab.async false
set_option linter.all false
set_option maxRecDepth 100000
set_option maxHeartbeats 4000000
namespace K25
open PySem PySem.Spec PyProof.Rows L2 Ol RZ
open TL (tl)
theorem lane_name {ps : List Place} (ok : Pls ps) : ∀ x ∈ lanesP ps, isNameS x = true := fun x hx => by
  unfold lanesP at hx
  obtain ⟨p, hp, hx⟩ := List.mem_flatMap.mp hx
  unfold lanesA at hx
  obtain ⟨a, ha, e⟩ := List.mem_filterMap.mp hx
  have g := ((ok.ok p hp).arms a ha).1
  cases ho : a.1 with
  | none => rw [ho] at e; cases e
  | some pr =>
    rw [ho] at e
    cases e
    unfold GArm at g
    rw [ho] at g
    exact g.2
/-- m is the least lane of the program that is none of ns -/
structure LeastOut (ps : List Place) (ns : List Str) (m : Str) : Prop where
  mem : m ∈ lanesP ps
  out : m ∉ ns
  least : ∀ y ∈ lanesP ps, y ∉ ns → ltCps y.cps.toList m.cps.toList = false
section
variable {P : Program} {w : World} {K : PySem.W.Frag} {mg : Str → Option Value} {base : Heap} {C CP R NL NP NA : Addr}
/-! ### used, its very list -/
def spUsed2 (C : Addr) : Sp := fun vs H Q _ => ∃ (p dx t u : Addr) (us : List Str), vs = [.ref p] ∧ H p = some (.ins C dx (pf t u)) ∧ H u = some (.tup (us.map V.str)) ∧
  ∀ (l : Addr) (H' : Hp), H l = none → Ext H H' → H' l = some (.lst (us.map V.str)) → Q (.ref l) H'
theorem ok_used2 {f : Addr} {fd : FuncData} (F : Fun K "used" "Program.used" (cP 11) f fd) (T : BT mg) (L : PT K mg C) :
    FnOk P w K mg base CX0 1 f fd ["self"] (spUsed2 C) := by
  refine F.ok sc_used (fun vs H Q E h => ?_) (fun cdv A outer s H vs Q E hr h => ?_)
  · obtain ⟨p, dx, t, u, us, rfl, _⟩ := h
    rfl
  · obtain ⟨p, dx, t, u, us, rfl, h1, h4, q⟩ := h
    refine ⟨_, (pss_one (ps_ret (pe_callTy call_list_of (by rfl) T.n_list (by decide +kernel) (pa_cons (pe_fld (pv 0) rfl) pa_nil)))), ?_⟩
    refine ⟨_, rfl, p, C, dx, _, _, rfl, h1, L.cl, L.nU, pf_u _ _, u, _, rfl, .inr (SqT.of h4), fun l hl => ?_⟩
    exact q l _ hl (Ext.new hl) upd_same
structure UsM2 (P : Program) (w : World) (K : PySem.W.Frag) (mg : Str → Option Value) (base : Heap) (C : Addr) : Prop where
  has : ∃ (f : Addr) (fd : FuncData), FnOk P w K mg base CX0 1 f fd ["self"] (spUsed2 C) ∧ Meth K C "used" f ∧ Binds K fd ["self"] []
/-! ### check_lanes -/
def spCkX (C CP NL : Addr) : Sp := fun vs H Q E => ∃ (lx l p : Addr) (ns : List Str) (bs : List Int) (ps : List Place), vs = [.ref lx, .ref l] ∧ LanesAt C H lx ns bs ∧ H l = some (.lst [.ref p]) ∧ ProgAt CP H p ps ∧
  ((∀ x ∈ lanesP ps, x ∈ ns) → ∀ H', Ext H H' → Q .non H') ∧ (∀ m, LeastOut ps ns m → RzP E H NL "lane" (.str m))
theorem ok_ckX {f : Addr} {fd : FuncData} (F : Fun K "check_lanes" "check_lanes" s_ckl f fd) (T : BT mg) (LP : PT K mg CP) (MU : UsM2 P w K mg base CP)
    (MH : Cm P w K mg base C 2 "__contains__" ["self", "thing"] (spHas C)) (TL : XT K mg "NoLane" "lane" NL) (IL : XI P w K mg base "lane" NL) :
    FnOk P w K mg base (L2N.CX P w) 3 f fd ["lanes", "programs"] (spCkX C CP NL) := by
  obtain ⟨fU, fdU, FU, mu, bU⟩ := MU.has
  obtain ⟨fI, fdI, FI, iC, tI, bI⟩ := IL.has
  refine okXN F sc_ckl (fun vs H Q E h => ?_) (fun cdv A outer s H vs Q E hr h => ?_)
  · obtain ⟨lx, l, p, ns, bs, ps, rfl, _⟩ := h
    rfl
  · obtain ⟨lx, l, p, ns, bs, ps, rfl, hL, hl, hP, q1, q2⟩ := h
    refine ⟨_, (pss_cons (ps_setDc2 (i := 2) (own := [("program", 3), ("name", 4)]) (vs1 := [4]) (g := gName 3) (g1 := gName 4) (tt := tYes) (tt1 := tYes) (wi1 := iList K (tMeth CP "used" (spUsed2 CP) [] E0 (tVar 3) tNil)) rfl sc_ckl.nd rfl rfl (sw_dict rfl rfl rfl (by decide +kernel)) (pi_list (pv 1)) (blkOk_by (N := nCkl) (sc := defScope s_ckl) (by decide +kernel)) (by decide)
          (fun _ _ _ _ _ => pg_name (i := 3) sc_ckl.nd rfl (.inl rfl)) (fun _ _ _ _ _ => pts_nil) (fun _ _ _ _ _ => pi_list (pe_meth0 (pv 3) LP.cl mu FU (hr.mono (by decide)) bU .nil pass0)) (fun _ _ _ _ _ => pg_name (i := 4) sc_ckl.nd rfl (.inl rfl)) (fun _ _ _ _ _ => pts_nil) (fun _ _ _ _ _ => pv 4) (fun _ _ _ _ _ => pe_bl))
      (pss_one (ps_for (passes_of rfl) rfl (pi_list (pe_callB (call_sortedD rfl) (by rfl) T.n_sorted (by decide +kernel) (pa_cons (pv 2) pa_nil))) (pg_name (i := 4) sc_ckl.nd rfl (.inl rfl))
        (pss_one (ps_if (pt_cmpR (op_notInM MH (hr.mono (by decide))) (pv 4) (pv 0) (by rfl)) (pss_one (L2N.ps_raise rfl (L2N.takes_of rfl rfl rfl rfl) (pmk_oexN TL.ox iC tI FI (hr.mono (by decide)) bI .nil pass0 (by rfl) TL.g (pa_cons (pv 4) pa_nil)))) pss_nil))))), ?_⟩
    obtain ⟨dxP, tP, uP, xsP, us, hp1, hp2, hp3, hp4, usS, usN, us40, usM, okP⟩ := id hP
    refine ⟨_, rfl, l, rfl, ⟨_, SqL.of hl⟩, fun D hD => ?_⟩
    refine dc2_acc (walk_list (xs := [V.ref p])) (fun i j kvs _ => ∃ ks : List Str, kvs = kvT ks ∧ ks.Nodup ∧ (∀ x ∈ ks, x ∈ us) ∧ ((i = 0 → ∀ x ∈ us.take j, x ∈ ks) ∧ (i ≠ 0 → ∀ x ∈ us, x ∈ ks)) ∧ ks.length ≤ 40 * i + j ∧ i ≤ 1 ∧ j ≤ 40) (fun _ _ _ _ _ _ h => h)
      ⟨[], rfl, List.nodup_nil, (fun x hx => by cases hx), ⟨fun _ x hx => (by simp at hx), fun h => absurd rfl h⟩, by decide, by decide, by decide⟩ hD
      (fun i j kvs _ ⟨ks, e, _, _, _, h1, h2, h3⟩ => by rw [e]; unfold kvT; rw [List.length_map]; exact Nat.lt_of_le_of_lt (show _ ≤ 80 by omega) (by decide)) (fun H' e => SqL.of (e _ _ hl)) ?_ ?_
    · rintro i x Hi H' kvs hi e hy ⟨rfl, hxi⟩ hPi R hR
      have hi0 : i = 0 := by
        have : [V.ref p].length = 1 := rfl
        omega
      subst hi0
      cases hxi
      refine ⟨rfl, ?_⟩
      refine ⟨_, rfl, p, dxP, _, rfl, e _ _ hp1, pf_no _ _ (by decide +kernel) (by decide +kernel), p, dxP, tP, uP, us, rfl, e _ _ hp1, e _ _ hp4, fun lu H3 nlu e3 hlu => ⟨lu, rfl, ⟨_, SqL.of hlu⟩, hR _ _ _ ⟨e3, (us.map V.str).length, _, _, walk_list (xs := us.map V.str), fun Hz ez => SqL.of (ez _ _ ?_), ?_, ?_⟩⟩⟩
      · rw [del_ne (fun z => by rw [z, hy] at nlu; cases nlu)]
        exact hlu
      · rintro kvs Hz ⟨ks, a1, a2, a3, ⟨a7, _⟩, a4, a5, a6⟩
        rw [List.length_map] at a4 a7
        exact ⟨ks, a1, a2, a3, ⟨fun h => (by cases h), fun _ x hx => a7 rfl x (by rw [List.take_length]; exact hx)⟩, by omega, by omega, by omega⟩
      · rintro j y Ha Hb kvs hj eH ha2 ⟨rfl, hyj⟩ ⟨ks, rfl, a2, a3, ⟨a7, _⟩, a4, a5, a6⟩ QY QN kY kN
        rw [List.length_map] at hj
        rw [List.getElem?_map, List.getElem?_eq_getElem hj] at hyj
        cases hyj
        refine ⟨rfl, ?_⟩
        refine tyes ?_
        have mm : us[j] ∈ us := List.getElem_mem hj
        have tk : us.take (j + 1) = us.take j ++ [us[j]] := by rw [List.take_add_one, List.getElem?_eq_getElem hj]; rfl
        refine ⟨_, rfl, ?_⟩
        by_cases m : us[j] ∈ ks
        · refine kY (.inr us[j]) (.bl true) _ (Ext.refl _) ⟨ks, kvT_put m, a2, a3, ⟨fun _ x hx => ?_, fun h => absurd rfl h⟩, by omega, a5, by omega⟩
          rw [tk] at hx
          rcases List.mem_append.mp hx with h | h
          · exact a7 rfl x h
          · rw [List.mem_singleton.mp h]
            exact m
        · refine kY (.inr us[j]) (.bl true) _ (Ext.refl _) ⟨ks ++ [us[j]], kvT_new m, ?_, fun z hz => ?_, ⟨fun _ x hx => ?_, fun h => absurd rfl h⟩, by rw [List.length_append, List.length_singleton]; omega, a5, by omega⟩
          · refine List.nodup_append.mpr ⟨a2, by simp, fun c hc d hd e => ?_⟩
            rw [List.mem_singleton.mp hd] at e
            exact m (e ▸ hc)
          · rcases List.mem_append.mp hz with h | h
            · exact a3 z h
            · rw [List.mem_singleton.mp h]
              exact mm
          · rw [tk] at hx
            rcases List.mem_append.mp hx with h | h
            · exact List.mem_append_left _ (a7 rfl x h)
            · exact List.mem_append_right _ h
    rintro H4 kvs e4 hD4 ⟨ks, rfl, a2, a3, ⟨_, a7⟩, a4, _, _⟩
    have kall : ∀ x ∈ us, x ∈ ks := a7 (show (1 : Nat) ≠ 0 by decide)
    have kk : (kvT ks).map (·.1) = ks.map Sum.inr := by
      unfold kvT
      rw [List.map_map]
      rfl
    have a4' : ks.length ≤ 40 := by
      have : [V.ref p].length = 1 := rfl
      omega
    refine ⟨_, rfl, D, _, ks, rfl, Rd.of hD4, kk, by omega, fun vs l2 hperm hso hl2 => ?_⟩
    have e5 := Ext.new (o := .lst (vs.map V.str)) hl2
    have k5 := upd_same (H := H4) (a := l2) (o := HO.lst (vs.map V.str))
    generalize upd H4 l2 (.lst (vs.map V.str)) = H5 at *
    refine ⟨l2, rfl, ⟨_, SqL.of k5⟩, ?_⟩
    have e45 := e4.trans e5
    have vm : ∀ x, x ∈ vs ↔ x ∈ lanesP ps := fun x => by
      rw [hperm.mem_iff]
      exact ⟨fun h => (usM x).mp (a3 x h), fun h => kall x ((usM x).mpr h)⟩
    have pw := sorted_pw _ hso
    refine for_list (xs := vs.map V.str) (fun i σ H' => ∃ s4, σ = [some (.ref lx), some (.ref l), some (.ref D), none, s4] ∧ Ext H5 H' ∧ ∀ j (hj : j < vs.length), j < i → vs[j] ∈ ns)
      ⟨_, rfl, Ext.refl _, fun _ _ h => absurd h (by omega)⟩ (fun i σ H' _ ⟨_, _, e, _⟩ => SqL.of (e _ _ k5)) ?_ ?_
    · rintro i x σ H6 hxi ⟨s4, rfl, e6, hin⟩
      have hi : i < vs.length := by have := (List.getElem?_eq_some_iff.mp hxi).1; rw [List.length_map] at this; exact this
      rw [List.getElem?_map, List.getElem?_eq_getElem hi] at hxi
      cases hxi
      have mp : vs[i] ∈ lanesP ps := (vm _).mp (List.getElem_mem hi)
      have hL6 := hL.up (e45.trans e6)
      obtain ⟨dx, n, b, sp, h1, _⟩ := id hL6
      refine ⟨_, rfl, _, rfl, lx, dx, _, rfl, h1, lx, ns, bs, _, rfl, hL6, lane_name okP _ mp, fun H7 e7 => ⟨_, rfl, ?_⟩⟩
      refine ⟨_, rfl, ?_⟩
      by_cases mm : vs[i] ∈ ns
      · rw [decide_eq_true mm]
        refine iteF ?_
        refine ⟨_, rfl, e6.trans e7, fun j hj hji => ?_⟩
        by_cases c : j = i
        · subst c
          exact mm
        · exact hin j hj (by omega)
      · rw [decide_eq_false mm]
        refine iteT ?_
        have e67 := (e45.trans e6).trans e7
        have lo : LeastOut ps ns vs[i] := ⟨mp, mm, fun y hy hn => by
          obtain ⟨j, hj, rfl⟩ := List.getElem_of_mem ((vm y).mpr hy)
          rcases Nat.lt_trichotomy j i with c | c | c
          · exact absurd (hin j hj c) hn
          · subst c
            exact lt_irr _
          · exact List.pairwise_iff_getElem.mp pw i j hi hj c⟩
        refine ⟨_, rfl, by show 1 ≤ 1000; decide, fun ax hax => ?_⟩
        refine ⟨ax, .str vs[i], rfl, upd_same, fun dx' H5 hdx nda hk hA hD => ?_⟩
        rw [upd_ne nda] at hdx
        refine ⟨rfl, dx', _, hA, hD, hdx, q2 _ lo dx' _ (fun b o z => ?_) upd_same⟩
        have z2 := e67 b o z
        have nb1 : b ≠ ax := fun y => by rw [y, hax] at z2; cases z2
        have nb2 : b ≠ dx' := fun y => by rw [y, hdx] at z2; cases z2
        rw [upd_ne nb2, del_ne nb1, hk b nb1 nb2, upd_ne nb1]
        exact z2
    · rintro σ H6 ⟨s4, rfl, e6, hin⟩
      refine q1 (fun x hx => ?_) _ (e45.trans e6)
      obtain ⟨j, hj, rfl⟩ := List.getElem_of_mem ((vm x).mpr hx)
      exact hin j hj (by rw [List.length_map]; exact hj)
end
end K25

set_option Elab.async false
set_option linter.all false
set_option maxRecDepth 100000
set_option maxHeartbeats 4000000
namespace K25
open PySem PySem.Spec PyProof.Rows L2 Ol RZ
open TL (tl)
section
variable {P : Program} {w : World} {K : PySem.W.Frag} {mg : Str → Option Value} {base : Heap} {C CP R NL NP NA : Addr}
/-! ### allowed_at -/
def spAtX (C CP NP : Addr) : Sp := fun vs H Q E => ∃ (lx pr : Addr) (v : V) (ps : List Place) (z : Int) (ns : List Str) (st : Str → Nat × Bool) (bd : Str → Int), vs = [.ref lx, .ref pr, .int z, v] ∧ Ctx C H lx v ns st bd ∧ ProgAt CP H pr ps ∧ (∀ x ∈ lanesP ps, x ∈ ns) ∧
  (∀ (i : Nat) (hi : i < ps.length), z = (i : Int) → ∀ (l : Addr) (H' : Hp), H l = none → Ext H H' → H' l = some (.lst ((allowI st bd ps[i]).map fun i : Nat => V.int (i : Int))) → Q (.ref l) H') ∧
  (¬ isPl z ps.length → RzP E H NP "place" (.int z))
theorem ok_atX {f : Addr} {fd : FuncData} (F : Fun K "allowed_at" "allowed_at" s_at f fd) (LP : PT K mg CP) (MX : CmN P w K mg base CP 4 "mode" ["self", "place"] (spMdX CP NP)) (MA : Cm P w K mg base CP 4 "arms" ["self", "place"] (spArms CP)) (CAl : Ca P w K mg base 6 "allowed" ["lanes", "mode", "arms", "content"] (spAl C)) :
    FnOk P w K mg base (L2N.CX P w) 7 f fd ["lanes", "program", "place", "content"] (spAtX C CP NP) := by
  refine okXN F sc_at (fun vs H Q E h => ?_) (fun cdv A outer s H vs Q E hr h => ?_)
  · obtain ⟨lx, pr, v, ps, z, ns, st, bd, rfl, _⟩ := h
    rfl
  · obtain ⟨lx, pr, v, ps, z, ns, st, bd, rfl, X, hP, sub, q1, q2⟩ := h
    refine ⟨_, (pss_one (ps_ret (pe_ca CAl (hr.mono (by decide)) (by rfl) (pa_cons (pv 0) (pa_cons (pe_cmN MX LP.cl (hr.mono (by decide)) (fun σ => passAtN (L2N.takes_of rfl rfl rfl rfl) σ) (pv 1) (pa_cons (pv 2) pa_nil)) (pa_cons (pe_cm MA LP.cl (hr.mono (by decide)) (pv 1) (pa_cons (pv 2) pa_nil)) (pa_cons (pv 3) pa_nil))))))), ?_⟩
    obtain ⟨dx, t, u, xs, us, h1, _, _, _, _, _, _, _, ok⟩ := id hP
    refine ⟨_, rfl, _, rfl, pr, dx, _, rfl, h1, pf_no _ _ (by decide +kernel) (by decide +kernel), _, rfl, pr, ps, z, rfl, hP, fun i hi ez H1 e1 => ?_, q2⟩
    subst ez
    refine ⟨_, rfl, pr, dx, _, rfl, e1 _ _ h1, pf_no _ _ (by decide +kernel) (by decide +kernel), _, rfl, pr, ps, i, hi, rfl, hP.up e1, fun l ys H2 nl e2 hl hys => ?_⟩
    have e12 := e1.trans e2
    have few := (ok.ok _ (List.getElem_mem hi)).few
    exact ⟨_, rfl, lx, l, v, ys, ps[i], ns, st, bd, rfl, X.up e12, hl, hys, gas_of ok sub hi, by omega, fun l2 H3 nl2 e3 hl2 => q1 i hi rfl l2 H3 (e12.free nl2) (e12.trans e3) hl2⟩
/-! ### choices -/
def spChX (C CP NL NP : Addr) : Sp := fun vs H Q E => ∃ (lx pr : Addr) (v : V) (ps : List Place) (z : Int) (ns : List Str) (st : Str → Nat × Bool) (bd : Str → Int), vs = [.ref lx, .ref pr, .int z, v] ∧ Ctx C H lx v ns st bd ∧ ProgAt CP H pr ps ∧
  (∀ m, LeastOut ps ns m → RzP E H NL "lane" (.str m)) ∧ ((∀ x ∈ lanesP ps, x ∈ ns) →
  (∀ (i : Nat) (hi : i < ps.length), z = (i : Int) → ∀ (l : Addr) (H' : Hp), H l = none → Ext H H' → H' l = some (.lst ((allowI st bd ps[i]).map fun i : Nat => V.int (i : Int))) → Q (.ref l) H') ∧
  (¬ isPl z ps.length → RzP E H NP "place" (.int z)))
theorem RzP.up {E : XK} {H H' : Hp} {R : Addr} {fld : Str} {x : V} (e : Ext H H') (h : RzP E H R fld x) : RzP E H' R fld x := fun d H'' e' hd => h d H'' (e.trans e') hd
theorem ok_chX {f : Addr} {fd : FuncData} (F : Fun K "choices" "choices" s_ch f fd) (CK : CaN P w K mg base 3 "check_lanes" ["lanes", "programs"] (spCkX C CP NL)) (CAt : CaN P w K mg base 7 "allowed_at" ["lanes", "program", "place", "content"] (spAtX C CP NP)) :
    FnOk P w K mg base (L2N.CX P w) 8 f fd ["lanes", "program", "place", "content"] (spChX C CP NL NP) := by
  obtain ⟨fK, fdK, FK, gK, kK, bK⟩ := CK.has
  obtain ⟨fT, fdT, FT, gT, kT, bT⟩ := CAt.has
  refine okXN F sc_ch (fun vs H Q E h => ?_) (fun cdv A outer s H vs Q E hr h => ?_)
  · obtain ⟨lx, pr, v, ps, z, ns, st, bd, rfl, _⟩ := h
    rfl
  · obtain ⟨lx, pr, v, ps, z, ns, st, bd, rfl, X, hP, q1, q2⟩ := h
    refine ⟨_, (pss_cons (ps_expr (pe_callS FK (hr.mono (by decide)) (by rfl) gK kK bK (fun σ => passAtN (L2N.takes_of rfl rfl rfl rfl) σ) (pa_cons (pv 0) (pa_cons (pe_lst (pa_cons (pv 1) pa_nil)) pa_nil))))
      (pss_one (ps_ret (pe_callS FT (hr.mono (by decide)) (by rfl) gT kT bT (fun σ => passAtN (L2N.takes_of rfl rfl rfl rfl) σ) (pa_cons (pv 0) (pa_cons (pv 1) (pa_cons (pv 2) (pa_cons (pv 3) pa_nil)))))))), ?_⟩
    refine ⟨_, rfl, _, rfl, by show 1 ≤ sizeLine; decide, fun l hl => ?_⟩
    have e1 := Ext.new (o := .lst [.ref pr]) hl
    refine ⟨lx, l, pr, ns, _, ps, rfl, X.hL.up e1, upd_same, hP.up e1, fun sub H2 e2 => ?_, fun m lo => (q1 m lo).up e1⟩
    have e12 := e1.trans e2
    obtain ⟨q3, q4⟩ := q2 sub
    exact ⟨_, rfl, _, rfl, _, rfl, _, rfl, lx, pr, v, ps, z, ns, st, bd, rfl, X.up e12, hP.up e12, sub, fun i hi ez l2 H3 nl2 e3 hl2 => q3 i hi ez l2 H3 (e12.free nl2) (e12.trans e3) hl2, fun hn => (q4 hn).up e12⟩
/-! ### moved -/
def spMvX (C CP NL NP NA R : Addr) : Sp := fun vs H Q E => ∃ (lx pr : Addr) (v : V) (ps : List Place) (z k : Int) (ns : List Str) (st : Str → Nat × Bool) (bd : Str → Int), vs = [.ref lx, .ref pr, .int z, v, .int k] ∧ Ctx C H lx v ns st bd ∧ ProgAt CP H pr ps ∧
  (∀ m, LeastOut ps ns m → RzP E H NL "lane" (.str m)) ∧ ((∀ x ∈ lanesP ps, x ∈ ns) →
    (¬ isPl z ps.length → RzP E H NP "place" (.int z)) ∧ (∀ (i : Nat) (hi : i < ps.length), z = (i : Int) → ¬ isPl k ps[i].2.length → RzP E H NA "index" (.int k)) ∧
    (∀ (i : Nat) (hi : i < ps.length) (j : Nat) (hj : j < ps[i].2.length), z = (i : Int) → k = (j : Int) →
      (j ∈ allowI st bd ps[i] → ∀ (r : V) (H' : Hp), Ext H H' → Dq H' r (movD ns st bd ps[i].2[j]) → Q r H') ∧
      (j ∉ allowI st bd ps[i] → RzP E H R "what" (.int k))))
theorem ok_mvX {f : Addr} {fd : FuncData} (F : Fun K "moved" "moved" s_mv f fd) (L : LT K mg C) (LP : PT K mg CP) (TR : XT K mg "Refused" "what" R) (IR : XI P w K mg base "what" R) (CK : CaN P w K mg base 3 "check_lanes" ["lanes", "programs"] (spCkX C CP NL))
    (MA : CmN P w K mg base CP 5 "arm" ["self", "place", "index"] (spArmX CP NP NA)) (CAt : Ca P w K mg base 7 "allowed_at" ["lanes", "program", "place", "content"] (spAt C CP)) (CBA : Ca P w K mg base 5 "behind_arm" ["lanes", "arm", "content"] (spBA C)) :
    FnOk P w K mg base (L2N.CX P w) 8 f fd ["lanes", "program", "place", "content", "index"] (spMvX C CP NL NP NA R) := by
  obtain ⟨fI, fdI, FI, iC, tI, bI⟩ := IR.has
  obtain ⟨fK, fdK, FK, gK, kK, bK⟩ := CK.has
  refine okXN F sc_mv (fun vs H Q E h => ?_) (fun cdv A outer s H vs Q E hr h => ?_)
  · obtain ⟨lx, pr, v, ps, z, k, ns, st, bd, rfl, _⟩ := h
    rfl
  · obtain ⟨lx, pr, v, ps, z, k, ns, st, bd, rfl, X, hP, q1, q2⟩ := h
    refine ⟨_, (pss_cons (ps_expr (pe_callS FK (hr.mono (by decide)) (by rfl) gK kK bK (fun σ => passAtN (L2N.takes_of rfl rfl rfl rfl) σ) (pa_cons (pv 0) (pa_cons (pe_lst (pa_cons (pv 1) pa_nil)) pa_nil))))
      (pss_cons (ps_set (i := 5) sc_mv.nd rfl (.inl rfl) (pe_cmN MA LP.cl (hr.mono (by decide)) (fun σ => passAtN (L2N.takes_of rfl rfl rfl rfl) σ) (pv 1) (pa_cons (pv 2) (pa_cons (pv 4) pa_nil))))
      (pss_cons (ps_if (pt_cmpR op_notIn_seq (pv 4) (pe_ca CAt (hr.mono (by decide)) (by rfl) (pa_cons (pv 0) (pa_cons (pv 1) (pa_cons (pv 2) (pa_cons (pv 3) pa_nil))))) (by rfl)) (pss_one (L2N.ps_raise rfl (L2N.takes_of rfl rfl rfl rfl) (pmk_oexN TR.ox iC tI FI (hr.mono (by decide)) bI .nil pass0 (by rfl) TR.g (pa_cons (pv 4) pa_nil)))) pss_nil)
      (pss_one (ps_ret (pe_ca CBA (hr.mono (by decide)) (by rfl) (pa_cons (pv 0) (pa_cons (pv 5) (pa_cons (pv 3) pa_nil))))))))), ?_⟩
    refine ⟨_, rfl, _, rfl, by show 1 ≤ sizeLine; decide, fun l hl => ?_⟩
    have e1 := Ext.new (o := .lst [.ref pr]) hl
    refine ⟨lx, l, pr, ns, _, ps, rfl, X.hL.up e1, upd_same, hP.up e1, fun sub H2 e2 => ?_, fun m lo => (q1 m lo).up e1⟩
    have e12 := e1.trans e2
    obtain ⟨q3, q4, q5⟩ := q2 sub
    obtain ⟨dx, t, u, xs, us, h1, _, _, _, _, _, _, _, ok⟩ := id (hP.up e12)
    refine ⟨_, rfl, pr, dx, _, rfl, h1, pf_no _ _ (by decide +kernel) (by decide +kernel), _, rfl, _, rfl, pr, ps, z, k, rfl, hP.up e12, fun i hi j hj ez ek ra H3 e3 hra => ?_, fun hn => (q3 hn).up e12, fun i hi ez hn => (q4 i hi ez hn).up e12⟩
    subst ez ek
    obtain ⟨q6, q7⟩ := q5 i hi j hj rfl rfl
    have e13 := e12.trans e3
    refine ⟨_, rfl, _, rfl, _, rfl, _, rfl, _, rfl, lx, pr, v, ps, i, hi, ns, st, bd, rfl, X.up e13, hP.up e13, sub, fun l2 H4 nl2 e4 hl2 => ?_⟩
    have e14 := e13.trans e4
    refine ⟨l2, _, rfl, .inl (SqL.of hl2), rfl, flat_idx _, _, rfl, ?_⟩
    rw [if_pos rfl, inV_idx]
    by_cases m : j ∈ allowI st bd ps[i]
    · rw [decide_eq_true m]
      refine iteF ?_
      have X4 := X.up e14
      have hnd : ns.Nodup := by obtain ⟨_, _, _, _, _, _, _, _, _, h, _⟩ := X4.hL; exact h
      refine ⟨_, rfl, _, rfl, _, rfl, lx, ra, v, ps[i].2[j], ns, st, bd, rfl, X4, hra.up e4, ?_⟩
      have ga := gas_of ok sub hi
      rcases mem_allow hj m with ho | ho
      · cases hp : ps[i].2[j].1 with
        | none =>
          unfold openB at ho
          rw [hp] at ho
          cases ho
        | some p =>
          right
          obtain ⟨n, hn, en⟩ := List.getElem_of_mem ((ga _ (List.getElem_mem hj)).2 p hp)
          unfold openB at ho
          rw [hp] at ho
          obtain ⟨s2, hs2⟩ := Option.isSome_iff_exists.mp ho
          refine ⟨p, n, hn, s2, rfl, en, hs2, fun r H5 e5 hr5 => q6 m r H5 (e14.trans e5) ?_⟩
          unfold movD
          rw [hp]
          dsimp only
          rw [idx_at hnd hn en, hs2]
          exact hr5
      · left
        refine ⟨ho, fun r H5 e5 hr5 => q6 m r H5 (e14.trans e5) ?_⟩
        unfold movD
        rw [ho]
        exact hr5
    · rw [decide_eq_false m]
      refine iteT ?_
      refine ⟨_, rfl, by show 1 ≤ 1000; decide, fun ax hax => ?_⟩
      refine ⟨ax, .int (j : Int), rfl, upd_same, fun dx' H5 hdx nda hk hA hD => ?_⟩
      rw [upd_ne nda] at hdx
      refine ⟨rfl, dx', _, hA, hD, hdx, q7 m dx' _ (fun b o z => ?_) upd_same⟩
      have z2 := e14 b o z
      have nb1 : b ≠ ax := fun y => by rw [y, hax] at z2; cases z2
      have nb2 : b ≠ dx' := fun y => by rw [y, hdx] at z2; cases z2
      rw [upd_ne nb2, del_ne nb1, hk b nb1 nb2, upd_ne nb1]
      exact z2
end
end K25

set_option Elab.async false
set_option linter.all false
set_option maxRecDepth 100000
set_option maxHeartbeats 4000000
namespace K25
open PySem PySem.Spec PyProof.Rows L2 Ol RZ
open TL (tl)
theorem sysUp2 {H H' : Hp} (h : Sys H) (e : Ext H H') : Sys H' := sysUp h e
/-! ### what the law wants -/
inductive Res (ch : Bool) (ns : List Str) (st : Str → Nat × Bool) (bd : Str → Int) (ps : List Place) (z k : Int) : PyData → Prop
  | lane (m : Str) (h : LeastOut ps ns m) : Res ch ns st bd ps z k (.tuple [.str "NoLane", .str m])
  | place (sub : ∀ x ∈ lanesP ps, x ∈ ns) (h : ¬ isPl z ps.length) : Res ch ns st bd ps z k (.tuple [.str "NoPlace", .int z])
  | all (sub : ∀ x ∈ lanesP ps, x ∈ ns) (i : Nat) (hi : i < ps.length) (ez : z = (i : Int)) (c : ch = true) : Res ch ns st bd ps z k (.tuple [.str "told", .list ((allowI st bd ps[i]).map fun i : Nat => PyData.int (i : Int))])
  | arm (sub : ∀ x ∈ lanesP ps, x ∈ ns) (i : Nat) (hi : i < ps.length) (ez : z = (i : Int)) (c : ch = false) (h : ¬ isPl k ps[i].2.length) : Res ch ns st bd ps z k (.tuple [.str "NoArm", .int k])
  | refused (sub : ∀ x ∈ lanesP ps, x ∈ ns) (i : Nat) (hi : i < ps.length) (ez : z = (i : Int)) (c : ch = false) (j : Nat) (hj : j < ps[i].2.length) (ek : k = (j : Int)) (m : j ∉ allowI st bd ps[i]) : Res ch ns st bd ps z k (.tuple [.str "Refused", .int k])
  | told (sub : ∀ x ∈ lanesP ps, x ∈ ns) (i : Nat) (hi : i < ps.length) (ez : z = (i : Int)) (c : ch = false) (j : Nat) (hj : j < ps[i].2.length) (ek : k = (j : Int)) (m : j ∈ allowI st bd ps[i]) : Res ch ns st bd ps z k (.tuple [.str "told", movD ns st bd ps[i].2[j]])
theorem LeastOut.no {ps : List Place} {ns : List Str} {m : Str} (h : LeastOut ps ns m) (sub : ∀ x ∈ lanesP ps, x ∈ ns) : False := h.out (sub m h.mem)
theorem LeastOut.one {ps : List Place} {ns : List Str} {m m' : Str} (h : LeastOut ps ns m) (h' : LeastOut ps ns m') : m = m' := by
  have e : m.cps.toList = m'.cps.toList := lt_anti _ _ (h'.least _ h.mem h.out) (h.least _ h'.mem h'.out)
  cases m with
  | mk a => cases m' with
    | mk b =>
      have e2 : a = b := Array.toList_inj.mp e
      rw [e2]
theorem isPl_at {z : Int} {n i : Nat} (hi : i < n) (e : z = (i : Int)) : isPl z n := ⟨by omega, by omega⟩
theorem Res.one {ch : Bool} {ns : List Str} {st : Str → Nat × Bool} {bd : Str → Int} {ps : List Place} {z k : Int} {d e : PyData} (h : Res ch ns st bd ps z k d) (h' : Res ch ns st bd ps z k e) : d = e := by
  cases h with
  | lane m lo =>
    cases h' with
    | lane m' lo' => rw [lo.one lo']
    | place s _ => exact (lo.no s).elim
    | all s => exact (lo.no s).elim
    | arm s => exact (lo.no s).elim
    | refused s => exact (lo.no s).elim
    | told s => exact (lo.no s).elim
  | place s hz =>
    cases h' with
    | lane m lo => exact (lo.no s).elim
    | place _ _ => rfl
    | all _ i hi ez _ => exact (hz (isPl_at hi ez)).elim
    | arm _ i hi ez _ => exact (hz (isPl_at hi ez)).elim
    | refused _ i hi ez _ => exact (hz (isPl_at hi ez)).elim
    | told _ i hi ez _ => exact (hz (isPl_at hi ez)).elim
  | all s i hi ez c =>
    cases h' with
    | lane m lo => exact (lo.no s).elim
    | place _ hz => exact (hz (isPl_at hi ez)).elim
    | all _ i' hi' ez' _ =>
      obtain rfl : i = i' := by omega
      rfl
    | arm _ _ _ _ c' => rw [c] at c'; cases c'
    | refused _ _ _ _ c' => rw [c] at c'; cases c'
    | told _ _ _ _ c' => rw [c] at c'; cases c'
  | arm s i hi ez c hk =>
    cases h' with
    | lane m lo => exact (lo.no s).elim
    | place _ hz => exact (hz (isPl_at hi ez)).elim
    | all _ _ _ _ c' => rw [c] at c'; cases c'
    | arm => rfl
    | refused _ i' hi' ez' _ j hj ek _ =>
      obtain rfl : i = i' := by omega
      exact (hk (isPl_at hj ek)).elim
    | told _ i' hi' ez' _ j hj ek _ =>
      obtain rfl : i = i' := by omega
      exact (hk (isPl_at hj ek)).elim
  | refused s i hi ez c j hj ek m =>
    cases h' with
    | lane m lo => exact (lo.no s).elim
    | place _ hz => exact (hz (isPl_at hi ez)).elim
    | all _ _ _ _ c' => rw [c] at c'; cases c'
    | arm _ i' hi' ez' _ hk =>
      obtain rfl : i = i' := by omega
      exact (hk (isPl_at hj ek)).elim
    | refused => rfl
    | told _ i' hi' ez' _ j' hj' ek' m' =>
      obtain rfl : i = i' := by omega
      obtain rfl : j = j' := by omega
      exact (m m').elim
  | told s i hi ez c j hj ek m =>
    cases h' with
    | lane m lo => exact (lo.no s).elim
    | place _ hz => exact (hz (isPl_at hi ez)).elim
    | all _ _ _ _ c' => rw [c] at c'; cases c'
    | arm _ i' hi' ez' _ hk =>
      obtain rfl : i = i' := by omega
      exact (hk (isPl_at hj ek)).elim
    | refused _ i' hi' ez' _ j' hj' ek' m' =>
      obtain rfl : i = i' := by omega
      obtain rfl : j = j' := by omega
      exact (m' m).elim
    | told _ i' hi' ez' _ j' hj' ek' _ =>
      obtain rfl : i = i' := by omega
      obtain rfl : j = j' := by omega
      rfl
theorem perm_putS {qs ps : List Str} (p : Str) (j : Nat) (h : qs.Perm ps) : (qs.take j ++ [p] ++ qs.drop j).Perm (ps ++ [p]) := by
  have h1 : (qs.take j ++ p :: qs.drop j).Perm (p :: (qs.take j ++ qs.drop j)) := List.perm_middle
  rw [List.take_append_drop] at h1
  rw [List.append_assoc]
  exact h1.trans ((List.Perm.cons p h).trans (List.perm_append_singleton p ps).symm)
section
variable {P : Program} {w : World} {K : PySem.W.Frag} {mg : Str → Option Value} {base : Heap} {C : Addr}
/-! ### _law_mixed of names -/
def spMixed : Sp := fun vs H Q _ => ∃ (p l : Addr) (ns : List Str), vs = [.ref p, .ref l] ∧ Bag H p ∧ H l = some (.lst (ns.map V.str)) ∧ ns.length ≤ 20 ∧
  ∀ (d : Addr) (qs : List Str) (H' : Hp), H d = none → Ext H H' → H' d = some (.lst (qs.map V.str)) → qs.Perm ns → Q (.ref d) H'
abbrev s_mixed : Stmt := (topS 45)
theorem sc_mixed : FnScope ["_law_bag_here", "_law_things", "_law_found", "_law_thing"] ["_law_bag_here", "_law_things"] (defScope s_mixed) := ⟨rfl, rfl, rfl, by decide +kernel, rfl, by decide +kernel, by decide +kernel⟩
theorem ok_mixed {f : Addr} {fd : FuncData} (F : Fun K "_law_mixed" "_law_mixed" s_mixed f fd) (T : BT mg) (CT : Ca P w K mg base 1 "_law_take" ["_law_bag_here", "_law_many"] spTake) :
    FnOk P w K mg base CX0 2 f fd ["_law_bag_here", "_law_things"] spMixed := by
  refine F.ok sc_mixed (fun vs H Q E h => ?_) (fun cdv A outer s H vs Q E hr h => ?_)
  · obtain ⟨p, l, ns, rfl, _⟩ := h
    rfl
  · obtain ⟨p, l, ns, rfl, hB, hl, h20, q⟩ := h
    refine ⟨_, (pss_cons (ps_set (i := 2) sc_mixed.nd rfl (.inl rfl) (pe_lst pa_nil))
      (pss_cons (ps_for PassesOwn.never rfl (pi_list (pv 1)) (pg_name (i := 3) sc_mixed.nd rfl (.inl rfl))
        (pss_one (ps_expr (pe_bm PySem.F.plainAttrs_list PySem.F.slot_list_insert PySem.F.type_list_insert mt_insert (pv 2) (pa_cons (pe_ca CT (hr.mono (by decide)) (by rfl) (pa_cons (pv 0) (pa_cons (pe_op op_add (pe_callB call_len_seq (by rfl) T.n_len (by decide +kernel) (pa_cons (pv 2) pa_nil)) pe_int) pa_nil))) (pa_cons (pv 3) pa_nil))))))
      (pss_one (ps_ret (pv 2))))), ?_⟩
    refine ⟨by show 0 ≤ sizeLine; decide, fun d hd => ?_⟩
    have e0 := Ext.new (o := .lst []) hd
    have ml : (ns.map V.str).length = ns.length := List.length_map ..
    refine ⟨_, rfl, l, rfl, ⟨_, SqL.of (e0 _ _ hl)⟩, ?_⟩
    refine for_list (xs := ns.map V.str) (fun i σ H' => ∃ v3 qs, σ = [some (.ref p), some (.ref l), some (.ref d), v3] ∧ Ext H H' ∧ H' d = some (.lst (qs.map V.str)) ∧ qs.Perm (ns.take i) ∧ qs.length = i)
      ⟨none, [], rfl, e0, upd_same, .refl _, rfl⟩ (fun i σ H' _ ⟨_, _, _, e, _⟩ => SqL.of (e _ _ hl)) ?_ ?_
    · rintro i x σ H1 hxi ⟨v3, qs, rfl, e, hd1, hpm, hyl⟩
      have hi : i < ns.length := by have := (List.getElem?_eq_some_iff.mp hxi).1; omega
      rw [List.getElem?_map, List.getElem?_eq_getElem hi] at hxi
      cases hxi
      have mq : (qs.map V.str).length = qs.length := List.length_map ..
      refine ⟨_, rfl, .inl ⟨rfl, _, SqL.of hd1⟩, _, rfl, _, rfl, d, _, rfl, .inl (SqL.of hd1), _, _, rfl, rfl, p, _, rfl, hB.up e, by omega, by omega, fun r r0 r1 => ⟨_, rfl, ?_⟩⟩
      obtain ⟨j, rfl⟩ : ∃ j : Nat, r = (j : Int) := ⟨r.toNat, by omega⟩
      refine ⟨d, qs.map V.str, _, .str ns[i], rfl, rfl, hd1, Nat.lt_of_le_of_lt (show _ ≤ 20 by omega) (by decide), by omega, by omega, ?_⟩
      refine ⟨_, qs.take j ++ [ns[i]] ++ qs.drop j, rfl, Ext.mut e hd, ?_, ?_, ?_⟩
      · rw [upd_same, Int.toNat_natCast, List.map_append, List.map_append, List.map_take, List.map_drop]
        rfl
      · rw [List.take_add_one, List.getElem?_eq_getElem hi]
        exact perm_putS _ _ hpm
      · rw [List.length_append, List.length_append, List.length_take, List.length_drop, List.length_singleton]
        omega
    · rintro σ H' ⟨v3, qs, rfl, e, hd1, hpm, hyl⟩
      rw [ml, List.take_length] at hpm
      exact ⟨_, rfl, q d qs H' hd e hd1 hpm⟩
end
end K25

set_option Elab.async false
set_option linter.all false
set_option maxRecDepth 100000
set_option maxHeartbeats 4000000
namespace K25
open PySem PySem.Spec PyProof.Rows L2 Ol RZ
open TL (tl)
theorem armVm {a : Arm} : atI (armV a) (-1) = some (.int (a.2 : Int)) := by
  obtain ⟨o, g⟩ := a
  cases o <;> rfl
theorem dq_strs (H : Hp) : ∀ l : List Str, DqAll H (l.map V.str) (l.map PyData.str)
  | [] => .nil
  | _ :: l => .cons (.str _) (dq_strs H l)
theorem strs_shaped {l : List Str} (h : ∀ x ∈ l, isNameS x = true) : SeqAt.shaped (.list (l.map PyData.str)) = true := by
  have hg : ∀ d ∈ l.map PyData.str, Gd 0 d := fun d hd => by
    obtain ⟨x, hx, rfl⟩ := List.mem_map.mp hd
    exact name_gd (h x hx)
  refine lay_shaped ?_ ?_
  · rw [PyData.canLay0]
    refine lay_all fun d hd => ?_
    obtain ⟨x, hx, rfl⟩ := List.mem_map.mp hd
    rw [PyData.canLay0]
    exact name_ok (h x hx)
  · have := (all_sh hg).2.1
    simp only [PyData.depth]
    omega
/-- the lanes of arms that are none of ns -/
def outA (ns : List Str) (as : List Arm) : List Str := (lanesA as).filter fun x => decide (x ∉ ns)
def outP (ns : List Str) (ps : List Place) : List Str := (lanesP ps).filter fun x => decide (x ∉ ns)
theorem outA_step {ns : List Str} {as : List Arm} {k : Nat} (h : k < as.length) : outA ns (as.take (k + 1)) = outA ns (as.take k) ++ outA ns [as[k]] := by
  unfold outA
  rw [List.take_add_one, List.getElem?_eq_getElem h, Option.toList_some, lanesA_snoc, List.filter_append]
theorem outP_step {ns : List Str} {ps : List Place} {k : Nat} (h : k < ps.length) : outP ns (ps.take (k + 1)) = outP ns (ps.take k) ++ outA ns ps[k].2 := by
  unfold outP outA
  rw [List.take_add_one, List.getElem?_eq_getElem h, Option.toList_some, lanesP_snoc, List.filter_append]
theorem outA_one {ns : List Str} {a : Arm} {pr : Str × Str} (h : a.1 = some pr) : outA ns [a] = if pr.2 ∈ ns then [] else [pr.2] := by
  unfold outA lanesA
  rw [List.filterMap_cons, h]
  by_cases c : pr.2 ∈ ns
  · simp [c]
  · simp [c]
theorem outA_els {ns : List Str} {a : Arm} (h : a.1 = none) : outA ns [a] = [] := by
  unfold outA lanesA
  rw [List.filterMap_cons, h]
  rfl
theorem outA_len (ns : List Str) (as : List Arm) : (outA ns as).length ≤ as.length := Nat.le_trans (List.length_filter_le ..) (List.length_filterMap_le ..)
theorem out_mem {ns : List Str} {ps : List Place} {x : Str} : x ∈ outP ns ps ↔ x ∈ lanesP ps ∧ x ∉ ns := by
  unfold outP
  rw [List.mem_filter, decide_eq_true_eq]
section
variable {P : Program} {w : World} {K : PySem.W.Frag} {mg : Str → Option Value} {base : Heap} {C CP : Addr}
/-! ### _law_due -/
structure DuP (H : Hp) (db pl : Addr) (v : V) (prs : List (Str × Int)) (ns : List Str) (st : Str → Nat × Bool) (xs : List V) (ps : List Place) : Prop where
  sy : Sys H
  hdb : H db = some (.dK (kvI prs))
  l3 : prs.length ≤ 3
  perm : ns.Perm (prs.map (·.1))
  nd : ns.Nodup
  so : sortedS ns = true
  hv : Dq H v (ctD (ns.map st))
  hpl : H pl = some (.lst xs)
  hxs : DqAll H xs (ps.map placeD)
  pls : Pls ps
  few : ∀ q ∈ ps, q.2.length ≤ 3
  hst : ∀ x ∈ ns, ((st x).1 : Int) ≤ bdOf prs x
theorem DuP.up {H H' : Hp} {db pl : Addr} {v : V} {prs : List (Str × Int)} {ns : List Str} {st : Str → Nat × Bool} {xs : List V} {ps : List Place} (e : Ext H H') (h : DuP H db pl v prs ns st xs ps) : DuP H' db pl v prs ns st xs ps :=
  ⟨sysUp h.sy e, e _ _ h.hdb, h.l3, h.perm, h.nd, h.so, h.hv.up e, e _ _ h.hpl, DqAll.up e h.hxs, h.pls, h.few, h.hst⟩
def spDue : Sp := fun vs H Q _ => ∃ (kind : Str) (db pl : Addr) (v : V) (prs : List (Str × Int)) (ns : List Str) (st : Str → Nat × Bool) (xs : List V) (ps : List Place) (z k : Int), vs = [.str kind, .ref db, .ref pl, .int z, v, .int k] ∧ DuP H db pl v prs ns st xs ps ∧
  ∀ (r : V) (H' : Hp) (d : PyData), Ext H H' → Res (decide (V.str kind = V.str "choices")) ns st (bdOf prs) ps z k d → Dq H' r d → Q r H'
abbrev s__law_due : Stmt := (topS 56)
abbrev nDue : List Str := ["_law_kind", "_law_bounds_here", "_law_places", "_law_place", "_law_content_here", "_law_index", "_law_used", "_law_mode", "_law_arms", "_law_found", "_law_arm_here"]
abbrev pDue : List Str := ["_law_kind", "_law_bounds_here", "_law_places", "_law_place", "_law_content_here", "_law_index"]
theorem sc__law_due : FnScope nDue pDue (defScope s__law_due) := ⟨rfl, rfl, rfl, by decide +kernel, rfl, by decide +kernel, by decide +kernel⟩
theorem ok_due {f : Addr} {fd : FuncData} (F : Fun K "_law_due" "_law_due" s__law_due f fd) (T : BT mg) (n_min : mg "min" = none)
    (CCh : Ca P w K mg base 2 "_law_choices" ["_law_bounds_here", "_law_row", "_law_content_here"] spLCh) (CLe : Ca P w K mg base 1 "_law_left" ["_law_bounds_here", "_law_content_here", "_law_arm_here"] spLeft) :
    FnOk P w K mg base CX0 3 f fd pDue spDue := by
  refine F.ok sc__law_due (fun vs H Q E h => ?_) (fun cdv A outer s H vs Q E hr h => ?_)
  · obtain ⟨kind, db, pl, v, prs, ns, st, xs, ps, z, k, rfl, _⟩ := h
    rfl
  · obtain ⟨kind, db, pl, v, prs, ns, st, xs, ps, z, k, rfl, D0, q⟩ := h
    refine ⟨_, (pss_cons (ps_set (i := 6) sc__law_due.nd rfl (.inl rfl) (pe_lst pa_nil))
    (pss_cons (ps_for PassesOwn.never rfl (pi_list (pv 2)) (pg_tup (by rfl) (pgs_cons (pg_name (i := 7) sc__law_due.nd rfl (.inl rfl)) (pgs_cons (pg_name (i := 8) sc__law_due.nd rfl (.inl rfl)) pgs_nil)))
      (pss_one (ps_aug (i := 6) sc__law_due.nd rfl (.inl rfl) (pe_lc (own := [("_law_arm_here", 10)]) (g := gName 10) (tt := tAnd (tTest (tOp rNe (tOp (rIxT K) (tVar 10) (tC (.int 0))) (tC (.str "else")))) (tB (tDNotIn (tOp (rIxT K) (tVar 10) (tC (.int 1))) (tVar 1)))) (te := tOp (rIxT K) (tVar 10) (tC (.int 1))) rfl sc__law_due.nd (pi_tup (pv 8)) (blkOk_by (N := nDue) (sc := defScope s__law_due) (by decide +kernel)) (fun _ _ _ _ _ => (pg_name (i := 10) sc__law_due.nd rfl (.inl rfl))) (fun _ _ _ _ _ => (pts_one (PW.pt (pw_and (pt_cmpR op_ne (pe_ix ix_tup (pv 10) pe_int (fun _ _ => rfl)) pe_str (nomark _)) (pw_and1 (pt_cmp (pc_dnotin (hu_of hr) (pe_ix ix_tup (pv 10) pe_int (fun _ _ => rfl)) (pv 1)))))))) (fun _ _ _ _ _ => (pe_ix ix_tup (pv 10) pe_int (fun _ _ => rfl)))) iop_ext)))
    (pss_cons (ps_if (pt_cmpR (op_neQ hr) (pv 6) (pe_lst pa_nil) (nomark _))
      (pss_one (ps_ret (pe_tup (pa_cons pe_str (pa_cons (pe_callB (call_minS rfl hr) (by rfl) n_min (by decide +kernel) (pa_cons (pv 6) pa_nil)) pa_nil)))))
      pss_nil)
    (pss_cons (ps_if (pt_not (pt_chain op_le op_lt pe_int (pv 3) (pe_callB call_len_seq (by rfl) T.n_len (by decide +kernel) (pa_cons (pv 2) pa_nil))))
      (pss_one (ps_ret (pe_tup (pa_cons pe_str (pa_cons (pv 3) pa_nil)))))
      pss_nil)
    (pss_cons (ps_set (i := 9) sc__law_due.nd rfl (.inl rfl) (pe_ca CCh (hr.mono (by decide)) (by rfl) (pa_cons (pv 1) (pa_cons (pe_ix ix_list (pv 2) (pv 3) (fun _ _ => rfl)) (pa_cons (pv 4) pa_nil)))))
    (pss_cons (ps_if (pt_cmpR op_eq (pv 0) pe_str (nomark _))
      (pss_one (ps_ret (pe_tup (pa_cons pe_str (pa_cons (pv 9) pa_nil)))))
      pss_nil)
    (pss_cons (ps_set (i := 8) sc__law_due.nd rfl (.inl rfl) (pe_ix ix_tup (pe_ix ix_list (pv 2) (pv 3) (fun _ _ => rfl)) pe_int (fun _ _ => rfl)))
    (pss_cons (ps_if (pt_not (pt_chain op_le op_lt pe_int (pv 5) (pe_callB call_len_seq (by rfl) T.n_len (by decide +kernel) (pa_cons (pv 8) pa_nil))))
      (pss_one (ps_ret (pe_tup (pa_cons pe_str (pa_cons (pv 5) pa_nil)))))
      pss_nil)
    (pss_cons (ps_if (pt_cmpR op_notIn_seq (pv 5) (pv 9) (by rfl))
      (pss_one (ps_ret (pe_tup (pa_cons pe_str (pa_cons (pv 5) pa_nil)))))
      pss_nil)
    (pss_one (ps_ret (pe_tup (pa_cons pe_str (pa_cons (pe_tup (pa_cons (pe_ix ix_tup (pe_ix ix_tup (pv 8) (pv 5) (fun _ _ => rfl)) (pe_un un_neg pe_int) (fun _ _ => rfl)) (pa_cons (pe_ca CLe (hr.mono (by decide)) (by rfl) (pa_cons (pv 1) (pa_cons (pv 4) (pa_cons (pe_ix ix_tup (pv 8) (pv 5) (fun _ _ => rfl)) pa_nil)))) pa_nil))) pa_nil)))))))))))))), ?_⟩
    have lx : xs.length = ps.length := by rw [D0.hxs.len, List.length_map]
    have p6 := D0.pls.few
    have nmem : ∀ x, x ∈ ns ↔ x ∈ prs.map (·.1) := fun x => D0.perm.mem_iff
    refine ⟨by show 0 ≤ sizeLine; decide, fun ul hul => ?_⟩
    have e0 := Ext.new (o := .lst []) hul
    refine ⟨_, rfl, pl, rfl, ⟨_, SqL.of (e0 _ _ D0.hpl)⟩, ?_⟩
    refine for_list (xs := xs) (fun i σ H' => ∃ s7 s8 s10 us, σ = [some (.str kind), some (.ref db), some (.ref pl), some (.int z), some v, some (.int k), some (.ref ul), s7, s8, none, s10] ∧ Ext H H' ∧ H' ul = some (.lst (us.map V.str)) ∧ us = outP ns (ps.take i) ∧ us.length ≤ 3 * i)
      ⟨none, none, none, [], rfl, e0, upd_same, rfl, by decide⟩ (fun i σ H' _ ⟨_, _, _, _, _, e, _⟩ => SqL.of (e _ _ D0.hpl)) ?_ ?_
    · rintro i x σ H1 hxi ⟨s7, s8, s10, us, rfl, e1, hu1, eu, lu⟩
      have hi : i < ps.length := by have := (List.getElem?_eq_some_iff.mp hxi).1; omega
      obtain ⟨x', hx', dx'⟩ := DqAll_get D0.hxs i (placeD ps[i]) (by rw [List.getElem?_map, List.getElem?_eq_getElem hi]; rfl)
      rw [hxi] at hx'
      cases hx'
      obtain ⟨ra, t2, ys, rfl, hra, ht2, hys⟩ := place_inv dx'
      have ly : ys.length = ps[i].2.length := by rw [hys.len, List.length_map]
      have few := D0.few _ (List.getElem_mem hi)
      refine ⟨ra, _, rfl, SqT.of (e1 _ _ hra), rfl, _, _, rfl, _, _, rfl, rfl, ?_⟩
      refine ⟨_, rfl, ?_⟩
      refine ⟨_, rfl, t2, rfl, ⟨_, SqT.of (e1 _ _ ht2)⟩, fun D hD => ?_⟩
      refine lc1_acc (walk_tup (xs := ys)) (fun k zs _ => zs = (outA ns (ps[i].2.take k)).map V.str ∧ k ≤ 10) (fun _ _ _ _ _ h => h) ⟨rfl, by decide⟩ hD
        (fun k zs _ h => by rw [h.1, List.length_map]; exact Nat.lt_of_le_of_lt (Nat.le_trans (outA_len _ _) (by rw [List.length_take]; omega : _ ≤ 3)) (by decide)) (fun H' e' => SqT.of ((e1.trans e') _ _ ht2)) ?_ ?_
      · rintro k y Hi H' zs hk e' hy ⟨rfl, hyk⟩ ⟨hz, _⟩ QY QN kY kN
        have hk2 : k < ps[i].2.length := by omega
        obtain ⟨y', hy', dy'⟩ := DqAll_get hys k (armD ps[i].2[k]) (by rw [List.getElem?_map, List.getElem?_eq_getElem hk2]; rfl)
        rw [hyk] at hy'
        cases hy'
        obtain ⟨r, rfl, h1⟩ := arm_tup (dy'.up (e1.trans e'))
        have gk := ((D0.pls.ok _ (List.getElem_mem hi)).arms _ (List.getElem_mem hk2)).1
        refine ⟨rfl, ?_⟩
        refine ⟨_, rfl, r, _, 0, _, rfl, rfl, SqT.of h1, armV0, rfl, _, rfl, ?_⟩
        refine ite2 (fun g => ?_) (fun g => ?_)
        · cases ho : ps[i].2[k].1 with
          | none =>
            rw [ho] at g
            simp at g
          | some pr =>
            have a1 : atI (armV ps[i].2[k]) 1 = some (.str pr.2) := by
              generalize ps[i].2[k] = a at ho
              obtain ⟨o, gg⟩ := a
              cases ho
              rfl
            have gd := DGet.k (k := Sum.inr pr.2) ((e1.trans e') _ _ D0.hdb)
            refine ⟨_, rfl, r, _, 1, _, rfl, rfl, SqT.of h1, a1, _, rfl, db, _, rfl, gd, _, rfl, ?_⟩
            by_cases c : pr.2 ∈ ns
            · rw [kvI_val ((nmem _).mp c)]
              refine iteF ?_
              refine kN _ (Ext.refl _) ⟨?_, by omega⟩
              rw [hz, outA_step hk2, outA_one ho, if_pos c, List.append_nil]
            · rw [kvI_none (fun h => c ((nmem _).mpr h))]
              refine iteT ?_
              refine ⟨_, rfl, r, _, 1, _, rfl, rfl, SqT.of h1, a1, kY _ _ (Ext.refl _) ⟨?_, by omega⟩⟩
              rw [hz, outA_step hk2, outA_one ho, if_neg c, List.map_append]
              rfl
        · have ho : ps[i].2[k].1 = none := by
            cases ho : ps[i].2[k].1 with
            | none => rfl
            | some pr =>
              refine absurd ?_ g
              have zz := mt (els_iff gk).mp (by rw [ho]; exact Bool.false_ne_true)
              rw [Bool.not_eq_true', decide_eq_false]
              exact fun y => zz (by injection y)
          refine iteF ?_
          refine kN _ (Ext.refl _) ⟨?_, by omega⟩
          rw [hz, outA_step hk2, outA_els ho, List.append_nil]
      rintro H2 zs e2 h2 ⟨hz, _⟩
      rw [ly, List.take_length] at hz
      rw [hz] at h2
      have lo := outA_len ns ps[i].2
      refine ⟨ul, D, _, _, rfl, rfl, e2 _ _ hu1, h2, by rw [List.length_map, List.length_map]; exact Nat.le_trans (show _ ≤ 30 by omega) (by decide), ?_⟩
      refine ⟨_, _, _, us ++ outA ns ps[i].2, rfl, Ext.mut (e1.trans e2) hul, by rw [upd_same, List.map_append], by rw [outP_step hi, eu], by rw [List.length_append]; omega⟩
    rintro σ H1 ⟨s7, s8, s10, us, rfl, e1, hu1, eu, lu⟩
    rw [lx, List.take_length] at eu
    rw [lx] at lu
    have usn : ∀ x ∈ us, isNameS x = true := fun x hx => lane_name D0.pls x (out_mem.mp (eu ▸ hx)).1
    refine ⟨_, rfl, by show 0 ≤ sizeLine; decide, fun l2 hl2 => ?_⟩
    have x2 := Ext.new (o := .lst []) hl2
    have e2 := e1.trans x2
    refine ⟨.list (us.map PyData.str), .list [], sysUp D0.sy e2, .lst (x2 _ _ hu1) (dq_strs _ _), .lst upd_same .nil, strs_shaped usn, nil_shaped, _, rfl, ?_⟩
    have hu2 := x2 _ _ hu1
    generalize upd H1 l2 _ = H2 at e2 hu2 ⊢
    rw [eqv_e]
    by_cases ue : us = []
    · have sub : ∀ x ∈ lanesP ps, x ∈ ns := fun x hx => by
        by_cases c : x ∈ ns
        · exact c
        · have : x ∈ us := by rw [eu]; exact out_mem.mpr ⟨hx, c⟩
          rw [ue] at this
          cases this
      rw [ue]
      refine iteF ?_
      have D2 := D0.up e2
      have pB : ∀ {H3 : Hp}, Ext H2 H3 → ¬ isPl z ps.length → ∀ t, H3 t = none → Q (.ref t) (upd H3 t (.tup [.str "NoPlace", .int z])) := fun {H3} e3 hn t ht =>
        q _ _ _ ((e2.trans e3).trans (Ext.new ht)) (.place sub hn) (.tup upd_same (.cons (.str _) (.cons (.int _) .nil)))
      refine ⟨_, rfl, _, _, rfl, rfl, _, rfl, ?_⟩
      refine ite2 (fun g0 => ?_) (fun g0 => ?_)
      · have g0' : 0 ≤ z := of_decide_eq_true g0
        refine ⟨_, rfl, pl, _, rfl, .inl (SqL.of D2.hpl), _, _, rfl, rfl, _, rfl, ?_⟩
        refine ite2 (fun g1 => ?_) (fun g1 => ?_)
        · have hn : ¬ isPl z ps.length := fun y => by
            have := y.2
            rw [Bool.not_eq_true', decide_eq_false_iff_not] at g1
            omega
          exact ⟨_, rfl, by show 2 ≤ sizeLine; decide, fun t ht => pB (Ext.refl _) hn t ht⟩
        · obtain ⟨i, rfl⟩ := Int.eq_ofNat_of_zero_le g0'
          have hi : i < ps.length := by
            rw [Bool.not_eq_true', decide_eq_false_iff_not] at g1
            omega
          obtain ⟨x', hx', dx'⟩ := DqAll_get D2.hxs i (placeD ps[i]) (by rw [List.getElem?_map, List.getElem?_eq_getElem hi]; rfl)
          obtain ⟨ra, t2, ys, rfl, hra, ht2, hys⟩ := place_inv dx'
          have ly : ys.length = ps[i].2.length := by rw [hys.len, List.length_map]
          have gp := D0.pls.ok _ (List.getElem_mem hi)
          have gl : GL ps.length ns ps[i] := ⟨gp, D0.few _ (List.getElem_mem hi), fun x hx => sub x (List.mem_flatMap.mpr ⟨_, List.getElem_mem hi, hx⟩)⟩
          refine ⟨_, rfl, _, rfl, _, rfl, pl, xs, _, _, rfl, rfl, SqL.of D2.hpl, atI_nat hx', _, rfl, db, .ref ra, v, prs, ns, st, ps.length, ps[i], rfl, D2.sy, D2.hdb, dx', D2.hv, D2.l3, D2.perm, D2.nd, D2.so, gl, fun fl H3 nfl e3 hfl => ?_⟩
          have e03 := e2.trans e3
          refine ⟨_, rfl, rfl, _, rfl, ?_⟩
          refine ite2 (fun gc => ?_) (fun gc => ?_)
          · refine ⟨_, rfl, by show 2 ≤ sizeLine; decide, fun t ht => ?_⟩
            have x4 := Ext.new (o := .tup [.str "told", .ref fl]) ht
            exact q _ _ _ (e03.trans x4) (.all sub i hi rfl gc) (.tup upd_same (.cons (.str _) (.cons (.lst (x4 _ _ hfl) (dq_ints _ _)) .nil)))
          have gc' := Bool.eq_false_iff.mpr gc
          have ht3 := e3 _ _ ht2
          refine ⟨_, rfl, _, rfl, pl, xs, _, _, rfl, rfl, SqL.of (e3 _ _ D2.hpl), atI_nat hx', ra, _, 1, _, rfl, rfl, SqT.of (e3 _ _ hra), atI_nat (by rfl), ?_⟩
          refine ⟨_, rfl, _, _, rfl, rfl, _, rfl, ?_⟩
          have pA : ¬ isPl k ps[i].2.length → ∀ t, H3 t = none → Q (.ref t) (upd H3 t (.tup [.str "NoArm", .int k])) := fun hn t ht =>
            q _ _ _ (e03.trans (Ext.new ht)) (.arm sub i hi rfl gc' hn) (.tup upd_same (.cons (.str _) (.cons (.int _) .nil)))
          refine ite2 (fun h0 => ?_) (fun h0 => ?_)
          · have h0' : 0 ≤ k := of_decide_eq_true h0
            refine ⟨_, rfl, t2, _, rfl, .inr (SqT.of ht3), _, _, rfl, rfl, _, rfl, ?_⟩
            refine ite2 (fun h1 => ?_) (fun h1 => ?_)
            · have hn : ¬ isPl k ps[i].2.length := fun y => by
                have := y.2
                rw [Bool.not_eq_true', decide_eq_false_iff_not] at h1
                omega
              exact ⟨_, rfl, by show 2 ≤ sizeLine; decide, fun t ht => pA hn t ht⟩
            · obtain ⟨j, rfl⟩ := Int.eq_ofNat_of_zero_le h0'
              have hj : j < ps[i].2.length := by
                rw [Bool.not_eq_true', decide_eq_false_iff_not] at h1
                omega
              refine ⟨_, rfl, _, rfl, fl, _, rfl, .inl (SqL.of hfl), rfl, flat_idx _, _, rfl, ?_⟩
              rw [if_pos rfl, inV_idx]
              by_cases m : j ∈ allowI st (bdOf prs) ps[i]
              · rw [decide_eq_true m]
                refine iteF ?_
                obtain ⟨x2', hx2, dx2⟩ := DqAll_get hys j (armD ps[i].2[j]) (by rw [List.getElem?_map, List.getElem?_eq_getElem hj]; rfl)
                obtain ⟨r, rfl, h1r⟩ := arm_tup (dx2.up e3)
                have stT : SqT K H3 t2 ys := SqT.of ht3
                have D3 := D2.up e3
                refine ⟨_, rfl, _, rfl, t2, ys, _, _, rfl, rfl, stT, atI_nat hx2, _, rfl, r, _, -1, _, rfl, rfl, SqT.of h1r, armVm, ?_⟩
                refine ⟨_, rfl, _, rfl, _, rfl, _, rfl, t2, ys, _, _, rfl, rfl, stT, atI_nat hx2, ?_⟩
                have fin : ∀ (rc : V) (H5 : Hp) (cs : List (Nat × Bool)), Ext H3 H5 → Dq H5 rc (ctD cs) → movD ns st (bdOf prs) ps[i].2[j] = .tuple [.int (ps[i].2[j].2 : Int), ctD cs] →
                    ∀ t3, H5 t3 = none → ∀ t4, upd H5 t3 (.tup [.int (ps[i].2[j].2 : Int), rc]) t4 = none → Q (.ref t4) (upd (upd H5 t3 (.tup [.int (ps[i].2[j].2 : Int), rc])) t4 (.tup [.str "told", .ref t3])) := by
                  intro rc H5 cs e5 hrc em t3 ht3 t4 ht4
                  have x5 := Ext.new (o := .tup [.int (ps[i].2[j].2 : Int), rc]) ht3
                  have x6 := Ext.new (o := .tup [.str "told", .ref t3]) ht4
                  refine q _ _ _ (((e03.trans e5).trans x5).trans x6) (.told sub i hi rfl gc' j hj rfl m) ?_
                  rw [em]
                  exact .tup upd_same (.cons (.str _) (.cons (.tup (x6 _ _ upd_same) (.cons (.int _) (.cons (hrc.up (x5.trans x6)) .nil))) .nil))
                have ga := gp.arms _ (List.getElem_mem hj)
                rcases mem_allow hj m with ho | ho
                · cases hp : ps[i].2[j].1 with
                  | none =>
                    unfold openB at ho
                    rw [hp] at ho
                    cases ho
                  | some p =>
                    have pin : p.2 ∈ ns := gl.lanes _ (List.mem_filterMap.mpr ⟨_, List.getElem_mem hj, by rw [hp]; rfl⟩)
                    obtain ⟨n, hn, en⟩ := List.getElem_of_mem pin
                    unfold openB at ho
                    rw [hp] at ho
                    obtain ⟨s2, hs2⟩ := Option.isSome_iff_exists.mp ho
                    have hw : p.1 ∈ words4 ∧ isNameS p.2 = true := by
                      have := ga.1
                      unfold GArm at this
                      rw [hp] at this
                      exact this
                    have hav : armV ps[i].2[j] = [.str p.1, .str ns[n], .int (ps[i].2[j].2 : Int)] := by
                      rw [en]
                      generalize ps[i].2[j] = a at hp
                      obtain ⟨o, gg⟩ := a
                      cases hp
                      rfl
                    refine .inl ⟨db, r, v, _, prs, ns, st, p.1, n, hn, s2, rfl, D3.hdb, D3.hv, by rw [← hav]; exact h1r, D3.l3, D3.perm, D3.nd, D3.so, hw.1, by rw [en]; exact D3.hst _ pin, by rw [en]; exact hs2, fun rc H5 e5 hrc => ?_⟩
                    refine ⟨by show 2 ≤ sizeLine; decide, fun t3 ht3 => ⟨by show 2 ≤ sizeLine; decide, fun t4 ht4 => ?_⟩⟩
                    exact fin rc H5 _ e5 hrc (by unfold movD; rw [hp]; dsimp only; rw [idx_at D3.nd hn en, hs2]) t3 ht3 t4 ht4
                · have hav : armV ps[i].2[j] = [.str "else", .int (ps[i].2[j].2 : Int)] := by
                    generalize ps[i].2[j] = a at ho
                    obtain ⟨o, gg⟩ := a
                    cases ho
                    rfl
                  refine .inr ⟨db, r, v, _, rfl, by rw [← hav]; exact h1r, ?_⟩
                  refine ⟨by show 2 ≤ sizeLine; decide, fun t3 ht3 => ⟨by show 2 ≤ sizeLine; decide, fun t4 ht4 => ?_⟩⟩
                  exact fin v H3 _ (Ext.refl _) D3.hv (by unfold movD; rw [ho]) t3 ht3 t4 ht4
              · rw [decide_eq_false m]
                refine iteT ?_
                exact ⟨_, rfl, by show 2 ≤ sizeLine; decide, fun t ht => q _ _ _ (e03.trans (Ext.new ht)) (.refused sub i hi rfl gc' j hj rfl m) (.tup upd_same (.cons (.str _) (.cons (.int _) .nil)))⟩
          · refine ⟨_, rfl, ?_⟩
            refine iteT ?_
            have hn : ¬ isPl k ps[i].2.length := fun y => h0 (decide_eq_true y.1)
            exact ⟨_, rfl, by show 2 ≤ sizeLine; decide, fun t ht => pA hn t ht⟩
      · refine ⟨_, rfl, ?_⟩
        refine iteT ?_
        have hn : ¬ isPl z ps.length := fun y => g0 (decide_eq_true y.1)
        exact ⟨_, rfl, by show 2 ≤ sizeLine; decide, fun t ht => pB (Ext.refl _) hn t ht⟩
    · have hne : us.map PyData.str ≠ [] := fun y => ue (List.map_eq_nil_iff.mp y)
      have e3 : (us.map PyData.str).isEmpty = false := by
        cases us with
        | nil => exact absurd rfl ue
        | cons _ _ => rfl
      rw [e3]
      refine iteT ?_
      refine ⟨_, rfl, ul, us, rfl, SqL.of hu2, ue, fun m hm hle => ⟨by show 2 ≤ sizeLine; decide, fun t ht => ?_⟩⟩
      have lo : LeastOut ps ns m := by
        have := out_mem.mp (eu ▸ hm)
        exact ⟨this.1, this.2, fun y hy hn => hle y (by rw [eu]; exact out_mem.mpr ⟨hy, hn⟩)⟩
      exact q _ _ _ (e2.trans (Ext.new ht)) (.lane m lo) (.tup upd_same (.cons (.str _) (.cons (.str _) .nil)))
end
end K25

set_option Elab.async false
set_option linter.all false
set_option maxRecDepth 100000
set_option maxHeartbeats 4000000
namespace K25
open PySem PySem.Spec PyProof.Rows L2 Ol RZ
open TL (tl)
section
variable {P : Program} {w : World} {K : PySem.W.Frag} {mg : Str → Option Value} {base : Heap} {C CP R NL NP NA : Addr}
/-- how the four classes of errors stand to one another -/
structure E4 (K : PySem.W.Frag) (mg : Str → Option Value) (c NL NP NA R : Addr) (b1 b2 b3 b4 : Bool) : Prop where
  bs : ∃ B : Addr, mg "LaneError" = some (.ref B) ∧ PySem.W.exmOne K (.ref c) (.ref B) = some true
  e : ExcC K c
  k1 : PySem.W.kitOne K (.ref c) (.ref NL) = some b1
  k2 : PySem.W.kitOne K (.ref c) (.ref NP) = some b2
  k3 : PySem.W.kitOne K (.ref c) (.ref NA) = some b3
  k4 : PySem.W.kitOne K (.ref c) (.ref R) = some b4
abbrev bls (b1 b2 b3 b4 : Bool) : List V := [.bl b1, .bl b2, .bl b3, .bl b4]
def cnt (b1 b2 b3 b4 : Bool) (k : Nat) : Nat := (([b1, b2, b3, b4].take k).filter fun b => b).length
theorem cnt_step {b1 b2 b3 b4 b : Bool} {k : Nat} (h : [b1, b2, b3, b4][k]? = some b) : cnt b1 b2 b3 b4 (k + 1) = cnt b1 b2 b3 b4 k + (if b = true then 1 else 0) := by
  unfold cnt
  rw [List.take_add_one, h, Option.toList_some, List.filter_append, List.length_append]
  cases b <;> rfl
theorem cnt_le {b1 b2 b3 b4 : Bool} {k : Nat} : cnt b1 b2 b3 b4 k ≤ 4 := by
  unfold cnt
  refine Nat.le_trans (List.length_filter_le ..) ?_
  rw [List.length_take]
  exact Nat.min_le_right _ _
theorem bls_at {b1 b2 b3 b4 : Bool} {k : Nat} {y : V} (h : (bls b1 b2 b3 b4)[k]? = some y) : ∃ b, y = .bl b ∧ [b1, b2, b3, b4][k]? = some b := by
  have e : bls b1 b2 b3 b4 = [b1, b2, b3, b4].map V.bl := rfl
  rw [e, List.getElem?_map] at h
  cases hb : [b1, b2, b3, b4][k]? with
  | none => rw [hb] at h; cases h
  | some b =>
    rw [hb] at h
    cases h
    exact ⟨b, rfl, rfl⟩
theorem takes0N {X : Cx} : L2N.Takes X (fun _ _ _ _ => False) := fun _ _ y => by
  obtain ⟨_, _, _, _, _, _, _, _, _, _, _, _, _, _, _, _, z⟩ := y
  exact z.elim
/-! ### _law_told -/
def spTold (C CP : Addr) : Sp := fun vs H Q _ => ∃ (kind : Str) (lx pr : Addr) (v : V) (ps : List Place) (z k : Int) (ns : List Str) (st : Str → Nat × Bool) (bd : Str → Int), vs = [.str kind, .ref lx, .ref pr, .int z, v, .int k] ∧ Ctx C H lx v ns st bd ∧ ProgAt CP H pr ps ∧
  ∀ (r : V) (H' : Hp) (d : PyData), Ext H H' → Res (decide (V.str kind = V.str "choices")) ns st bd ps z k d → Dq H' r d → Q r H'
abbrev s_told : Stmt := (topS 55)
abbrev nTold : List Str := ["_law_kind", "_law_lanes", "_law_program_here", "_law_place", "_law_content_here", "_law_index", "e", "_law_kinds", "_law_one"]
abbrev pTold : List Str := ["_law_kind", "_law_lanes", "_law_program_here", "_law_place", "_law_content_here", "_law_index"]
theorem sc_told : FnScope nTold pTold (defScope s_told) := ⟨rfl, rfl, rfl, by decide +kernel, rfl, by decide +kernel, by decide +kernel⟩
theorem ok_told {f : Addr} {fd : FuncData} (F : Fun K "_law_told" "_law_told" s_told f fd) (T : BT mg) (TL : XT K mg "NoLane" "lane" NL) (TP : XT K mg "NoPlace" "place" NP) (TA : XT K mg "NoArm" "index" NA) (TR : XT K mg "Refused" "what" R)
    (EL : E4 K mg NL NL NP NA R true false false false) (EP : E4 K mg NP NL NP NA R false true false false) (EA : E4 K mg NA NL NP NA R false false true false) (ER : E4 K mg R NL NP NA R false false false true)
    (CC : CaN P w K mg base 8 "choices" ["lanes", "program", "place", "content"] (spChX C CP NL NP)) (CM : CaN P w K mg base 8 "moved" ["lanes", "program", "place", "content", "index"] (spMvX C CP NL NP NA R)) :
    FnOk P w K mg base CX0 9 f fd pTold (spTold C CP) := by
  obtain ⟨B, gB, tL⟩ := EL.bs
  obtain ⟨fC, fdC, FC, gC, kC, bC⟩ := CC.has
  obtain ⟨fM, fdM, FM, gM, kM, bM⟩ := CM.has
  have hBx : ∀ c b1 b2 b3 b4, E4 K mg c NL NP NA R b1 b2 b3 b4 → PySem.W.exmOne K (.ref c) (.ref B) = some true := fun c b1 b2 b3 b4 h => by
    obtain ⟨B', g', t'⟩ := h.bs
    rw [gB] at g'
    cases g'
    exact t'
  refine F.ok sc_told (fun vs H Q E h => ?_) (fun cdv A outer s H vs Q E hr h => ?_)
  · obtain ⟨kind, lx, pr, v, ps, z, k, ns, st, bd, rfl, _⟩ := h
    rfl
  · obtain ⟨kind, lx, pr, v, ps, z, k, ns, st, bd, rfl, X, hP, q⟩ := h
    refine ⟨_, (pss_one (L2N.ps_try_as (i := 6) (tb := fun W => tSeq (tIfS (tTest (tOp rEq (tVar 0) (tC (.str "choices")))) (tRet (tTup (tCons (tC (.str "told")) (tCons (tCallS (spChX C CP NL NP) (WE W) (tCons (tVar 1) (tCons (tVar 2) (tCons (tVar 3) (tCons (tVar 4) tNil))))) tNil)))) tNext) (tRet (tTup (tCons (tC (.str "told")) (tCons (tCallS (spMvX C CP NL NP NA R) (WE W) (tCons (tVar 1) (tCons (tVar 2) (tCons (tVar 3) (tCons (tVar 4) (tCons (tVar 5) tNil)))))) tNil)))))
        (ts := fun a cls d => (tSeq (tAsg (tLst (tCons (tCB (rIsX K a cls d) (tCons (tVar 6) (tCons (tC (.ref NL)) tNil))) (tCons (tCB (rIsX K a cls d) (tCons (tVar 6) (tCons (tC (.ref NP)) tNil))) (tCons (tCB (rIsX K a cls d) (tCons (tVar 6) (tCons (tC (.ref NA)) tNil))) (tCons (tCB (rIsX K a cls d) (tCons (tVar 6) (tCons (tC (.ref R)) tNil))) tNil))))) (gName 7)) (tSeq (tIfS (tTest (tOp rNe (tCB (fun xs H Q => ∃ p ys, xs = [V.ref p] ∧ (SqL K H p ys ∨ SqT K H p ys) ∧ Q (V.int ys.length) H) (tCons (tLc (iList K (tVar 7)) (gName 8) (tB (tVar 8)) (tVar 8) [8]) tNil)) (tC (.int 1)))) (tRet (tTup (tCons (tC (.str "other")) (tCons (tC (.int 0)) tNil)))) tNext) (tSeq (tIfS (tB (tOp (rIxL K) (tVar 7) (tC (.int 0)))) (tRet (tTup (tCons (tC (.str "NoLane")) (tCons (tXf a cls d NL "lane" (tVar 6)) tNil)))) tNext) (tSeq (tIfS (tB (tOp (rIxL K) (tVar 7) (tC (.int 1)))) (tRet (tTup (tCons (tC (.str "NoPlace")) (tCons (tXf a cls d NP "place" (tVar 6)) tNil)))) tNext) (tRet (tIf (tB (tOp (rIxL K) (tVar 7) (tC (.int 2)))) (tTup (tCons (tC (.str "NoArm")) (tCons (tXf a cls d NA "index" (tVar 6)) tNil))) (tTup (tCons (tC (.str "Refused")) (tCons (tXf a cls d R "what" (tVar 6)) tNil)))))))))) (Wout := fun _ _ _ _ => False) rfl rfl sc_told.nd rfl rfl ⟨rfl, by decide, Or.inl gB⟩ takes0N
      (fun W pn xe tk _ => pss_cons (ps_if (pt_cmpR op_eq (pv 0) pe_str (nomark _)) (pss_one (ps_ret (pe_tup (pa_cons pe_str (pa_cons (by exact (pe_callS FC (hr.mono (by decide)) (by rfl) gC kC bC (fun σ => passAtN tk σ) (pa_cons (pv 1) (pa_cons (pv 2) (pa_cons (pv 3) (pa_cons (pv 4) pa_nil)))))) pa_nil))))) pss_nil)
        (pss_one (ps_ret (pe_tup (pa_cons pe_str (pa_cons (by exact (pe_callS FM (hr.mono (by decide)) (by rfl) gM kM bM (fun σ => passAtN tk σ) (pa_cons (pv 1) (pa_cons (pv 2) (pa_cons (pv 3) (pa_cons (pv 4) (pa_cons (pv 5) pa_nil))))))) pa_nil))))))
      (fun a oe cls d pn hz hf => pss_cons (ps_set (i := 7) sc_told.nd rfl (.inl rfl) (pe_lst (pa_cons (pe_callB (call_isX hz.zc hf) (by rfl) T.n_isinstance (by decide +kernel) (pa_cons (pv 6) (pa_cons (pe_glob (v := .ref NL) rfl TL.g rfl) pa_nil))) (pa_cons (pe_callB (call_isX hz.zc hf) (by rfl) T.n_isinstance (by decide +kernel) (pa_cons (pv 6) (pa_cons (pe_glob (v := .ref NP) rfl TP.g rfl) pa_nil))) (pa_cons (pe_callB (call_isX hz.zc hf) (by rfl) T.n_isinstance (by decide +kernel) (pa_cons (pv 6) (pa_cons (pe_glob (v := .ref NA) rfl TA.g rfl) pa_nil))) (pa_cons (pe_callB (call_isX hz.zc hf) (by rfl) T.n_isinstance (by decide +kernel) (pa_cons (pv 6) (pa_cons (pe_glob (v := .ref R) rfl TR.g rfl) pa_nil))) pa_nil))))))
        (pss_cons (ps_if (pt_cmpR op_ne (pe_callB call_len_seq (by rfl) T.n_len (by decide +kernel) (pa_cons (pe_lcH (own := [("_law_one", 8)]) (g := gName 8) (tt := tB (tVar 8)) (te := tVar 8) (hot_suite hz hf) sc_told.nd (pv 7) (blkOk_by (N := nTold) (sc := defScope s_told) (by decide +kernel)) (fun _ _ _ _ _ => pg_name (i := 8) sc_told.nd rfl (.inl rfl)) (fun _ _ _ _ _ => pts_one (pt_val (pv 8))) (fun _ _ _ _ _ => pv 8)) pa_nil)) pe_int (nomark _))
          (pss_one (ps_ret (pe_tup (pa_cons pe_str (pa_cons pe_int pa_nil))))) pss_nil)
        (pss_cons (ps_if (pt_val (pe_ix ix_list (pv 7) pe_int (fun _ _ => rfl))) (pss_one (ps_ret (pe_tup (pa_cons pe_str (pa_cons (by exact (pe_xf TL.xf TL.nF hz.zc hf (pv 6))) pa_nil))))) pss_nil)
        (pss_cons (ps_if (pt_val (pe_ix ix_list (pv 7) pe_int (fun _ _ => rfl))) (pss_one (ps_ret (pe_tup (pa_cons pe_str (pa_cons (by exact (pe_xf TP.xf TP.nF hz.zc hf (pv 6))) pa_nil))))) pss_nil)
        (pss_one (ps_ret (pe_ifExp (pt_val (pe_ix ix_list (pv 7) pe_int (fun _ _ => rfl))) (pe_tup (pa_cons pe_str (pa_cons (by exact (pe_xf TA.xf TA.nF hz.zc hf (pv 6))) pa_nil))) (pe_tup (pa_cons pe_str (pa_cons (by exact (pe_xf TR.xf TR.nF hz.zc hf (pv 6))) pa_nil)))))))))))), ?_⟩
    refine ⟨_, rfl, rfl, _, rfl, ?_⟩
    have qL : ∀ (m : Str), LeastOut ps ns m → ∀ H1, Ext H H1 → ∀ (r : V) (H2 : Hp), Ext H1 H2 → Dq H2 r (.tuple [.str "NoLane", .str m]) → Q r H2 := fun m lo H1 e1 r H2 e2 hr => q r H2 _ (e1.trans e2) (.lane m lo) hr
    have qP : (∀ x ∈ lanesP ps, x ∈ ns) → ¬ isPl z ps.length → ∀ H1, Ext H H1 → ∀ (r : V) (H2 : Hp), Ext H1 H2 → Dq H2 r (.tuple [.str "NoPlace", .int z]) → Q r H2 := fun sub hn H1 e1 r H2 e2 hr => q r H2 _ (e1.trans e2) (.place sub hn) hr
    refine ite2 (fun gc => ?_) (fun gc => ?_)
    · refine ⟨_, rfl, _, rfl, _, rfl, _, rfl, lx, pr, v, ps, z, ns, st, bd, rfl, X, hP, fun m lo d H1 e1 hd => ?_, fun sub => ⟨fun i hi ez l H1 nl e1 hl => ?_, fun hn d H1 e1 hd => ?_⟩⟩
      · refine ⟨true, hBx _ _ _ _ _ EL, fun _ a ha => ?_, fun z => Bool.noConfusion z⟩
        refine ⟨_, rfl, NL, NL, d, _, true, rfl, rfl, EL.e, rfl, hd, EL.k1, ?_⟩
        refine ⟨_, rfl, NL, NP, d, _, false, rfl, rfl, EL.e, rfl, hd, EL.k2, ?_⟩
        refine ⟨_, rfl, NL, NA, d, _, false, rfl, rfl, EL.e, rfl, hd, EL.k3, ?_⟩
        refine ⟨_, rfl, NL, R, d, _, false, rfl, rfl, EL.e, rfl, hd, EL.k4, ?_⟩
        refine ⟨by show 4 ≤ sizeLine; decide, fun kl hkl => ?_⟩
        have x2 := Ext.new (o := .lst (bls true false false false)) hkl
        have y2 : upd H1 kl (.lst (bls true false false false)) kl = some (.lst (bls true false false false)) := upd_same
        generalize upd H1 kl _ = H2 at x2 y2 ⊢
        refine ⟨_, rfl, kl, rfl, ⟨_, SqL.of y2⟩, fun D hD => ?_⟩
        refine lc1_acc (walk_list (xs := bls true false false false)) (fun k zs _ => zs.length = cnt true false false false k) (fun _ _ _ _ _ h => h) rfl hD (fun k zs _ h => by rw [h]; exact Nat.lt_of_le_of_lt cnt_le (by decide)) (fun H2 y => SqL.of (y _ _ y2)) ?_ ?_
        · rintro k y Hi H2 zs hk y1 hy ⟨rfl, hyk⟩ hz QY QN kY kN
          obtain ⟨b, rfl, hb⟩ := bls_at hyk
          refine ⟨rfl, ?_⟩
          refine ⟨_, rfl, b, rfl, ?_⟩
          refine ite2 (fun g => ?_) (fun g => ?_)
          · refine ⟨_, rfl, kY _ _ (Ext.refl _) ?_⟩
            rw [List.length_append, List.length_singleton, hz, cnt_step hb, if_pos g]
          · refine kN _ (Ext.refl _) ?_
            rw [hz, cnt_step hb, if_neg g, Nat.add_zero]
        rintro H3 zs e3 h3 hz
        have hz1 : zs.length = 1 := hz
        refine ⟨D, _, rfl, .inl (SqL.of h3), rfl, _, rfl, ?_⟩
        rw [hz1]
        refine ite2 (fun g => absurd g (by decide)) (fun _ => ?_)
        refine ⟨_, rfl, kl, _, 0, .bl true, rfl, rfl, SqL.of (e3 _ _ y2), by rfl, _, rfl, ?_⟩
        refine iteT ?_
        refine ⟨_, rfl, rfl, rfl, d, _, _, rfl, (x2.trans e3) _ _ hd, x1_at _ _, by show 2 ≤ sizeLine; decide, fun t ht => ?_⟩
        exact qL m lo H1 e1 _ _ ((x2.trans e3).trans (Ext.new ht)) (.tup upd_same (.cons (.str _) (.cons (.str _) .nil)))
      · refine ⟨by show 2 ≤ sizeLine; decide, fun t ht => ?_⟩
        have x2 := Ext.new (o := .tup [.str "told", .ref l]) ht
        exact q _ _ _ (e1.trans x2) (.all sub i hi ez gc) (.tup upd_same (.cons (.str _) (.cons (.lst (x2 _ _ hl) (dq_ints _ _)) .nil)))
      · refine ⟨true, hBx _ _ _ _ _ EP, fun _ a ha => ?_, fun z => Bool.noConfusion z⟩
        refine ⟨_, rfl, NP, NL, d, _, false, rfl, rfl, EP.e, rfl, hd, EP.k1, ?_⟩
        refine ⟨_, rfl, NP, NP, d, _, true, rfl, rfl, EP.e, rfl, hd, EP.k2, ?_⟩
        refine ⟨_, rfl, NP, NA, d, _, false, rfl, rfl, EP.e, rfl, hd, EP.k3, ?_⟩
        refine ⟨_, rfl, NP, R, d, _, false, rfl, rfl, EP.e, rfl, hd, EP.k4, ?_⟩
        refine ⟨by show 4 ≤ sizeLine; decide, fun kl hkl => ?_⟩
        have x2 := Ext.new (o := .lst (bls false true false false)) hkl
        have y2 : upd H1 kl (.lst (bls false true false false)) kl = some (.lst (bls false true false false)) := upd_same
        generalize upd H1 kl _ = H2 at x2 y2 ⊢
        refine ⟨_, rfl, kl, rfl, ⟨_, SqL.of y2⟩, fun D hD => ?_⟩
        refine lc1_acc (walk_list (xs := bls false true false false)) (fun k zs _ => zs.length = cnt false true false false k) (fun _ _ _ _ _ h => h) rfl hD (fun k zs _ h => by rw [h]; exact Nat.lt_of_le_of_lt cnt_le (by decide)) (fun H2 y => SqL.of (y _ _ y2)) ?_ ?_
        · rintro k y Hi H2 zs hk y1 hy ⟨rfl, hyk⟩ hz QY QN kY kN
          obtain ⟨b, rfl, hb⟩ := bls_at hyk
          refine ⟨rfl, ?_⟩
          refine ⟨_, rfl, b, rfl, ?_⟩
          refine ite2 (fun g => ?_) (fun g => ?_)
          · refine ⟨_, rfl, kY _ _ (Ext.refl _) ?_⟩
            rw [List.length_append, List.length_singleton, hz, cnt_step hb, if_pos g]
          · refine kN _ (Ext.refl _) ?_
            rw [hz, cnt_step hb, if_neg g, Nat.add_zero]
        rintro H3 zs e3 h3 hz
        have hz1 : zs.length = 1 := hz
        refine ⟨D, _, rfl, .inl (SqL.of h3), rfl, _, rfl, ?_⟩
        rw [hz1]
        refine ite2 (fun g => absurd g (by decide)) (fun _ => ?_)
        refine ⟨_, rfl, kl, _, 0, .bl false, rfl, rfl, SqL.of (e3 _ _ y2), by rfl, _, rfl, ?_⟩
        refine iteF ?_
        refine ⟨_, rfl, kl, _, 1, .bl true, rfl, rfl, SqL.of (e3 _ _ y2), by rfl, _, rfl, ?_⟩
        refine iteT ?_
        refine ⟨_, rfl, rfl, rfl, d, _, _, rfl, (x2.trans e3) _ _ hd, x1_at _ _, by show 2 ≤ sizeLine; decide, fun t ht => ?_⟩
        exact qP sub hn H1 e1 _ _ ((x2.trans e3).trans (Ext.new ht)) (.tup upd_same (.cons (.str _) (.cons (.int _) .nil)))
    · have gc' := Bool.eq_false_iff.mpr gc
      refine ⟨_, rfl, _, rfl, _, rfl, _, rfl, _, rfl, lx, pr, v, ps, z, k, ns, st, bd, rfl, X, hP, fun m lo d H1 e1 hd => ?_, fun sub => ⟨fun hn d H1 e1 hd => ?_, fun i hi ez hn d H1 e1 hd => ?_, fun i hi j hj ez ek => ⟨fun m r H1 e1 hr1 => ?_, fun m d H1 e1 hd => ?_⟩⟩⟩
      · refine ⟨true, hBx _ _ _ _ _ EL, fun _ a ha => ?_, fun z => Bool.noConfusion z⟩
        refine ⟨_, rfl, NL, NL, d, _, true, rfl, rfl, EL.e, rfl, hd, EL.k1, ?_⟩
        refine ⟨_, rfl, NL, NP, d, _, false, rfl, rfl, EL.e, rfl, hd, EL.k2, ?_⟩
        refine ⟨_, rfl, NL, NA, d, _, false, rfl, rfl, EL.e, rfl, hd, EL.k3, ?_⟩
        refine ⟨_, rfl, NL, R, d, _, false, rfl, rfl, EL.e, rfl, hd, EL.k4, ?_⟩
        refine ⟨by show 4 ≤ sizeLine; decide, fun kl hkl => ?_⟩
        have x2 := Ext.new (o := .lst (bls true false false false)) hkl
        have y2 : upd H1 kl (.lst (bls true false false false)) kl = some (.lst (bls true false false false)) := upd_same
        generalize upd H1 kl _ = H2 at x2 y2 ⊢
        refine ⟨_, rfl, kl, rfl, ⟨_, SqL.of y2⟩, fun D hD => ?_⟩
        refine lc1_acc (walk_list (xs := bls true false false false)) (fun k zs _ => zs.length = cnt true false false false k) (fun _ _ _ _ _ h => h) rfl hD (fun k zs _ h => by rw [h]; exact Nat.lt_of_le_of_lt cnt_le (by decide)) (fun H2 y => SqL.of (y _ _ y2)) ?_ ?_
        · rintro k y Hi H2 zs hk y1 hy ⟨rfl, hyk⟩ hz QY QN kY kN
          obtain ⟨b, rfl, hb⟩ := bls_at hyk
          refine ⟨rfl, ?_⟩
          refine ⟨_, rfl, b, rfl, ?_⟩
          refine ite2 (fun g => ?_) (fun g => ?_)
          · refine ⟨_, rfl, kY _ _ (Ext.refl _) ?_⟩
            rw [List.length_append, List.length_singleton, hz, cnt_step hb, if_pos g]
          · refine kN _ (Ext.refl _) ?_
            rw [hz, cnt_step hb, if_neg g, Nat.add_zero]
        rintro H3 zs e3 h3 hz
        have hz1 : zs.length = 1 := hz
        refine ⟨D, _, rfl, .inl (SqL.of h3), rfl, _, rfl, ?_⟩
        rw [hz1]
        refine ite2 (fun g => absurd g (by decide)) (fun _ => ?_)
        refine ⟨_, rfl, kl, _, 0, .bl true, rfl, rfl, SqL.of (e3 _ _ y2), by rfl, _, rfl, ?_⟩
        refine iteT ?_
        refine ⟨_, rfl, rfl, rfl, d, _, _, rfl, (x2.trans e3) _ _ hd, x1_at _ _, by show 2 ≤ sizeLine; decide, fun t ht => ?_⟩
        exact qL m lo H1 e1 _ _ ((x2.trans e3).trans (Ext.new ht)) (.tup upd_same (.cons (.str _) (.cons (.str _) .nil)))
      · refine ⟨true, hBx _ _ _ _ _ EP, fun _ a ha => ?_, fun z => Bool.noConfusion z⟩
        refine ⟨_, rfl, NP, NL, d, _, false, rfl, rfl, EP.e, rfl, hd, EP.k1, ?_⟩
        refine ⟨_, rfl, NP, NP, d, _, true, rfl, rfl, EP.e, rfl, hd, EP.k2, ?_⟩
        refine ⟨_, rfl, NP, NA, d, _, false, rfl, rfl, EP.e, rfl, hd, EP.k3, ?_⟩
        refine ⟨_, rfl, NP, R, d, _, false, rfl, rfl, EP.e, rfl, hd, EP.k4, ?_⟩
        refine ⟨by show 4 ≤ sizeLine; decide, fun kl hkl => ?_⟩
        have x2 := Ext.new (o := .lst (bls false true false false)) hkl
        have y2 : upd H1 kl (.lst (bls false true false false)) kl = some (.lst (bls false true false false)) := upd_same
        generalize upd H1 kl _ = H2 at x2 y2 ⊢
        refine ⟨_, rfl, kl, rfl, ⟨_, SqL.of y2⟩, fun D hD => ?_⟩
        refine lc1_acc (walk_list (xs := bls false true false false)) (fun k zs _ => zs.length = cnt false true false false k) (fun _ _ _ _ _ h => h) rfl hD (fun k zs _ h => by rw [h]; exact Nat.lt_of_le_of_lt cnt_le (by decide)) (fun H2 y => SqL.of (y _ _ y2)) ?_ ?_
        · rintro k y Hi H2 zs hk y1 hy ⟨rfl, hyk⟩ hz QY QN kY kN
          obtain ⟨b, rfl, hb⟩ := bls_at hyk
          refine ⟨rfl, ?_⟩
          refine ⟨_, rfl, b, rfl, ?_⟩
          refine ite2 (fun g => ?_) (fun g => ?_)
          · refine ⟨_, rfl, kY _ _ (Ext.refl _) ?_⟩
            rw [List.length_append, List.length_singleton, hz, cnt_step hb, if_pos g]
          · refine kN _ (Ext.refl _) ?_
            rw [hz, cnt_step hb, if_neg g, Nat.add_zero]
        rintro H3 zs e3 h3 hz
        have hz1 : zs.length = 1 := hz
        refine ⟨D, _, rfl, .inl (SqL.of h3), rfl, _, rfl, ?_⟩
        rw [hz1]
        refine ite2 (fun g => absurd g (by decide)) (fun _ => ?_)
        refine ⟨_, rfl, kl, _, 0, .bl false, rfl, rfl, SqL.of (e3 _ _ y2), by rfl, _, rfl, ?_⟩
        refine iteF ?_
        refine ⟨_, rfl, kl, _, 1, .bl true, rfl, rfl, SqL.of (e3 _ _ y2), by rfl, _, rfl, ?_⟩
        refine iteT ?_
        refine ⟨_, rfl, rfl, rfl, d, _, _, rfl, (x2.trans e3) _ _ hd, x1_at _ _, by show 2 ≤ sizeLine; decide, fun t ht => ?_⟩
        exact qP sub hn H1 e1 _ _ ((x2.trans e3).trans (Ext.new ht)) (.tup upd_same (.cons (.str _) (.cons (.int _) .nil)))
      · have qA : ∀ (r : V) (H2 : Hp), Ext H1 H2 → Dq H2 r (.tuple [.str "NoArm", .int k]) → Q r H2 := fun r H2 e2 hr => q r H2 _ (e1.trans e2) (.arm sub i hi ez gc' hn) hr
        refine ⟨true, hBx _ _ _ _ _ EA, fun _ a ha => ?_, fun z => Bool.noConfusion z⟩
        refine ⟨_, rfl, NA, NL, d, _, false, rfl, rfl, EA.e, rfl, hd, EA.k1, ?_⟩
        refine ⟨_, rfl, NA, NP, d, _, false, rfl, rfl, EA.e, rfl, hd, EA.k2, ?_⟩
        refine ⟨_, rfl, NA, NA, d, _, true, rfl, rfl, EA.e, rfl, hd, EA.k3, ?_⟩
        refine ⟨_, rfl, NA, R, d, _, false, rfl, rfl, EA.e, rfl, hd, EA.k4, ?_⟩
        refine ⟨by show 4 ≤ sizeLine; decide, fun kl hkl => ?_⟩
        have x2 := Ext.new (o := .lst (bls false false true false)) hkl
        have y2 : upd H1 kl (.lst (bls false false true false)) kl = some (.lst (bls false false true false)) := upd_same
        generalize upd H1 kl _ = H2 at x2 y2 ⊢
        refine ⟨_, rfl, kl, rfl, ⟨_, SqL.of y2⟩, fun D hD => ?_⟩
        refine lc1_acc (walk_list (xs := bls false false true false)) (fun k zs _ => zs.length = cnt false false true false k) (fun _ _ _ _ _ h => h) rfl hD (fun k zs _ h => by rw [h]; exact Nat.lt_of_le_of_lt cnt_le (by decide)) (fun H2 y => SqL.of (y _ _ y2)) ?_ ?_
        · rintro k y Hi H2 zs hk y1 hy ⟨rfl, hyk⟩ hz QY QN kY kN
          obtain ⟨b, rfl, hb⟩ := bls_at hyk
          refine ⟨rfl, ?_⟩
          refine ⟨_, rfl, b, rfl, ?_⟩
          refine ite2 (fun g => ?_) (fun g => ?_)
          · refine ⟨_, rfl, kY _ _ (Ext.refl _) ?_⟩
            rw [List.length_append, List.length_singleton, hz, cnt_step hb, if_pos g]
          · refine kN _ (Ext.refl _) ?_
            rw [hz, cnt_step hb, if_neg g, Nat.add_zero]
        rintro H3 zs e3 h3 hz
        have hz1 : zs.length = 1 := hz
        refine ⟨D, _, rfl, .inl (SqL.of h3), rfl, _, rfl, ?_⟩
        rw [hz1]
        refine ite2 (fun g => absurd g (by decide)) (fun _ => ?_)
        refine ⟨_, rfl, kl, _, 0, .bl false, rfl, rfl, SqL.of (e3 _ _ y2), by rfl, _, rfl, ?_⟩
        refine iteF ?_
        refine ⟨_, rfl, kl, _, 1, .bl false, rfl, rfl, SqL.of (e3 _ _ y2), by rfl, _, rfl, ?_⟩
        refine iteF ?_
        refine ⟨_, rfl, kl, _, 2, .bl true, rfl, rfl, SqL.of (e3 _ _ y2), by rfl, _, rfl, ?_⟩
        refine iteT ?_
        refine ⟨_, rfl, rfl, rfl, d, _, _, rfl, (x2.trans e3) _ _ hd, x1_at _ _, by show 2 ≤ sizeLine; decide, fun t ht => ?_⟩
        exact qA _ _ ((x2.trans e3).trans (Ext.new ht)) (.tup upd_same (.cons (.str _) (.cons (.int _) .nil)))
      · refine ⟨by show 2 ≤ sizeLine; decide, fun t ht => ?_⟩
        have x2 := Ext.new (o := .tup [.str "told", r]) ht
        exact q _ _ _ (e1.trans x2) (.told sub i hi ez gc' j hj ek m) (.tup upd_same (.cons (.str _) (.cons (hr1.up x2) .nil)))
      · have qR : ∀ (r : V) (H2 : Hp), Ext H1 H2 → Dq H2 r (.tuple [.str "Refused", .int k]) → Q r H2 := fun r H2 e2 hr => q r H2 _ (e1.trans e2) (.refused sub i hi ez gc' j hj ek m) hr
        refine ⟨true, hBx _ _ _ _ _ ER, fun _ a ha => ?_, fun z => Bool.noConfusion z⟩
        refine ⟨_, rfl, R, NL, d, _, false, rfl, rfl, ER.e, rfl, hd, ER.k1, ?_⟩
        refine ⟨_, rfl, R, NP, d, _, false, rfl, rfl, ER.e, rfl, hd, ER.k2, ?_⟩
        refine ⟨_, rfl, R, NA, d, _, false, rfl, rfl, ER.e, rfl, hd, ER.k3, ?_⟩
        refine ⟨_, rfl, R, R, d, _, true, rfl, rfl, ER.e, rfl, hd, ER.k4, ?_⟩
        refine ⟨by show 4 ≤ sizeLine; decide, fun kl hkl => ?_⟩
        have x2 := Ext.new (o := .lst (bls false false false true)) hkl
        have y2 : upd H1 kl (.lst (bls false false false true)) kl = some (.lst (bls false false false true)) := upd_same
        generalize upd H1 kl _ = H2 at x2 y2 ⊢
        refine ⟨_, rfl, kl, rfl, ⟨_, SqL.of y2⟩, fun D hD => ?_⟩
        refine lc1_acc (walk_list (xs := bls false false false true)) (fun k zs _ => zs.length = cnt false false false true k) (fun _ _ _ _ _ h => h) rfl hD (fun k zs _ h => by rw [h]; exact Nat.lt_of_le_of_lt cnt_le (by decide)) (fun H2 y => SqL.of (y _ _ y2)) ?_ ?_
        · rintro k y Hi H2 zs hk y1 hy ⟨rfl, hyk⟩ hz QY QN kY kN
          obtain ⟨b, rfl, hb⟩ := bls_at hyk
          refine ⟨rfl, ?_⟩
          refine ⟨_, rfl, b, rfl, ?_⟩
          refine ite2 (fun g => ?_) (fun g => ?_)
          · refine ⟨_, rfl, kY _ _ (Ext.refl _) ?_⟩
            rw [List.length_append, List.length_singleton, hz, cnt_step hb, if_pos g]
          · refine kN _ (Ext.refl _) ?_
            rw [hz, cnt_step hb, if_neg g, Nat.add_zero]
        rintro H3 zs e3 h3 hz
        have hz1 : zs.length = 1 := hz
        refine ⟨D, _, rfl, .inl (SqL.of h3), rfl, _, rfl, ?_⟩
        rw [hz1]
        refine ite2 (fun g => absurd g (by decide)) (fun _ => ?_)
        refine ⟨_, rfl, kl, _, 0, .bl false, rfl, rfl, SqL.of (e3 _ _ y2), by rfl, _, rfl, ?_⟩
        refine iteF ?_
        refine ⟨_, rfl, kl, _, 1, .bl false, rfl, rfl, SqL.of (e3 _ _ y2), by rfl, _, rfl, ?_⟩
        refine iteF ?_
        refine ⟨_, rfl, kl, _, 2, .bl false, rfl, rfl, SqL.of (e3 _ _ y2), by rfl, _, rfl, ?_⟩
        refine iteF ?_
        refine ⟨_, rfl, rfl, rfl, d, _, _, rfl, (x2.trans e3) _ _ hd, x1_at _ _, by show 2 ≤ sizeLine; decide, fun t ht => ?_⟩
        exact qR _ _ ((x2.trans e3).trans (Ext.new ht)) (.tup upd_same (.cons (.str _) (.cons (.int _) .nil)))
end
end K25

set_option Elab.async false
set_option linter.all false
set_option maxRecDepth 100000
set_option maxHeartbeats 4000000
namespace K25
open PySem PySem.Spec PyProof.Rows L2 Ol RZ
open TL (tl)
theorem allow_mem {st : Str → Nat × Bool} {bd : Str → Int} {p : Place} : ∀ i ∈ allowI st bd p, i < p.2.length := fun i hi => by
  have h1 : i ∈ openI st bd p.2 := by
    unfold allowI at hi
    split at hi
    · exact List.mem_of_mem_take hi
    · exact hi
  unfold openI at h1
  split at h1 <;> exact idx_small (Nat.le_refl _) i h1

theorem idxs_le (q : Arm → Bool) (as : List Arm) : (idxs q as).length ≤ as.length := by
  rw [idxs_len]
  exact List.length_filter_le ..
theorem allow_len {st : Str → Nat × Bool} {bd : Str → Int} {p : Place} : (allowI st bd p).length ≤ p.2.length := by
  have h : (openI st bd p.2).length ≤ p.2.length := by
    unfold openI
    split <;> exact idxs_le _ _
  unfold allowI
  split
  · exact Nat.le_trans (by rw [List.length_take]; omega) h
  · exact h

theorem mov_cs {ns : List Str} {st : Str → Nat × Bool} {bd : Str → Int} {a : Arm} (hst : ∀ x ∈ ns, ((st x).1 : Int) ≤ bd x) (hbd : ∀ x ∈ ns, bd x ≤ 3) :
    ∃ cs, movD ns st bd a = .tuple [.int (a.2 : Int), ctD cs] ∧ cs.length = ns.length ∧ ∀ s ∈ cs, s.1 ≤ 3 := by
  have base : ∀ s ∈ ns.map st, s.1 ≤ 3 := fun s hs => by
    obtain ⟨x, hx, rfl⟩ := List.mem_map.mp hs
    have := hst x hx
    have := hbd x hx
    omega
  unfold movD
  cases ho : a.1 with
  | none => exact ⟨_, rfl, by rw [List.length_map], base⟩
  | some p =>
    dsimp only
    cases hf : ns.findIdx? (fun x => decide (x = p.2)) with
    | none => exact ⟨_, rfl, by rw [List.length_map], base⟩
    | some j =>
      cases hb : beh p.1 (st p.2).1 (st p.2).2 (bd p.2) with
      | none => exact ⟨_, rfl, by rw [List.length_map], base⟩
      | some s2 =>
        refine ⟨_, rfl, by rw [List.length_set, List.length_map], fun s hs => ?_⟩
        obtain ⟨hj, e, _⟩ := List.findIdx?_eq_some_iff_getElem.mp hf
        have em : p.2 ∈ ns := by
          have := of_decide_eq_true e
          exact this ▸ List.getElem_mem hj
        rcases List.mem_or_eq_of_mem_set hs with h1 | rfl
        · exact base s h1
        · have := (beh_counts (hst _ em) hb).2.2
          have := hbd _ em
          omega

theorem res_ok {ch : Bool} {ns : List Str} {st : Str → Nat × Bool} {bd : Str → Int} {ps : List Place} {z k : Int} {d : PyData} (h : Res ch ns st bd ps z k d) (ok : Pls ps) (few : ∀ q ∈ ps, q.2.length ≤ 3) (hl : ns.length ≤ 3) (hst : ∀ x ∈ ns, ((st x).1 : Int) ≤ bd x) (hbd : ∀ x ∈ ns, bd x ≤ 3)
    (gz : Gd 0 (.int z)) (gk : Gd 0 (.int k)) : Fits d ∧ SeqAt.shaped d = true := by
  have two : ∀ (t : Str) (e : PyData), Gd 0 (.str t) → PyData.strOk t = true → Gd 0 e → e.canLay0 = true → Fits (.tuple [.str t, e]) ∧ SeqAt.shaped (.tuple [.str t, e]) = true := fun t e gt lt ge le => by
    have g : Gd 1 (.tuple [.str t, e]) := by
      refine gd_tuple (fun d hd => ?_) (by simp)
      simp only [List.mem_cons, List.not_mem_nil, or_false] at hd
      rcases hd with rfl | rfl
      · exact gt
      · exact ge
    refine ⟨g.fits (by decide), lay_shaped ?_ (Nat.le_trans g.dep (by decide))⟩
    simp only [PyData.canLay0, PyData.canLayAll0, Bool.and_true, Bool.and_eq_true]
    exact ⟨lt, le⟩
  have li : ∀ i : Int, (PyData.int i).canLay0 = true := fun i => by simp [PyData.canLay0]
  cases h with
  | lane m lo =>
    have hm := lane_name ok m lo.mem
    exact two _ _ (gd_str _ (by decide +kernel) (by decide +kernel)) (by decide +kernel) (name_gd hm) (by rw [PyData.canLay0]; exact name_ok hm)
  | place _ _ => exact two _ _ (gd_str _ (by decide +kernel) (by decide +kernel)) (by decide +kernel) gz (li _)
  | arm => exact two _ _ (gd_str _ (by decide +kernel) (by decide +kernel)) (by decide +kernel) gk (li _)
  | refused => exact two _ _ (gd_str _ (by decide +kernel) (by decide +kernel)) (by decide +kernel) gk (li _)
  | all sub i hi ez c =>
    have fw := few _ (List.getElem_mem hi)
    have al := allow_len (st := st) (bd := bd) (p := ps[i])
    have am := allow_mem (st := st) (bd := bd) (p := ps[i])
    have g1 : Gd 1 (.list ((allowI st bd ps[i]).map fun i : Nat => PyData.int (i : Int))) := gd_list (fun d hd => by
      obtain ⟨j, hj, rfl⟩ := List.mem_map.mp hd
      exact gd_nat5 (by have := am j hj; omega)) (by rw [List.length_map]; omega)
    have g : Gd 2 (.tuple [.str "told", .list ((allowI st bd ps[i]).map fun i : Nat => PyData.int (i : Int))]) := by
      refine gd_tuple (fun d hd => ?_) (by simp)
      simp only [List.mem_cons, List.not_mem_nil, or_false] at hd
      rcases hd with rfl | rfl
      · exact (gd_str _ (by decide +kernel) (by decide +kernel)).up (by decide)
      · exact g1
    refine ⟨g.fits (by decide), lay_shaped ?_ (Nat.le_trans g.dep (by decide))⟩
    simp only [PyData.canLay0, PyData.canLayAll0, Bool.and_true, Bool.and_eq_true]
    refine ⟨by decide +kernel, lay_all fun d hd => ?_⟩
    obtain ⟨j, hj, rfl⟩ := List.mem_map.mp hd
    exact li _
  | told sub i hi ez c j hj ek m =>
    have gl := (ok.ok _ (List.getElem_mem hi)).arms _ (List.getElem_mem hj)
    have p6 := ok.few
    obtain ⟨cs, e, h1, h2⟩ := mov_cs (a := ps[i].2[j]) hst hbd
    rw [e]
    have g3 : Gd 3 (.tuple [.int (ps[i].2[j].2 : Int), ctD cs]) := by
      refine gd_tuple (fun d hd => ?_) (by simp)
      simp only [List.mem_cons, List.not_mem_nil, or_false] at hd
      rcases hd with rfl | rfl
      · exact (gd_nat5 (by have := gl.2; omega)).up (by decide)
      · exact gd_ct cs (by omega) h2
    have g : Gd 4 (.tuple [.str "told", .tuple [.int (ps[i].2[j].2 : Int), ctD cs]]) := by
      refine gd_tuple (fun d hd => ?_) (by simp)
      simp only [List.mem_cons, List.not_mem_nil, or_false] at hd
      rcases hd with rfl | rfl
      · exact (gd_str _ (by decide +kernel) (by decide +kernel)).up (by decide)
      · exact g3
    refine ⟨g.fits (by decide), lay_shaped ?_ (Nat.le_trans g.dep (by decide))⟩
    simp only [PyData.canLay0, PyData.canLayAll0, Bool.and_true, Bool.and_eq_true, Bool.true_and]
    exact ⟨by decide +kernel, lay_ct cs⟩
abbrev c6V : List V := [.int 1, .int 2, .int 3, .int 3, .int 2, .int 3]
theorem c6 {i : Nat} (h : i < 6) : ∃ m : Nat, c6V[i]? = some (.int (m : Int)) ∧ 1 ≤ m ∧ m ≤ 3 := by
  have : i = 0 ∨ i = 1 ∨ i = 2 ∨ i = 3 ∨ i = 4 ∨ i = 5 := by omega
  rcases this with rfl | rfl | rfl | rfl | rfl | rfl
  · exact ⟨1, rfl, by decide, by decide⟩
  · exact ⟨2, rfl, by decide, by decide⟩
  · exact ⟨3, rfl, by decide, by decide⟩
  · exact ⟨3, rfl, by decide, by decide⟩
  · exact ⟨2, rfl, by decide, by decide⟩
  · exact ⟨3, rfl, by decide, by decide⟩
/-- one of four numbers -/
theorem of4 {r l j : Int} (r0 : 0 ≤ r) (r5 : r ≤ 5) (l0 : 0 ≤ l) (l5 : l ≤ 6) (j0 : 0 ≤ j) (j3 : j ≤ 3) : ∃ z, atI [V.int r, V.int (-1), V.int l, V.int (10 ^ (39 : Int).toNat)] j = some (.int z) ∧ Gd 0 (.int z) := by
  have : j = 0 ∨ j = 1 ∨ j = 2 ∨ j = 3 := by omega
  rcases this with rfl | rfl | rfl | rfl
  · obtain ⟨n, rfl⟩ := Int.eq_ofNat_of_zero_le r0
    exact ⟨_, rfl, gd_nat5 (by omega)⟩
  · exact ⟨_, rfl, gd_int _ (by decide +kernel) (by decide +kernel)⟩
  · obtain ⟨n, rfl⟩ := Int.eq_ofNat_of_zero_le l0
    exact ⟨_, rfl, gd_nat5 (by omega)⟩
  · exact ⟨_, rfl, gd_int _ (by decide +kernel) (by decide +kernel)⟩
section
variable {P : Program} {w : World} {K : PySem.W.Frag} {mg : Str → Option Value} {base : Heap} {C CP : Addr}
abbrev s_law : Stmt := (topS 57)
abbrev nLaw : List Str := ["_law_script", "_law_bag_here", "_law_turn", "_law_names_here", "_law_bounds_here", "_law_lanes", "_law_used", "_law_places", "_law_program_here", "_law_again", "_law_place", "_law_index", "_law_content_here", "_law_kind", "_law_told_here"]
theorem sc_law : FnScope nLaw ["_law_script"] (defScope s_law) := ⟨rfl, rfl, rfl, by decide +kernel, rfl, by decide +kernel, by decide +kernel⟩
def spLaw (K : PySem.W.Frag) : Sp := fun vs H Q _ => ∃ (a : Addr) (ns : List Int), vs = [.ref a] ∧ Sys H ∧ SqL K H a (ns.map V.int) ∧ ns.length ≤ 63 ∧ ∀ H', Q (.bl true) H'
/-- Lanes made, a Program made -/
structure MkL (P : Program) (w : World) (K : PySem.W.Frag) (mg : Str → Option Value) (base : Heap) (C : Addr) : Prop where
  has : ∃ (f : Addr) (fd : FuncData), FnOk P w K mg base CX0 4 f fd ["self", "bounds"] (spInit C) ∧ Mk K C f ∧ Binds K fd ["self", "bounds"] []
structure MkP (P : Program) (w : World) (K : PySem.W.Frag) (mg : Str → Option Value) (base : Heap) (C : Addr) : Prop where
  has : ∃ (f : Addr) (fd : FuncData), FnOk P w K mg base CX0 7 f fd ["self", "places"] (spProg C) ∧ Mk K C f ∧ Binds K fd ["self", "places"] []
/-- Lanes of names, with their dict -/
structure Md (C : Addr) (H : Hp) (lx db : Addr) (ps : List (Str × Int)) (ns : List Str) : Prop where
  hL : LanesAt C H lx ns (ns.map (bdOf ps))
  hdb : H db = some (.dK (kvI ps))
  l3 : ps.length ≤ 3
  nd : ns.Nodup
  perm : ns.Perm (ps.map (·.1))
  so : sortedS ns = true
  bd : ∀ x ∈ ns, 1 ≤ bdOf ps x ∧ bdOf ps x ≤ 3
  ne : 1 ≤ ns.length
  nm : ∀ x ∈ ns, isNameS x = true
theorem Md.up {H H' : Hp} {lx db : Addr} {ps : List (Str × Int)} {ns : List Str} (e : Ext H H') (h : Md C H lx db ps ns) : Md C H' lx db ps ns :=
  ⟨h.hL.up e, e _ _ h.hdb, h.l3, h.nd, h.perm, h.so, h.bd, h.ne, h.nm⟩
theorem ok_law {f : Addr} {fd : FuncData} (F : Fun K "law" "law" s_law f fd) (T : BT mg) (n_max : mg "max" = none) (L : LT K mg C) (LP : PT K mg CP)
    (CB : Ca P w K mg base 1 "_law_bag" ["_law_script"] (spBag K)) (CT : Ca P w K mg base 1 "_law_take" ["_law_bag_here", "_law_many"] spTake)
    (CN : Ca P w K mg base 2 "_law_names" ["_law_bag_here", "_law_many"] spNames) (CMx : Ca P w K mg base 2 "_law_mixed" ["_law_bag_here", "_law_things"] spMixed) (CBo : Ca P w K mg base 2 "_law_bounds" ["_law_bag_here", "_law_names_here", "_law_greatest"] spBounds)
    (CPr : Ca P w K mg base 3 "_law_program" ["_law_bag_here", "_law_names_here", "_law_places"] spLProg) (CCt : Ca P w K mg base 3 "_law_content" ["_law_bag_here", "_law_bounds_here"] spLContent)
    (CTo : Ca P w K mg base 9 "_law_told" pTold (spTold C CP)) (CDu : Ca P w K mg base 3 "_law_due" pDue spDue) (CA : Cg P w K mg base 1 "_law_alike" ["_law_found", "_law_due_here"] spAlike) (ML : MkL P w K mg base C) (MP : MkP P w K mg base CP) :
    FnG P w K mg base 10 f fd ["_law_script"] (spLaw K) := by
  obtain ⟨fI, fdI, FI, mk, bI⟩ := ML.has
  obtain ⟨fP, fdP, FP, mkP, bP⟩ := MP.has
  refine okG F sc_law (fun vs H Q E h => ?_) (fun cdv A outer s H vs Q E hG hr h => ?_)
  · obtain ⟨a, ns, rfl, _⟩ := h
    rfl
  · obtain ⟨a, zs, rfl, hS, hs, hl, q⟩ := h
    refine ⟨_, (pss_cons (ps_set (i := 1) sc_law.nd rfl (.inl rfl) (pe_ca CB (hr.mono (by decide)) (by rfl) (pa_cons (pv 0) pa_nil)))
    (pss_cons (ps_for PassesOwn.never rfl (pi_range1 (by rfl) T.n_range (pa_cons pe_int pa_nil)) (pg_name (i := 2) sc_law.nd rfl (.inl rfl))
      (pss_cons (ps_set (i := 3) sc_law.nd rfl (.inl rfl) (pe_ca CN (hr.mono (by decide)) (by rfl) (pa_cons (pv 1) (pa_cons pe_int pa_nil))))
      (pss_cons (ps_set (i := 4) sc_law.nd rfl (.inl rfl) (pe_ca CBo (hr.mono (by decide)) (by rfl) (pa_cons (pv 1) (pa_cons (pe_slice sl_list (pe_ca CMx (hr.mono (by decide)) (by rfl) (pa_cons (pv 1) (pa_cons (pv 3) pa_nil))) po_none (po_some (pe_ix ix_list (pe_lst (pa_cons pe_int (pa_cons pe_int (pa_cons pe_int (pa_cons pe_int (pa_cons pe_int (pa_cons pe_int pa_nil))))))) (pe_ca CT (hr.mono (by decide)) (by rfl) (pa_cons (pv 1) (pa_cons pe_int pa_nil))) (fun _ _ => rfl)))) (pa_cons pe_int pa_nil)))))
      (pss_cons (ps_par (i := 5) (j := 6) rfl sc_law.nd rfl rfl (by decide) rfl rfl (pa_cons (pe_make mk FI (hr.mono (by decide)) (by rfl) L.gC bI .nil pass0 (pa_cons (pv 4) pa_nil)) (pa_cons (pe_ifExp (pt_cmpR op_eq (pe_ca CT (hr.mono (by decide)) (by rfl) (pa_cons (pv 1) (pa_cons pe_int pa_nil))) pe_int (nomark _)) (pv 3) (pe_callB (call_sortedD rfl) (by rfl) T.n_sorted (by decide +kernel) (pa_cons (pv 4) pa_nil))) pa_nil)) (by rfl))
      (pss_cons (ps_set (i := 7) sc_law.nd rfl (.inl rfl) (pe_ca CPr (hr.mono (by decide)) (by rfl) (pa_cons (pv 1) (pa_cons (pv 6) (pa_cons (pe_op op_add pe_int (pe_ca CT (hr.mono (by decide)) (by rfl) (pa_cons (pv 1) (pa_cons pe_int pa_nil)))) pa_nil)))))
      (pss_cons (ps_set (i := 8) sc_law.nd rfl (.inl rfl) (pe_make mkP FP (hr.mono (by decide)) (by rfl) LP.gC bP .nil pass0 (pa_cons (pv 7) pa_nil)))
      (pss_one (ps_for PassesOwn.never rfl (pi_range1 (by rfl) T.n_range (pa_cons pe_int pa_nil)) (pg_name (i := 9) sc_law.nd rfl (.inl rfl))
        (pss_cons (ps_set (i := 10) sc_law.nd rfl (.inl rfl) (pe_ix ix_list (pe_lst (pa_cons (pe_ca CT (hr.mono (by decide)) (by rfl) (pa_cons (pv 1) (pa_cons (pe_callB call_len_seq (by rfl) T.n_len (by decide +kernel) (pa_cons (pv 7) pa_nil)) pa_nil))) (pa_cons (pe_un un_neg pe_int) (pa_cons (pe_callB call_len_seq (by rfl) T.n_len (by decide +kernel) (pa_cons (pv 7) pa_nil)) (pa_cons (pe_op op_pow pe_int pe_int) pa_nil))))) (pe_callB (call_max2 rfl) (by rfl) n_max (by decide +kernel) (pa_cons pe_int (pa_cons (pe_op op_sub (pe_ca CT (hr.mono (by decide)) (by rfl) (pa_cons (pv 1) (pa_cons pe_int pa_nil))) pe_int) pa_nil))) (fun _ _ => rfl)))
        (pss_cons (ps_set (i := 11) sc_law.nd rfl (.inl rfl) (pe_ix ix_list (pe_lst (pa_cons (pe_ca CT (hr.mono (by decide)) (by rfl) (pa_cons (pv 1) (pa_cons pe_int pa_nil))) (pa_cons (pe_un un_neg pe_int) (pa_cons pe_int (pa_cons (pe_op op_pow pe_int pe_int) pa_nil))))) (pe_callB (call_max2 rfl) (by rfl) n_max (by decide +kernel) (pa_cons pe_int (pa_cons (pe_op op_sub (pe_ca CT (hr.mono (by decide)) (by rfl) (pa_cons (pv 1) (pa_cons pe_int pa_nil))) pe_int) pa_nil))) (fun _ _ => rfl)))
        (pss_cons (ps_set (i := 12) sc_law.nd rfl (.inl rfl) (pe_ca CCt (hr.mono (by decide)) (by rfl) (pa_cons (pv 1) (pa_cons (pv 4) pa_nil))))
        (pss_one (ps_for PassesOwn.never rfl (pi_tup (pe_tup (pa_cons pe_str (pa_cons pe_str (pa_cons pe_str pa_nil))))) (pg_name (i := 13) sc_law.nd rfl (.inl rfl))
          (pss_cons (ps_set (i := 14) sc_law.nd rfl (.inl rfl) (pe_ca CTo (hr.mono (by decide)) (by rfl) (pa_cons (pv 13) (pa_cons (pv 5) (pa_cons (pv 8) (pa_cons (pv 10) (pa_cons (pv 12) (pa_cons (pv 11) pa_nil))))))))
          (pss_one (ps_if (pt_not (pt_val (pe_cg CA hG (hr.mono (by decide)) (by rfl) (pa_cons (pv 14) (pa_cons (pe_ca CDu (hr.mono (by decide)) (by rfl) (pa_cons (pv 13) (pa_cons (pv 4) (pa_cons (pv 7) (pa_cons (pv 10) (pa_cons (pv 12) (pa_cons (pv 11) pa_nil))))))) pa_nil)))))
            (pss_one (ps_ret pe_bl))
            pss_nil))))))))))))))))
    (pss_one (ps_ret pe_bl)))), ?_⟩
    refine ⟨_, rfl, a, zs, rfl, hs, by omega, fun p H1 e1 hb => ?_⟩
    have S1 := sysUp hS e1
    refine ⟨_, rfl, by decide, by decide, for_range (n := 5) (fun i σ H' => ∃ s2 s3 s4 s5 s6 s7 s8 s9 s10 s11 s12 s13 s14, σ = [some (.ref a), some (.ref p), s2, s3, s4, s5, s6, s7, s8, s9, s10, s11, s12, s13, s14] ∧ Ext H1 H')
      ⟨none, none, none, none, none, none, none, none, none, none, none, none, none, rfl, Ext.refl _⟩ ?_ ?_⟩
    · rintro i σ H' hi ⟨s2, s3, s4, s5, s6, s7, s8, s9, s10, s11, s12, s13, s14, rfl, e⟩
      have hbE := hb.up e
      refine ⟨_, rfl, p, 3, rfl, hbE, by decide, by decide, fun an ys H2 e2 nan han nys => ?_⟩
      have ly : ys.length = 3 := nys.len
      have hb2 := hbE.up e2
      refine ⟨_, rfl, _, rfl, _, rfl, p, an, ys, rfl, hb2, han, by omega, fun m qs H3 nm e3 hm hperm => ?_⟩
      have hb3 := hb2.up e3
      have lq : qs.length = 3 := by rw [hperm.length_eq, ly]
      refine ⟨by show 6 ≤ sizeLine; decide, fun l hl2 => ?_⟩
      have x4 := Ext.new (o := .lst c6V) hl2
      have y4 : upd H3 l (.lst c6V) l = some (.lst c6V) := upd_same
      generalize upd H3 l _ = H4 at x4 y4 ⊢
      refine ⟨_, rfl, p, 6, rfl, hb3.up x4, by decide, by decide, fun r r0 r1 => ?_⟩
      obtain ⟨rn, rfl⟩ := Int.eq_ofNat_of_zero_le r0
      obtain ⟨c, hc, c1, c3⟩ := c6 (i := rn) (by omega)
      refine ⟨l, _, (rn : Int), .int (c : Int), rfl, rfl, SqL.of y4, atI_nat hc, _, rfl, m, _, rfl, SqL.of (x4 _ _ hm), fun l2 hl5 => ?_⟩
      rw [cut_take, ← List.map_take]
      have x5 := Ext.new (o := .lst ((qs.take c).map V.str)) hl5
      have y5 : upd H4 l2 (.lst ((qs.take c).map V.str)) l2 = some (.lst ((qs.take c).map V.str)) := upd_same
      generalize upd H4 l2 _ = H5 at x5 y5 ⊢
      have e25 := (e3.trans x4).trans x5
      have hb5 := hb2.up e25
      have qn : ∀ x ∈ qs.take c, isNameS x = true := fun x hx => nys.ok x (hperm.mem_iff.mp (List.mem_of_mem_take hx))
      have qnd : (qs.take c).Nodup := List.Nodup.sublist (List.take_sublist _ _) (hperm.nodup_iff.mpr nys.nd)
      have ql : (qs.take c).length = c := by rw [List.length_take]; omega
      generalize qs.take c = rs at y5 qn qnd ql
      refine ⟨p, l2, rs, 2, rfl, by decide, by decide, hb5, y5, qnd, by omega, fun db H6 ps ndb e6 hdb hps hpb => ?_⟩
      have lps : ps.length = rs.length := by rw [← hps, List.length_map]
      have pne : ps ≠ [] := fun z => by rw [z] at lps; simp at lps; omega
      dsimp only [gName]
      refine cutN (fun σ' H' => ∃ (lx ul : Addr) (us ns : List Str), σ' = [some (.ref a), some (.ref p), some (.int (0 + (i : Int))), some (.ref an), some (.ref db), some (.ref lx), some (.ref ul), s7, s8, s9, s10, s11, s12, s13, s14] ∧ Ext H6 H' ∧ Md C H' lx db ps ns ∧ H' ul = some (.lst (us.map V.str)) ∧ 1 ≤ us.length ∧ us.length ≤ 3 ∧ ∀ x ∈ us, isNameS x = true) (fun W hW => ?_) ?_
      · refine ⟨_, rfl, fun lx dx nlx ndx nex => ?_⟩
        have eo := (Ext.new (o := .own lx) ndx)
        refine ⟨H6, lx, dx, db, ps, rfl, nlx, Ext.mut eo nlx, upd_same, hdb, pne, by omega, fun z hz => ⟨qn _ (by rw [← hps]; exact List.mem_map_of_mem hz), (hpb z hz).1⟩, by rw [hps]; exact qnd, fun H7 ns e7 hpm hso hL => ⟨rfl, ?_⟩⟩
        have hnp : ns.Perm rs := by rw [← hps]; exact hpm
        have M : Md C H7 lx db ps ns := by
          refine ⟨hL, e7 _ _ hdb, by omega, hnp.nodup_iff.mpr qnd, hpm, hso, fun x hx => ?_, by rw [hnp.length_eq]; omega, fun x hx => qn x (hnp.mem_iff.mp hx)⟩
          obtain ⟨r, h1, _, er⟩ := bd_mem (ps := ps) (x := x) (hpm.mem_iff.mp hx)
          rw [← er]
          exact hpb r h1
        have hb7 := (hb5.up e6).up e7
        refine ⟨_, rfl, p, 2, rfl, hb7, by decide, by decide, fun r _ _ => ?_⟩
        refine ⟨rfl, _, rfl, ?_⟩
        refine ite2 (fun _ => ?_) (fun _ => ?_)
        · refine ⟨_, rfl, _, _, rfl, hW _ _ ⟨lx, an, ys, ns, rfl, e7, M, ((e25.trans e6).trans e7) _ _ han, by omega, by omega, nys.ok⟩⟩
        · refine ⟨_, rfl, db, _, _, rfl, Rd.of M.hdb, kvI_keys ps, (by rw [List.length_map]; omega), fun zs l3 hpm2 hso2 hl3 => ⟨_, _, rfl, ?_⟩⟩
          have x8 := Ext.new (o := .lst (zs.map V.str)) hl3
          have zp : zs.Perm rs := by rw [← hps]; exact hpm2
          exact hW _ _ ⟨lx, l3, zs, ns, rfl, e7.trans x8, M.up x8, upd_same, by rw [zp.length_eq]; omega, by rw [zp.length_eq]; omega, fun x hx => qn x (zp.mem_iff.mp hx)⟩
      rintro σ' H7 ⟨lx, ul, us, ns, rfl, e7, M, hul, u1, u3, hun⟩
      have e17 : Ext H1 H7 := ((e.trans e2).trans e25).trans (e6.trans e7)
      have hb7 := hb.up e17
      refine ⟨_, rfl, _, rfl, _, rfl, p, 4, rfl, hb7, by decide, by decide, fun r5 r50 r51 => ⟨_, _, rfl, rfl, ?_⟩⟩
      obtain ⟨pn, rfl⟩ := Int.eq_ofNat_of_zero_le r50
      refine ⟨p, ul, us, 1 + pn, by rw [Int.natCast_add]; rfl, sysUp S1 e17, hb7, hul, u1, u3, hun, by omega, by omega, fun fl xs qs8 H8 nfl e8 hfl hxs hlen hgl => ?_⟩
      have hxs8 := DqAll.up del_ext hxs
      have pls : Pls qs8 := ⟨fun z => by rw [z] at hlen; exact absurd hlen (by show ¬ 0 = _; omega), by omega, fun q hq => by rw [hlen]; exact (hgl q hq).place⟩
      refine ⟨_, rfl, fun pr dx npr ndx nex => ?_⟩
      have eo2 := (Ext.new (o := .own pr) ndx)
      refine ⟨H8, pr, dx, fl, xs, qs8, rfl, npr, Ext.mut eo2 npr, upd_same, hfl, hxs8, pls, fun H9 e9 hPr => ⟨rfl, ?_⟩⟩
      have e79 := e8.trans e9
      have e19 := e17.trans e79
      have M9 := M.up e79
      have hb9 := hb7.up e79
      have S9 := sysUp S1 e19
      have hfl9 := e9 _ _ hfl
      have hxs9 := DqAll.up e9 hxs8
      have lxs : xs.length = qs8.length := by rw [hxs8.len, List.length_map]
      have nl3 : ns.length ≤ 3 := by rw [M.perm.length_eq, List.length_map]; exact M.l3
      have few : ∀ q ∈ qs8, q.2.length ≤ 3 := fun q hq => (hgl q hq).few
      refine ⟨_, rfl, by decide, by decide, for_range (n := 6) (fun m σ H' => ∃ s9 s10 s11 s12 s13 s14, σ = [some (.ref a), some (.ref p), some (.int (0 + (i : Int))), some (.ref an), some (.ref db), some (.ref lx), some (.ref ul), some (.ref fl), some (.ref pr), s9, s10, s11, s12, s13, s14] ∧ Ext H9 H')
        ⟨_, _, _, _, _, _, rfl, Ext.refl _⟩ ?_ ?_⟩
      · rintro m σ H10 hm ⟨s9, s10, s11, s12, s13, s14, rfl, e10⟩
        have hb10 := hb9.up e10
        have hfl10 := e10 _ _ hfl9
        have l5 : xs.length ≤ 5 := by omega
        have l1 : 1 ≤ xs.length := by omega
        refine ⟨_, rfl, _, rfl, fl, _, rfl, .inl (SqL.of hfl10), p, _, rfl, hb10, by omega, by omega, fun r r0 r1 => ?_⟩
        refine ⟨_, rfl, _, rfl, fl, _, rfl, .inl (SqL.of hfl10), _, _, rfl, rfl, ⟨by decide, by decide, by decide⟩, by show 4 ≤ sizeLine; decide, fun l hl4 => ?_⟩
        have x11 := Ext.new (o := .lst [V.int r, V.int (-1), V.int (xs.length : Int), V.int (10 ^ (39 : Int).toNat)]) hl4
        have y11 : upd H10 l (.lst [V.int r, V.int (-1), V.int (xs.length : Int), V.int (10 ^ (39 : Int).toNat)]) l = some (.lst [V.int r, V.int (-1), V.int (xs.length : Int), V.int (10 ^ (39 : Int).toNat)]) := upd_same
        generalize upd H10 l _ = H11 at x11 y11 ⊢
        refine ⟨_, rfl, p, 8, rfl, hb10.up x11, by decide, by decide, fun j j0 j1 => ⟨_, _, rfl, rfl, _, _, rfl, ?_⟩⟩
        obtain ⟨z, hz, gz⟩ := of4 (r := r) (l := (xs.length : Int)) (j := if j - 4 > 0 then j - 4 else 0) r0 (by omega) (by omega) (by omega) (by split <;> omega) (by split <;> omega)
        refine ⟨l, _, _, .int z, rfl, rfl, SqL.of y11, hz, ?_⟩
        clear hz y11 r0 r1
        refine ⟨_, rfl, p, 3, rfl, hb10.up x11, by decide, by decide, fun r r0 r1 => ?_⟩
        refine ⟨_, rfl, _, _, rfl, rfl, ⟨by decide, by decide, by decide⟩, by show 4 ≤ sizeLine; decide, fun l hl4 => ?_⟩
        have x12 := Ext.new (o := .lst [V.int r, V.int (-1), V.int 3, V.int (10 ^ (39 : Int).toNat)]) hl4
        have y12 : upd H11 l (.lst [V.int r, V.int (-1), V.int 3, V.int (10 ^ (39 : Int).toNat)]) l = some (.lst [V.int r, V.int (-1), V.int 3, V.int (10 ^ (39 : Int).toNat)]) := upd_same
        generalize upd H11 l _ = H12 at x12 y12 ⊢
        have e12 := (e10.trans x11).trans x12
        refine ⟨_, rfl, p, 8, rfl, hb9.up e12, by decide, by decide, fun j j0 j1 => ⟨_, _, rfl, rfl, _, _, rfl, ?_⟩⟩
        obtain ⟨k, hk, gk⟩ := of4 (r := r) (l := 3) (j := if j - 4 > 0 then j - 4 else 0) r0 (by omega) (by decide) (by decide) (by split <;> omega) (by split <;> omega)
        refine ⟨l, _, _, .int k, rfl, rfl, SqL.of y12, hk, ?_⟩
        clear hk y12 r0 r1
        have M12 := M9.up e12
        refine ⟨_, rfl, _, rfl, p, db, ps, ns, rfl, hb9.up e12, M12.hdb, M12.l3, M12.perm, M12.nd, M12.so, M12.bd, fun v H13 st e13 hv le => ?_⟩
        refine ⟨by show 3 ≤ sizeLine; decide, fun t0 ht0 => ⟨t0, rfl, ⟨_, SqT.of upd_same⟩, ?_⟩⟩
        have x14 := Ext.new (o := .tup [V.str "choices", V.str "moved", V.str "choices"]) ht0
        have y14 : upd H13 t0 (.tup [V.str "choices", V.str "moved", V.str "choices"]) t0 = some (.tup [V.str "choices", V.str "moved", V.str "choices"]) := upd_same
        generalize upd H13 t0 _ = H14 at x14 y14 ⊢
        have e914 : Ext H9 H14 := (e12.trans e13).trans x14
        have M14 := M9.up e914
        have hv14 := hv.up x14
        have D14 : DuP H14 db fl v ps ns st xs qs8 := ⟨sysUp S9 e914, M14.hdb, M14.l3, M14.perm, M14.nd, M14.so, hv14, e914 _ _ hfl9, DqAll.up e914 hxs9, pls, few, le⟩
        refine for_tup (xs := [V.str "choices", V.str "moved", V.str "choices"]) (fun n σ H' => ∃ s13 s14, σ = [some (.ref a), some (.ref p), some (.int (0 + (i : Int))), some (.ref an), some (.ref db), some (.ref lx), some (.ref ul), some (.ref fl), some (.ref pr), some (.int (0 + (m : Int))), some (.int z), some (.int k), some v, s13, s14] ∧ Ext H14 H')
          ⟨_, _, rfl, Ext.refl _⟩ (fun n σ H' _ ⟨_, _, _, e⟩ => SqT.of (e _ _ y14)) ?_ ?_
        · rintro n x σ H15 hx ⟨s13, s14, rfl, e15⟩
          obtain ⟨kind, rfl⟩ : ∃ kind : Str, x = .str kind := by
            match n, hx with
            | 0, hx => cases hx; exact ⟨_, rfl⟩
            | 1, hx => cases hx; exact ⟨_, rfl⟩
            | 2, hx => cases hx; exact ⟨_, rfl⟩
            | n + 3, hx => simp at hx
          have M15 := M14.up e15
          refine ⟨_, rfl, _, rfl, _, rfl, _, rfl, _, rfl, _, rfl, kind, lx, pr, v, qs8, z, k, ns, st, bdOf ps, rfl, ⟨M15.hL, hv14.up e15⟩, hPr.up (e914.trans e15), fun rv H16 d e16 hres hr => ?_⟩
          have D16 := D14.up (e15.trans e16)
          have ok := res_ok hres pls few nl3 le (fun x hx => (M15.bd x hx).2) gz gk
          refine ⟨_, rfl, _, rfl, _, rfl, _, rfl, _, rfl, _, rfl, _, rfl, kind, db, fl, v, ps, ns, st, xs, qs8, z, k, rfl, D16, fun rv2 H17 d2 e17' hres2 hr2 => ?_⟩
          obtain rfl : d2 = d := hres2.one hres
          refine ⟨rv, rv2, d2, rfl, (D16.up e17').sy, hr.up e17', hr2, ok.2, ok.1, fun H18 e18 => ⟨_, rfl, ?_⟩⟩
          refine iteF ?_
          exact ⟨_, _, rfl, ((e15.trans e16).trans e17').trans e18⟩
        · rintro σ H15 ⟨s13, s14, rfl, e15⟩
          exact ⟨_, _, _, _, _, _, rfl, e914.trans e15⟩
      · rintro σ H10 ⟨s9, s10, s11, s12, s13, s14, rfl, e10⟩
        exact ⟨_, _, _, _, _, _, _, _, _, _, _, _, _, rfl, e19.trans e10⟩
    · rintro σ H' ⟨s2, s3, s4, s5, s6, s7, s8, s9, s10, s11, s12, s13, s14, rfl, e⟩
      exact q _
end
end K25

set_option Elab.async false
set_option linter.all false
set_option maxRecDepth 100000
set_option maxHeartbeats 4000000
namespace K25
open PySem PySem.Spec PyProof.Rows L2 Ol
theorem good_arm {vs : List V} {H : Hp} {Q : VK} {E : XK} (h : spGood GA vs H Q E) : spPred OkT isArmD vs H Q E := by
  obtain ⟨v, d, e, hd, ⟨a, ga, rfl⟩, q⟩ := h
  obtain ⟨h1, h2⟩ := isArm_of ga
  exact ⟨v, _, e, hd, h2, fun H2 e2 => by rw [h1]; exact q H2 e2⟩
theorem all_mk {l : PySem.W.OpenLaw} {w : World} {K : PySem.W.Frag} {h : Heap} {mg : Str → Option Value} {fa C CP R NL NP NA B : Addr} (X : K.In h) (G : h.Ns mainGlobals mg) (hfa : mg "law" = some (.ref fa))
    {f0 : Addr} {od0 an0 : Option Addr} {sl0 : Array (Option Value)} {oc0 kV0 dc0 pm0 cd0 ct0 : Value}
    (a0 : PySem.W.nsIn K mainGlobals "is_integer" = some (some (.ref f0)))
    (l0 : K.lookup f0 = some ⟨oc0, od0, .func (PySem.W.fnOf "is_integer" "is_integer" (defArgs s_is_integer) (defBody s_is_integer) (defScope s_is_integer) .none kV0 dc0 pm0 an0 cd0 ct0), sl0⟩)
    (c0 : PySem.W.codeIn K cd0 "is_integer" = true) (k0 : PySem.W.keepIn K (.ref f0) = true)
    {f1 : Addr} {od1 an1 : Option Addr} {sl1 : Array (Option Value)} {oc1 kV1 dc1 pm1 cd1 ct1 : Value}
    (a1 : PySem.W.nsIn K mainGlobals "is_number" = some (some (.ref f1)))
    (l1 : K.lookup f1 = some ⟨oc1, od1, .func (PySem.W.fnOf "is_number" "is_number" (defArgs s_is_number) (defBody s_is_number) (defScope s_is_number) .none kV1 dc1 pm1 an1 cd1 ct1), sl1⟩)
    (c1 : PySem.W.codeIn K cd1 "is_number" = true) (k1 : PySem.W.keepIn K (.ref f1) = true)
    {f2 : Addr} {od2 an2 : Option Addr} {sl2 : Array (Option Value)} {oc2 kV2 dc2 pm2 cd2 ct2 : Value}
    (a2 : PySem.W.nsIn K mainGlobals "is_name" = some (some (.ref f2)))
    (l2 : K.lookup f2 = some ⟨oc2, od2, .func (PySem.W.fnOf "is_name" "is_name" (defArgs s_is_name) (defBody s_is_name) (defScope s_is_name) .none kV2 dc2 pm2 an2 cd2 ct2), sl2⟩)
    (c2 : PySem.W.codeIn K cd2 "is_name" = true) (k2 : PySem.W.keepIn K (.ref f2) = true)
    {f3 : Addr} {od3 an3 : Option Addr} {sl3 : Array (Option Value)} {oc3 kV3 dc3 pm3 cd3 ct3 : Value}
    (a3 : PySem.W.nsIn K mainGlobals "is_word" = some (some (.ref f3)))
    (l3 : K.lookup f3 = some ⟨oc3, od3, .func (PySem.W.fnOf "is_word" "is_word" (defArgs s_is_word) (defBody s_is_word) (defScope s_is_word) .none kV3 dc3 pm3 an3 cd3 ct3), sl3⟩)
    (c3 : PySem.W.codeIn K cd3 "is_word" = true) (k3 : PySem.W.keepIn K (.ref f3) = true)
    {f4 : Addr} {od4 an4 : Option Addr} {sl4 : Array (Option Value)} {oc4 kV4 dc4 pm4 cd4 ct4 : Value}
    (a4 : PySem.W.nsIn K mainGlobals "is_mode" = some (some (.ref f4)))
    (l4 : K.lookup f4 = some ⟨oc4, od4, .func (PySem.W.fnOf "is_mode" "is_mode" (defArgs s_mode) (defBody s_mode) (defScope s_mode) .none kV4 dc4 pm4 an4 cd4 ct4), sl4⟩)
    (c4 : PySem.W.codeIn K cd4 "is_mode" = true) (k4 : PySem.W.keepIn K (.ref f4) = true)
    {f5 : Addr} {od5 an5 : Option Addr} {sl5 : Array (Option Value)} {oc5 kV5 dc5 pm5 cd5 ct5 : Value}
    (a5 : PySem.W.nsIn K mainGlobals "is_arm" = some (some (.ref f5)))
    (l5 : K.lookup f5 = some ⟨oc5, od5, .func (PySem.W.fnOf "is_arm" "is_arm" (defArgs s_is_arm) (defBody s_is_arm) (defScope s_is_arm) .none kV5 dc5 pm5 an5 cd5 ct5), sl5⟩)
    (c5 : PySem.W.codeIn K cd5 "is_arm" = true) (k5 : PySem.W.keepIn K (.ref f5) = true)
    {f6 : Addr} {od6 an6 : Option Addr} {sl6 : Array (Option Value)} {oc6 kV6 dc6 pm6 cd6 ct6 : Value}
    (a6 : PySem.W.nsIn K mainGlobals "is_row_of" = some (some (.ref f6)))
    (l6 : K.lookup f6 = some ⟨oc6, od6, .func (PySem.W.fnOf "is_row_of" "is_row_of" (defArgs s_row) (defBody s_row) (defScope s_row) .none kV6 dc6 pm6 an6 cd6 ct6), sl6⟩)
    (c6 : PySem.W.codeIn K cd6 "is_row_of" = true) (k6 : PySem.W.keepIn K (.ref f6) = true)
    {f7 : Addr} {od7 an7 : Option Addr} {sl7 : Array (Option Value)} {oc7 kV7 dc7 pm7 cd7 ct7 : Value}
    (a7 : PySem.W.nsIn K mainGlobals "state_behind" = some (some (.ref f7)))
    (l7 : K.lookup f7 = some ⟨oc7, od7, .func (PySem.W.fnOf "state_behind" "state_behind" (defArgs s_state_behind) (defBody s_state_behind) (defScope s_state_behind) .none kV7 dc7 pm7 an7 cd7 ct7), sl7⟩)
    (c7 : PySem.W.codeIn K cd7 "state_behind" = true) (k7 : PySem.W.keepIn K (.ref f7) = true)
    {f8 : Addr} {od8 an8 : Option Addr} {sl8 : Array (Option Value)} {oc8 kV8 dc8 pm8 cd8 ct8 : Value}
    (a8 : PySem.W.nsIn K mainGlobals "replaced" = some (some (.ref f8)))
    (l8 : K.lookup f8 = some ⟨oc8, od8, .func (PySem.W.fnOf "replaced" "replaced" (defArgs s_replaced) (defBody s_replaced) (defScope s_replaced) .none kV8 dc8 pm8 an8 cd8 ct8), sl8⟩)
    (c8 : PySem.W.codeIn K cd8 "replaced" = true) (k8 : PySem.W.keepIn K (.ref f8) = true)
    {f9 : Addr} {od9 an9 : Option Addr} {sl9 : Array (Option Value)} {oc9 kV9 dc9 pm9 cd9 ct9 : Value}
    (a9 : PySem.W.nsIn K mainGlobals "is_place" = some (some (.ref f9)))
    (l9 : K.lookup f9 = some ⟨oc9, od9, .func (PySem.W.fnOf "is_place" "is_place" (defArgs s_place) (defBody s_place) (defScope s_place) .none kV9 dc9 pm9 an9 cd9 ct9), sl9⟩)
    (c9 : PySem.W.codeIn K cd9 "is_place" = true) (k9 : PySem.W.keepIn K (.ref f9) = true)
    {f10 : Addr} {od10 an10 : Option Addr} {sl10 : Array (Option Value)} {oc10 kV10 dc10 pm10 cd10 ct10 : Value}
    (a10 : PySem.W.nsIn K mainGlobals "is_else" = some (some (.ref f10)))
    (l10 : K.lookup f10 = some ⟨oc10, od10, .func (PySem.W.fnOf "is_else" "is_else" (defArgs s_else) (defBody s_else) (defScope s_else) .none kV10 dc10 pm10 an10 cd10 ct10), sl10⟩)
    (c10 : PySem.W.codeIn K cd10 "is_else" = true) (k10 : PySem.W.keepIn K (.ref f10) = true)
    {f11 : Addr} {od11 an11 : Option Addr} {sl11 : Array (Option Value)} {oc11 kV11 dc11 pm11 cd11 ct11 : Value}
    (a11 : PySem.W.nsIn K mainGlobals "check_lanes" = some (some (.ref f11)))
    (l11 : K.lookup f11 = some ⟨oc11, od11, .func (PySem.W.fnOf "check_lanes" "check_lanes" (defArgs s_ckl) (defBody s_ckl) (defScope s_ckl) .none kV11 dc11 pm11 an11 cd11 ct11), sl11⟩)
    (c11 : PySem.W.codeIn K cd11 "check_lanes" = true) (k11 : PySem.W.keepIn K (.ref f11) = true)
    {f12 : Addr} {od12 an12 : Option Addr} {sl12 : Array (Option Value)} {oc12 kV12 dc12 pm12 cd12 ct12 : Value}
    (a12 : PySem.W.nsIn K mainGlobals "open_arms" = some (some (.ref f12)))
    (l12 : K.lookup f12 = some ⟨oc12, od12, .func (PySem.W.fnOf "open_arms" "open_arms" (defArgs s_oa) (defBody s_oa) (defScope s_oa) .none kV12 dc12 pm12 an12 cd12 ct12), sl12⟩)
    (c12 : PySem.W.codeIn K cd12 "open_arms" = true) (k12 : PySem.W.keepIn K (.ref f12) = true)
    {f13 : Addr} {od13 an13 : Option Addr} {sl13 : Array (Option Value)} {oc13 kV13 dc13 pm13 cd13 ct13 : Value}
    (a13 : PySem.W.nsIn K mainGlobals "allowed" = some (some (.ref f13)))
    (l13 : K.lookup f13 = some ⟨oc13, od13, .func (PySem.W.fnOf "allowed" "allowed" (defArgs s_al) (defBody s_al) (defScope s_al) .none kV13 dc13 pm13 an13 cd13 ct13), sl13⟩)
    (c13 : PySem.W.codeIn K cd13 "allowed" = true) (k13 : PySem.W.keepIn K (.ref f13) = true)
    {f14 : Addr} {od14 an14 : Option Addr} {sl14 : Array (Option Value)} {oc14 kV14 dc14 pm14 cd14 ct14 : Value}
    (a14 : PySem.W.nsIn K mainGlobals "allowed_at" = some (some (.ref f14)))
    (l14 : K.lookup f14 = some ⟨oc14, od14, .func (PySem.W.fnOf "allowed_at" "allowed_at" (defArgs s_at) (defBody s_at) (defScope s_at) .none kV14 dc14 pm14 an14 cd14 ct14), sl14⟩)
    (c14 : PySem.W.codeIn K cd14 "allowed_at" = true) (k14 : PySem.W.keepIn K (.ref f14) = true)
    {f15 : Addr} {od15 an15 : Option Addr} {sl15 : Array (Option Value)} {oc15 kV15 dc15 pm15 cd15 ct15 : Value}
    (a15 : PySem.W.nsIn K mainGlobals "behind_arm" = some (some (.ref f15)))
    (l15 : K.lookup f15 = some ⟨oc15, od15, .func (PySem.W.fnOf "behind_arm" "behind_arm" (defArgs s_ba) (defBody s_ba) (defScope s_ba) .none kV15 dc15 pm15 an15 cd15 ct15), sl15⟩)
    (c15 : PySem.W.codeIn K cd15 "behind_arm" = true) (k15 : PySem.W.keepIn K (.ref f15) = true)
    {f16 : Addr} {od16 an16 : Option Addr} {sl16 : Array (Option Value)} {oc16 kV16 dc16 pm16 cd16 ct16 : Value}
    (a16 : PySem.W.nsIn K mainGlobals "choices" = some (some (.ref f16)))
    (l16 : K.lookup f16 = some ⟨oc16, od16, .func (PySem.W.fnOf "choices" "choices" (defArgs s_ch) (defBody s_ch) (defScope s_ch) .none kV16 dc16 pm16 an16 cd16 ct16), sl16⟩)
    (c16 : PySem.W.codeIn K cd16 "choices" = true) (k16 : PySem.W.keepIn K (.ref f16) = true)
    {f17 : Addr} {od17 an17 : Option Addr} {sl17 : Array (Option Value)} {oc17 kV17 dc17 pm17 cd17 ct17 : Value}
    (a17 : PySem.W.nsIn K mainGlobals "moved" = some (some (.ref f17)))
    (l17 : K.lookup f17 = some ⟨oc17, od17, .func (PySem.W.fnOf "moved" "moved" (defArgs s_mv) (defBody s_mv) (defScope s_mv) .none kV17 dc17 pm17 an17 cd17 ct17), sl17⟩)
    (c17 : PySem.W.codeIn K cd17 "moved" = true) (k17 : PySem.W.keepIn K (.ref f17) = true)
    {f18 : Addr} {od18 an18 : Option Addr} {sl18 : Array (Option Value)} {oc18 kV18 dc18 pm18 cd18 ct18 : Value}
    (a18 : PySem.W.nsIn K mainGlobals "is_bound" = some (some (.ref f18)))
    (l18 : K.lookup f18 = some ⟨oc18, od18, .func (PySem.W.fnOf "is_bound" "is_bound" (defArgs s_is_bound) (defBody s_is_bound) (defScope s_is_bound) .none kV18 dc18 pm18 an18 cd18 ct18), sl18⟩)
    (c18 : PySem.W.codeIn K cd18 "is_bound" = true) (k18 : PySem.W.keepIn K (.ref f18) = true)
    {f19 : Addr} {od19 an19 : Option Addr} {sl19 : Array (Option Value)} {oc19 kV19 dc19 pm19 cd19 ct19 : Value}
    (a19 : PySem.W.nsIn K mainGlobals "is_bounds" = some (some (.ref f19)))
    (l19 : K.lookup f19 = some ⟨oc19, od19, .func (PySem.W.fnOf "is_bounds" "is_bounds" (defArgs s_is_bounds) (defBody s_is_bounds) (defScope s_is_bounds) .none kV19 dc19 pm19 an19 cd19 ct19), sl19⟩)
    (c19 : PySem.W.codeIn K cd19 "is_bounds" = true) (k19 : PySem.W.keepIn K (.ref f19) = true)
    {f20 : Addr} {od20 an20 : Option Addr} {sl20 : Array (Option Value)} {oc20 kV20 dc20 pm20 cd20 ct20 : Value}
    (a20 : PySem.W.nsIn K mainGlobals "_law_bag" = some (some (.ref f20)))
    (l20 : K.lookup f20 = some ⟨oc20, od20, .func (PySem.W.fnOf "_law_bag" "_law_bag" (defArgs s__law_bag) (defBody s__law_bag) (defScope s__law_bag) .none kV20 dc20 pm20 an20 cd20 ct20), sl20⟩)
    (c20 : PySem.W.codeIn K cd20 "_law_bag" = true) (k20 : PySem.W.keepIn K (.ref f20) = true)
    {f21 : Addr} {od21 an21 : Option Addr} {sl21 : Array (Option Value)} {oc21 kV21 dc21 pm21 cd21 ct21 : Value}
    (a21 : PySem.W.nsIn K mainGlobals "_law_take" = some (some (.ref f21)))
    (l21 : K.lookup f21 = some ⟨oc21, od21, .func (PySem.W.fnOf "_law_take" "_law_take" (defArgs s__law_take) (defBody s__law_take) (defScope s__law_take) .none kV21 dc21 pm21 an21 cd21 ct21), sl21⟩)
    (c21 : PySem.W.codeIn K cd21 "_law_take" = true) (k21 : PySem.W.keepIn K (.ref f21) = true)
    {f22 : Addr} {od22 an22 : Option Addr} {sl22 : Array (Option Value)} {oc22 kV22 dc22 pm22 cd22 ct22 : Value}
    (a22 : PySem.W.nsIn K mainGlobals "_law_alike" = some (some (.ref f22)))
    (l22 : K.lookup f22 = some ⟨oc22, od22, .func (PySem.W.fnOf "_law_alike" "_law_alike" (defArgs s__law_alike) (defBody s__law_alike) (defScope s__law_alike) .none kV22 dc22 pm22 an22 cd22 ct22), sl22⟩)
    (c22 : PySem.W.codeIn K cd22 "_law_alike" = true) (k22 : PySem.W.keepIn K (.ref f22) = true)
    {f23 : Addr} {od23 an23 : Option Addr} {sl23 : Array (Option Value)} {oc23 kV23 dc23 pm23 cd23 ct23 : Value}
    (a23 : PySem.W.nsIn K mainGlobals "_law_mixed" = some (some (.ref f23)))
    (l23 : K.lookup f23 = some ⟨oc23, od23, .func (PySem.W.fnOf "_law_mixed" "_law_mixed" (defArgs s_mixed) (defBody s_mixed) (defScope s_mixed) .none kV23 dc23 pm23 an23 cd23 ct23), sl23⟩)
    (c23 : PySem.W.codeIn K cd23 "_law_mixed" = true) (k23 : PySem.W.keepIn K (.ref f23) = true)
    {f24 : Addr} {od24 an24 : Option Addr} {sl24 : Array (Option Value)} {oc24 kV24 dc24 pm24 cd24 ct24 : Value}
    (a24 : PySem.W.nsIn K mainGlobals "_law_names" = some (some (.ref f24)))
    (l24 : K.lookup f24 = some ⟨oc24, od24, .func (PySem.W.fnOf "_law_names" "_law_names" (defArgs s__law_names) (defBody s__law_names) (defScope s__law_names) .none kV24 dc24 pm24 an24 cd24 ct24), sl24⟩)
    (c24 : PySem.W.codeIn K cd24 "_law_names" = true) (k24 : PySem.W.keepIn K (.ref f24) = true)
    {f25 : Addr} {od25 an25 : Option Addr} {sl25 : Array (Option Value)} {oc25 kV25 dc25 pm25 cd25 ct25 : Value}
    (a25 : PySem.W.nsIn K mainGlobals "_law_bounds" = some (some (.ref f25)))
    (l25 : K.lookup f25 = some ⟨oc25, od25, .func (PySem.W.fnOf "_law_bounds" "_law_bounds" (defArgs s_bounds) (defBody s_bounds) (defScope s_bounds) .none kV25 dc25 pm25 an25 cd25 ct25), sl25⟩)
    (c25 : PySem.W.codeIn K cd25 "_law_bounds" = true) (k25 : PySem.W.keepIn K (.ref f25) = true)
    {f26 : Addr} {od26 an26 : Option Addr} {sl26 : Array (Option Value)} {oc26 kV26 dc26 pm26 cd26 ct26 : Value}
    (a26 : PySem.W.nsIn K mainGlobals "_law_arm" = some (some (.ref f26)))
    (l26 : K.lookup f26 = some ⟨oc26, od26, .func (PySem.W.fnOf "_law_arm" "_law_arm" (defArgs s__law_arm) (defBody s__law_arm) (defScope s__law_arm) .none kV26 dc26 pm26 an26 cd26 ct26), sl26⟩)
    (c26 : PySem.W.codeIn K cd26 "_law_arm" = true) (k26 : PySem.W.keepIn K (.ref f26) = true)
    {f27 : Addr} {od27 an27 : Option Addr} {sl27 : Array (Option Value)} {oc27 kV27 dc27 pm27 cd27 ct27 : Value}
    (a27 : PySem.W.nsIn K mainGlobals "_law_program" = some (some (.ref f27)))
    (l27 : K.lookup f27 = some ⟨oc27, od27, .func (PySem.W.fnOf "_law_program" "_law_program" (defArgs s__law_program) (defBody s__law_program) (defScope s__law_program) .none kV27 dc27 pm27 an27 cd27 ct27), sl27⟩)
    (c27 : PySem.W.codeIn K cd27 "_law_program" = true) (k27 : PySem.W.keepIn K (.ref f27) = true)
    {f28 : Addr} {od28 an28 : Option Addr} {sl28 : Array (Option Value)} {oc28 kV28 dc28 pm28 cd28 ct28 : Value}
    (a28 : PySem.W.nsIn K mainGlobals "_law_state" = some (some (.ref f28)))
    (l28 : K.lookup f28 = some ⟨oc28, od28, .func (PySem.W.fnOf "_law_state" "_law_state" (defArgs s_lstate) (defBody s_lstate) (defScope s_lstate) .none kV28 dc28 pm28 an28 cd28 ct28), sl28⟩)
    (c28 : PySem.W.codeIn K cd28 "_law_state" = true) (k28 : PySem.W.keepIn K (.ref f28) = true)
    {f29 : Addr} {od29 an29 : Option Addr} {sl29 : Array (Option Value)} {oc29 kV29 dc29 pm29 cd29 ct29 : Value}
    (a29 : PySem.W.nsIn K mainGlobals "_law_content" = some (some (.ref f29)))
    (l29 : K.lookup f29 = some ⟨oc29, od29, .func (PySem.W.fnOf "_law_content" "_law_content" (defArgs s_lcontent) (defBody s_lcontent) (defScope s_lcontent) .none kV29 dc29 pm29 an29 cd29 ct29), sl29⟩)
    (c29 : PySem.W.codeIn K cd29 "_law_content" = true) (k29 : PySem.W.keepIn K (.ref f29) = true)
    {f30 : Addr} {od30 an30 : Option Addr} {sl30 : Array (Option Value)} {oc30 kV30 dc30 pm30 cd30 ct30 : Value}
    (a30 : PySem.W.nsIn K mainGlobals "_law_opens" = some (some (.ref f30)))
    (l30 : K.lookup f30 = some ⟨oc30, od30, .func (PySem.W.fnOf "_law_opens" "_law_opens" (defArgs s_opens) (defBody s_opens) (defScope s_opens) .none kV30 dc30 pm30 an30 cd30 ct30), sl30⟩)
    (c30 : PySem.W.codeIn K cd30 "_law_opens" = true) (k30 : PySem.W.keepIn K (.ref f30) = true)
    {f31 : Addr} {od31 an31 : Option Addr} {sl31 : Array (Option Value)} {oc31 kV31 dc31 pm31 cd31 ct31 : Value}
    (a31 : PySem.W.nsIn K mainGlobals "_law_left" = some (some (.ref f31)))
    (l31 : K.lookup f31 = some ⟨oc31, od31, .func (PySem.W.fnOf "_law_left" "_law_left" (defArgs s_left) (defBody s_left) (defScope s_left) .none kV31 dc31 pm31 an31 cd31 ct31), sl31⟩)
    (c31 : PySem.W.codeIn K cd31 "_law_left" = true) (k31 : PySem.W.keepIn K (.ref f31) = true)
    {f32 : Addr} {od32 an32 : Option Addr} {sl32 : Array (Option Value)} {oc32 kV32 dc32 pm32 cd32 ct32 : Value}
    (a32 : PySem.W.nsIn K mainGlobals "_law_choices" = some (some (.ref f32)))
    (l32 : K.lookup f32 = some ⟨oc32, od32, .func (PySem.W.fnOf "_law_choices" "_law_choices" (defArgs s__law_choices) (defBody s__law_choices) (defScope s__law_choices) .none kV32 dc32 pm32 an32 cd32 ct32), sl32⟩)
    (c32 : PySem.W.codeIn K cd32 "_law_choices" = true) (k32 : PySem.W.keepIn K (.ref f32) = true)
    {f33 : Addr} {od33 an33 : Option Addr} {sl33 : Array (Option Value)} {oc33 kV33 dc33 pm33 cd33 ct33 : Value}
    (a33 : PySem.W.nsIn K mainGlobals "_law_told" = some (some (.ref f33)))
    (l33 : K.lookup f33 = some ⟨oc33, od33, .func (PySem.W.fnOf "_law_told" "_law_told" (defArgs s_told) (defBody s_told) (defScope s_told) .none kV33 dc33 pm33 an33 cd33 ct33), sl33⟩)
    (c33 : PySem.W.codeIn K cd33 "_law_told" = true) (k33 : PySem.W.keepIn K (.ref f33) = true)
    {f34 : Addr} {od34 an34 : Option Addr} {sl34 : Array (Option Value)} {oc34 kV34 dc34 pm34 cd34 ct34 : Value}
    (a34 : PySem.W.nsIn K mainGlobals "_law_due" = some (some (.ref f34)))
    (l34 : K.lookup f34 = some ⟨oc34, od34, .func (PySem.W.fnOf "_law_due" "_law_due" (defArgs s__law_due) (defBody s__law_due) (defScope s__law_due) .none kV34 dc34 pm34 an34 cd34 ct34), sl34⟩)
    (c34 : PySem.W.codeIn K cd34 "_law_due" = true) (k34 : PySem.W.keepIn K (.ref f34) = true)
    {f35 : Addr} {od35 an35 : Option Addr} {sl35 : Array (Option Value)} {oc35 kV35 dc35 pm35 cd35 ct35 : Value}
    (a35 : PySem.W.nsIn K mainGlobals "law" = some (some (.ref f35)))
    (l35 : K.lookup f35 = some ⟨oc35, od35, .func (PySem.W.fnOf "law" "law" (defArgs s_law) (defBody s_law) (defScope s_law) .none kV35 dc35 pm35 an35 cd35 ct35), sl35⟩)
    (c35 : PySem.W.codeIn K cd35 "law" = true) (k35 : PySem.W.keepIn K (.ref f35) = true)
    (aGC : PySem.W.nsIn K mainGlobals "Lanes" = some (some (.ref C)))
    (aGCP : PySem.W.nsIn K mainGlobals "Program" = some (some (.ref CP)))
    (aGR : PySem.W.nsIn K mainGlobals "Refused" = some (some (.ref R)))
    (aGNA : PySem.W.nsIn K mainGlobals "NoArm" = some (some (.ref NA)))
    (aGNL : PySem.W.nsIn K mainGlobals "NoLane" = some (some (.ref NL)))
    (aGNP : PySem.W.nsIn K mainGlobals "NoPlace" = some (some (.ref NP)))
    (aGB : PySem.W.nsIn K mainGlobals "LaneError" = some (some (.ref B)))
    {fm0 : Addr} {odm0 anm0 : Option Addr} {slm0 : Array (Option Value)} {ocm0 kVm0 dcm0 pmm0 cdm0 ctm0 : Value}
    (am0 : PySem.W.findIn K (.ref C) "__init__" = some (some (.ref fm0)))
    (im0 : PySem.W.isFn K (.ref fm0) = true)
    (lm0 : K.lookup fm0 = some ⟨ocm0, odm0, .func (PySem.W.fnOf "__init__" "Lanes.__init__" (defArgs (cL 0)) (defBody (cL 0)) (defScope (cL 0)) .none kVm0 dcm0 pmm0 anm0 cdm0 ctm0), slm0⟩)
    (cm0 : PySem.W.codeIn K cdm0 "Lanes.__init__" = true) (km0 : PySem.W.keepIn K (.ref fm0) = true)
    {fm1 : Addr} {odm1 anm1 : Option Addr} {slm1 : Array (Option Value)} {ocm1 kVm1 dcm1 pmm1 cdm1 ctm1 : Value}
    (am1 : PySem.W.findIn K (.ref C) "__contains__" = some (some (.ref fm1)))
    (im1 : PySem.W.isFn K (.ref fm1) = true)
    (lm1 : K.lookup fm1 = some ⟨ocm1, odm1, .func (PySem.W.fnOf "__contains__" "Lanes.__contains__" (defArgs (cL 4)) (defBody (cL 4)) (defScope (cL 4)) .none kVm1 dcm1 pmm1 anm1 cdm1 ctm1), slm1⟩)
    (cm1 : PySem.W.codeIn K cdm1 "Lanes.__contains__" = true) (km1 : PySem.W.keepIn K (.ref fm1) = true)
    {fm2 : Addr} {odm2 anm2 : Option Addr} {slm2 : Array (Option Value)} {ocm2 kVm2 dcm2 pmm2 cdm2 ctm2 : Value}
    (am2 : PySem.W.findIn K (.ref C) "_spot" = some (some (.ref fm2)))
    (im2 : PySem.W.isFn K (.ref fm2) = true)
    (lm2 : K.lookup fm2 = some ⟨ocm2, odm2, .func (PySem.W.fnOf "_spot" "Lanes._spot" (defArgs (cL 7)) (defBody (cL 7)) (defScope (cL 7)) .none kVm2 dcm2 pmm2 anm2 cdm2 ctm2), slm2⟩)
    (cm2 : PySem.W.codeIn K cdm2 "Lanes._spot" = true) (km2 : PySem.W.keepIn K (.ref fm2) = true)
    {fm3 : Addr} {odm3 anm3 : Option Addr} {slm3 : Array (Option Value)} {ocm3 kVm3 dcm3 pmm3 cdm3 ctm3 : Value}
    (am3 : PySem.W.findIn K (.ref C) "_behind" = some (some (.ref fm3)))
    (im3 : PySem.W.isFn K (.ref fm3) = true)
    (lm3 : K.lookup fm3 = some ⟨ocm3, odm3, .func (PySem.W.fnOf "_behind" "Lanes._behind" (defArgs (cL 8)) (defBody (cL 8)) (defScope (cL 8)) .none kVm3 dcm3 pmm3 anm3 cdm3 ctm3), slm3⟩)
    (cm3 : PySem.W.codeIn K cdm3 "Lanes._behind" = true) (km3 : PySem.W.keepIn K (.ref fm3) = true)
    {fm4 : Addr} {odm4 anm4 : Option Addr} {slm4 : Array (Option Value)} {ocm4 kVm4 dcm4 pmm4 cdm4 ctm4 : Value}
    (am4 : PySem.W.findIn K (.ref C) "is_open" = some (some (.ref fm4)))
    (im4 : PySem.W.isFn K (.ref fm4) = true)
    (lm4 : K.lookup fm4 = some ⟨ocm4, odm4, .func (PySem.W.fnOf "is_open" "Lanes.is_open" (defArgs (cL 13)) (defBody (cL 13)) (defScope (cL 13)) .none kVm4 dcm4 pmm4 anm4 cdm4 ctm4), slm4⟩)
    (cm4 : PySem.W.codeIn K cdm4 "Lanes.is_open" = true) (km4 : PySem.W.keepIn K (.ref fm4) = true)
    {fm5 : Addr} {odm5 anm5 : Option Addr} {slm5 : Array (Option Value)} {ocm5 kVm5 dcm5 pmm5 cdm5 ctm5 : Value}
    (am5 : PySem.W.findIn K (.ref C) "done" = some (some (.ref fm5)))
    (im5 : PySem.W.isFn K (.ref fm5) = true)
    (lm5 : K.lookup fm5 = some ⟨ocm5, odm5, .func (PySem.W.fnOf "done" "Lanes.done" (defArgs (cL 14)) (defBody (cL 14)) (defScope (cL 14)) .none kVm5 dcm5 pmm5 anm5 cdm5 ctm5), slm5⟩)
    (cm5 : PySem.W.codeIn K cdm5 "Lanes.done" = true) (km5 : PySem.W.keepIn K (.ref fm5) = true)
    {fm6 : Addr} {odm6 anm6 : Option Addr} {slm6 : Array (Option Value)} {ocm6 kVm6 dcm6 pmm6 cdm6 ctm6 : Value}
    (am6 : PySem.W.findIn K (.ref CP) "__init__" = some (some (.ref fm6)))
    (im6 : PySem.W.isFn K (.ref fm6) = true)
    (lm6 : K.lookup fm6 = some ⟨ocm6, odm6, .func (PySem.W.fnOf "__init__" "Program.__init__" (defArgs (cP 0)) (defBody (cP 0)) (defScope (cP 0)) .none kVm6 dcm6 pmm6 anm6 cdm6 ctm6), slm6⟩)
    (cm6 : PySem.W.codeIn K cdm6 "Program.__init__" = true) (km6 : PySem.W.keepIn K (.ref fm6) = true)
    {fm7 : Addr} {odm7 anm7 : Option Addr} {slm7 : Array (Option Value)} {ocm7 kVm7 dcm7 pmm7 cdm7 ctm7 : Value}
    (am7 : PySem.W.findIn K (.ref CP) "_check" = some (some (.ref fm7)))
    (im7 : PySem.W.isFn K (.ref fm7) = true)
    (lm7 : K.lookup fm7 = some ⟨ocm7, odm7, .func (PySem.W.fnOf "_check" "Program._check" (defArgs (cP 1)) (defBody (cP 1)) (defScope (cP 1)) .none kVm7 dcm7 pmm7 anm7 cdm7 ctm7), slm7⟩)
    (cm7 : PySem.W.codeIn K cdm7 "Program._check" = true) (km7 : PySem.W.keepIn K (.ref fm7) = true)
    {fm8 : Addr} {odm8 anm8 : Option Addr} {slm8 : Array (Option Value)} {ocm8 kVm8 dcm8 pmm8 cdm8 ctm8 : Value}
    (am8 : PySem.W.findIn K (.ref CP) "_place" = some (some (.ref fm8)))
    (im8 : PySem.W.isFn K (.ref fm8) = true)
    (lm8 : K.lookup fm8 = some ⟨ocm8, odm8, .func (PySem.W.fnOf "_place" "Program._place" (defArgs (cP 4)) (defBody (cP 4)) (defScope (cP 4)) .none kVm8 dcm8 pmm8 anm8 cdm8 ctm8), slm8⟩)
    (cm8 : PySem.W.codeIn K cdm8 "Program._place" = true) (km8 : PySem.W.keepIn K (.ref fm8) = true)
    {fm9 : Addr} {odm9 anm9 : Option Addr} {slm9 : Array (Option Value)} {ocm9 kVm9 dcm9 pmm9 cdm9 ctm9 : Value}
    (am9 : PySem.W.findIn K (.ref CP) "_place_with_arm" = some (some (.ref fm9)))
    (im9 : PySem.W.isFn K (.ref fm9) = true)
    (lm9 : K.lookup fm9 = some ⟨ocm9, odm9, .func (PySem.W.fnOf "_place_with_arm" "Program._place_with_arm" (defArgs (cP 5)) (defBody (cP 5)) (defScope (cP 5)) .none kVm9 dcm9 pmm9 anm9 cdm9 ctm9), slm9⟩)
    (cm9 : PySem.W.codeIn K cdm9 "Program._place_with_arm" = true) (km9 : PySem.W.keepIn K (.ref fm9) = true)
    {fm10 : Addr} {odm10 anm10 : Option Addr} {slm10 : Array (Option Value)} {ocm10 kVm10 dcm10 pmm10 cdm10 ctm10 : Value}
    (am10 : PySem.W.findIn K (.ref CP) "mode" = some (some (.ref fm10)))
    (im10 : PySem.W.isFn K (.ref fm10) = true)
    (lm10 : K.lookup fm10 = some ⟨ocm10, odm10, .func (PySem.W.fnOf "mode" "Program.mode" (defArgs (cP 8)) (defBody (cP 8)) (defScope (cP 8)) .none kVm10 dcm10 pmm10 anm10 cdm10 ctm10), slm10⟩)
    (cm10 : PySem.W.codeIn K cdm10 "Program.mode" = true) (km10 : PySem.W.keepIn K (.ref fm10) = true)
    {fm11 : Addr} {odm11 anm11 : Option Addr} {slm11 : Array (Option Value)} {ocm11 kVm11 dcm11 pmm11 cdm11 ctm11 : Value}
    (am11 : PySem.W.findIn K (.ref CP) "arms" = some (some (.ref fm11)))
    (im11 : PySem.W.isFn K (.ref fm11) = true)
    (lm11 : K.lookup fm11 = some ⟨ocm11, odm11, .func (PySem.W.fnOf "arms" "Program.arms" (defArgs (cP 9)) (defBody (cP 9)) (defScope (cP 9)) .none kVm11 dcm11 pmm11 anm11 cdm11 ctm11), slm11⟩)
    (cm11 : PySem.W.codeIn K cdm11 "Program.arms" = true) (km11 : PySem.W.keepIn K (.ref fm11) = true)
    {fm12 : Addr} {odm12 anm12 : Option Addr} {slm12 : Array (Option Value)} {ocm12 kVm12 dcm12 pmm12 cdm12 ctm12 : Value}
    (am12 : PySem.W.findIn K (.ref CP) "arm" = some (some (.ref fm12)))
    (im12 : PySem.W.isFn K (.ref fm12) = true)
    (lm12 : K.lookup fm12 = some ⟨ocm12, odm12, .func (PySem.W.fnOf "arm" "Program.arm" (defArgs (cP 10)) (defBody (cP 10)) (defScope (cP 10)) .none kVm12 dcm12 pmm12 anm12 cdm12 ctm12), slm12⟩)
    (cm12 : PySem.W.codeIn K cdm12 "Program.arm" = true) (km12 : PySem.W.keepIn K (.ref fm12) = true)
    {fm13 : Addr} {odm13 anm13 : Option Addr} {slm13 : Array (Option Value)} {ocm13 kVm13 dcm13 pmm13 cdm13 ctm13 : Value}
    (am13 : PySem.W.findIn K (.ref CP) "used" = some (some (.ref fm13)))
    (im13 : PySem.W.isFn K (.ref fm13) = true)
    (lm13 : K.lookup fm13 = some ⟨ocm13, odm13, .func (PySem.W.fnOf "used" "Program.used" (defArgs (cP 11)) (defBody (cP 11)) (defScope (cP 11)) .none kVm13 dcm13 pmm13 anm13 cdm13 ctm13), slm13⟩)
    (cm13 : PySem.W.codeIn K cdm13 "Program.used" = true) (km13 : PySem.W.keepIn K (.ref fm13) = true)
    {fm14 : Addr} {odm14 anm14 : Option Addr} {slm14 : Array (Option Value)} {ocm14 kVm14 dcm14 pmm14 cdm14 ctm14 : Value}
    (am14 : PySem.W.findIn K (.ref R) "__init__" = some (some (.ref fm14)))
    (im14 : PySem.W.typeIn K (.ref fm14) = some (.type "function"))
    (lm14 : K.lookup fm14 = some ⟨ocm14, odm14, .func (PySem.W.fnOf "__init__" "Refused.__init__" (defArgs s_xwhat) (defBody s_xwhat) (defScope s_xwhat) .none kVm14 dcm14 pmm14 anm14 cdm14 ctm14), slm14⟩)
    (cm14 : PySem.W.codeIn K cdm14 "Refused.__init__" = true) (km14 : PySem.W.keepIn K (.ref fm14) = true)
    {fm15 : Addr} {odm15 anm15 : Option Addr} {slm15 : Array (Option Value)} {ocm15 kVm15 dcm15 pmm15 cdm15 ctm15 : Value}
    (am15 : PySem.W.findIn K (.ref NL) "__init__" = some (some (.ref fm15)))
    (im15 : PySem.W.typeIn K (.ref fm15) = some (.type "function"))
    (lm15 : K.lookup fm15 = some ⟨ocm15, odm15, .func (PySem.W.fnOf "__init__" "NoLane.__init__" (defArgs s_xlane) (defBody s_xlane) (defScope s_xlane) .none kVm15 dcm15 pmm15 anm15 cdm15 ctm15), slm15⟩)
    (cm15 : PySem.W.codeIn K cdm15 "NoLane.__init__" = true) (km15 : PySem.W.keepIn K (.ref fm15) = true)
    {fm16 : Addr} {odm16 anm16 : Option Addr} {slm16 : Array (Option Value)} {ocm16 kVm16 dcm16 pmm16 cdm16 ctm16 : Value}
    (am16 : PySem.W.findIn K (.ref NP) "__init__" = some (some (.ref fm16)))
    (im16 : PySem.W.typeIn K (.ref fm16) = some (.type "function"))
    (lm16 : K.lookup fm16 = some ⟨ocm16, odm16, .func (PySem.W.fnOf "__init__" "NoPlace.__init__" (defArgs s_xplace) (defBody s_xplace) (defScope s_xplace) .none kVm16 dcm16 pmm16 anm16 cdm16 ctm16), slm16⟩)
    (cm16 : PySem.W.codeIn K cdm16 "NoPlace.__init__" = true) (km16 : PySem.W.keepIn K (.ref fm16) = true)
    {fm17 : Addr} {odm17 anm17 : Option Addr} {slm17 : Array (Option Value)} {ocm17 kVm17 dcm17 pmm17 cdm17 ctm17 : Value}
    (am17 : PySem.W.findIn K (.ref NA) "__init__" = some (some (.ref fm17)))
    (im17 : PySem.W.typeIn K (.ref fm17) = some (.type "function"))
    (lm17 : K.lookup fm17 = some ⟨ocm17, odm17, .func (PySem.W.fnOf "__init__" "NoArm.__init__" (defArgs s_xindex) (defBody s_xindex) (defScope s_xindex) .none kVm17 dcm17 pmm17 anm17 cdm17 ctm17), slm17⟩)
    (cm17 : PySem.W.codeIn K cdm17 "NoArm.__init__" = true) (km17 : PySem.W.keepIn K (.ref fm17) = true)
    (pgC : PySem.W.plainGet K C Str.empty = true) (hdC : PySem.W.hasDictIn K C = true) (poC : PySem.W.plainOver K C = true) (saC : PySem.W.findIn K (.ref C) "__setattr__" = some (some (.builtin "object.__setattr__"))) (mkC : PySem.W.makesIn K C = true) (kcC : PySem.W.keepIn K (.ref C) = true)
    (pgCP : PySem.W.plainGet K CP Str.empty = true) (hdCP : PySem.W.hasDictIn K CP = true) (poCP : PySem.W.plainOver K CP = true) (saCP : PySem.W.findIn K (.ref CP) "__setattr__" = some (some (.builtin "object.__setattr__"))) (mkCP : PySem.W.makesIn K CP = true) (kcCP : PySem.W.keepIn K (.ref CP) = true)
    (nN : PySem.W.findIn K (.ref C) "_names" = some none) (nB : PySem.W.findIn K (.ref C) "_bounds" = some none) (nS : PySem.W.findIn K (.ref C) "_spots" = some none)
    (nPl : PySem.W.findIn K (.ref CP) "_places" = some none) (nUs : PySem.W.findIn K (.ref CP) "_used" = some none)
    {nmR qR : Str} {NR : Addr} {bsR bmR : List Value} {snR : List Str} {subR : List Value} {abR : Bool} {colR : Option Bool} {ddR : Option Addr} {m0R m1R m2R m3R m5R : Option Value}
    (xR : K.lookup R = some (excClassObj nmR qR R NR bsR bmR true snR subR abR colR ddR m0R m1R m2R m3R m5R "ValueError.__new__")) (vR : PySem.HandSPX.refsVE bmR = true)
    (saR : PySem.W.findIn K (.ref R) "__setattr__" = some (some (.builtin "object.__setattr__"))) (exR : PySem.W.subIn K (.ref R) (.type "BaseException") = some true) (tyR : PySem.W.typeIn K (.ref R) = some (.type "type")) (kR : PySem.W.keepIn K (.ref R) = true)
    (gaR : PySem.W.findIn K (.ref R) "__getattribute__" = some (some (.builtin "BaseException.__getattribute__"))) (ggR : PySem.W.findIn K (.ref R) "__getattr__" = some none) (hdR : PySem.W.hasDictIn K R = true)
    (clR : PySem.W.findIn K (.ref R) "__class__" = some (some (.builtin "object.__class__"))) (moR : PySem.W.mroIn K R (.type "object") = some true) (sBR : PySem.W.subIn K (.ref R) (.ref B) = some true)
    (nFR : PySem.W.findIn K (.ref R) "what" = some none)
    {nmNL qNL : Str} {NNL : Addr} {bsNL bmNL : List Value} {snNL : List Str} {subNL : List Value} {abNL : Bool} {colNL : Option Bool} {ddNL : Option Addr} {m0NL m1NL m2NL m3NL m5NL : Option Value}
    (xNL : K.lookup NL = some (excClassObj nmNL qNL NL NNL bsNL bmNL true snNL subNL abNL colNL ddNL m0NL m1NL m2NL m3NL m5NL "ValueError.__new__")) (vNL : PySem.HandSPX.refsVE bmNL = true)
    (saNL : PySem.W.findIn K (.ref NL) "__setattr__" = some (some (.builtin "object.__setattr__"))) (exNL : PySem.W.subIn K (.ref NL) (.type "BaseException") = some true) (tyNL : PySem.W.typeIn K (.ref NL) = some (.type "type")) (kNL : PySem.W.keepIn K (.ref NL) = true)
    (gaNL : PySem.W.findIn K (.ref NL) "__getattribute__" = some (some (.builtin "BaseException.__getattribute__"))) (ggNL : PySem.W.findIn K (.ref NL) "__getattr__" = some none) (hdNL : PySem.W.hasDictIn K NL = true)
    (clNL : PySem.W.findIn K (.ref NL) "__class__" = some (some (.builtin "object.__class__"))) (moNL : PySem.W.mroIn K NL (.type "object") = some true) (sBNL : PySem.W.subIn K (.ref NL) (.ref B) = some true)
    (nFNL : PySem.W.findIn K (.ref NL) "lane" = some none)
    {nmNP qNP : Str} {NNP : Addr} {bsNP bmNP : List Value} {snNP : List Str} {subNP : List Value} {abNP : Bool} {colNP : Option Bool} {ddNP : Option Addr} {m0NP m1NP m2NP m3NP m5NP : Option Value}
    (xNP : K.lookup NP = some (excClassObj nmNP qNP NP NNP bsNP bmNP true snNP subNP abNP colNP ddNP m0NP m1NP m2NP m3NP m5NP "ValueError.__new__")) (vNP : PySem.HandSPX.refsVE bmNP = true)
    (saNP : PySem.W.findIn K (.ref NP) "__setattr__" = some (some (.builtin "object.__setattr__"))) (exNP : PySem.W.subIn K (.ref NP) (.type "BaseException") = some true) (tyNP : PySem.W.typeIn K (.ref NP) = some (.type "type")) (kNP : PySem.W.keepIn K (.ref NP) = true)
    (gaNP : PySem.W.findIn K (.ref NP) "__getattribute__" = some (some (.builtin "BaseException.__getattribute__"))) (ggNP : PySem.W.findIn K (.ref NP) "__getattr__" = some none) (hdNP : PySem.W.hasDictIn K NP = true)
    (clNP : PySem.W.findIn K (.ref NP) "__class__" = some (some (.builtin "object.__class__"))) (moNP : PySem.W.mroIn K NP (.type "object") = some true) (sBNP : PySem.W.subIn K (.ref NP) (.ref B) = some true)
    (nFNP : PySem.W.findIn K (.ref NP) "place" = some none)
    {nmNA qNA : Str} {NNA : Addr} {bsNA bmNA : List Value} {snNA : List Str} {subNA : List Value} {abNA : Bool} {colNA : Option Bool} {ddNA : Option Addr} {m0NA m1NA m2NA m3NA m5NA : Option Value}
    (xNA : K.lookup NA = some (excClassObj nmNA qNA NA NNA bsNA bmNA true snNA subNA abNA colNA ddNA m0NA m1NA m2NA m3NA m5NA "ValueError.__new__")) (vNA : PySem.HandSPX.refsVE bmNA = true)
    (saNA : PySem.W.findIn K (.ref NA) "__setattr__" = some (some (.builtin "object.__setattr__"))) (exNA : PySem.W.subIn K (.ref NA) (.type "BaseException") = some true) (tyNA : PySem.W.typeIn K (.ref NA) = some (.type "type")) (kNA : PySem.W.keepIn K (.ref NA) = true)
    (gaNA : PySem.W.findIn K (.ref NA) "__getattribute__" = some (some (.builtin "BaseException.__getattribute__"))) (ggNA : PySem.W.findIn K (.ref NA) "__getattr__" = some none) (hdNA : PySem.W.hasDictIn K NA = true)
    (clNA : PySem.W.findIn K (.ref NA) "__class__" = some (some (.builtin "object.__class__"))) (moNA : PySem.W.mroIn K NA (.type "object") = some true) (sBNA : PySem.W.subIn K (.ref NA) (.ref B) = some true)
    (nFNA : PySem.W.findIn K (.ref NA) "index" = some none)
    (exB : PySem.W.subIn K (.ref B) (.type "BaseException") = some true) (hdB : PySem.W.hasDictIn K B = true) (tyB : PySem.W.typeIn K (.ref B) = some (.type "type"))
    (ocg : PySem.W.specialIn K (.builtin "object.__class__") "__get__" = some (some (.builtin "getset_descriptor.__get__"))) (oct : PySem.W.takesIn K (.builtin "object.__class__") = some true)
    (k_NL_NL : PySem.W.kitOne K (.ref NL) (.ref NL) = some true)
    (k_NL_NP : PySem.W.kitOne K (.ref NL) (.ref NP) = some false)
    (k_NL_NA : PySem.W.kitOne K (.ref NL) (.ref NA) = some false)
    (k_NL_R : PySem.W.kitOne K (.ref NL) (.ref R) = some false)
    (k_NP_NL : PySem.W.kitOne K (.ref NP) (.ref NL) = some false)
    (k_NP_NP : PySem.W.kitOne K (.ref NP) (.ref NP) = some true)
    (k_NP_NA : PySem.W.kitOne K (.ref NP) (.ref NA) = some false)
    (k_NP_R : PySem.W.kitOne K (.ref NP) (.ref R) = some false)
    (k_NA_NL : PySem.W.kitOne K (.ref NA) (.ref NL) = some false)
    (k_NA_NP : PySem.W.kitOne K (.ref NA) (.ref NP) = some false)
    (k_NA_NA : PySem.W.kitOne K (.ref NA) (.ref NA) = some true)
    (k_NA_R : PySem.W.kitOne K (.ref NA) (.ref R) = some false)
    (k_R_NL : PySem.W.kitOne K (.ref R) (.ref NL) = some false)
    (k_R_NP : PySem.W.kitOne K (.ref R) (.ref NP) = some false)
    (k_R_NA : PySem.W.kitOne K (.ref R) (.ref NA) = some false)
    (k_R_R : PySem.W.kitOne K (.ref R) (.ref R) = some true)
    {tl0 tn0 : Tok} {aW aM : Addr} (gLet : PySem.W.nsIn K mainGlobals "LETTERS" = some (some (.str abc tl0))) (gLong : PySem.W.nsIn K mainGlobals "LONGEST" = some (some (.int 8 tn0))) (gW : PySem.W.nsIn K mainGlobals "WORDS" = some (some (.ref aW))) (gM : PySem.W.nsIn K mainGlobals "MODES" = some (some (.ref aM)))
    {odW : Option Addr} {t1 t2 t3 t4 : Tok} {nW : Nat} {slW : Array (Option Value)} (lW : K.lookup aW = some ⟨.type "tuple", odW, .seq #[.str "close" t1, .str "ended" t2, .str "send" t3, .str "take" t4] nW, slW⟩)
    {odM : Option Addr} {t5 t6 : Tok} {nM : Nat} {slM : Array (Option Value)} (lM : K.lookup aM = some ⟨.type "tuple", odM, .seq #[.str "any" t5, .str "first" t6] nM, slM⟩)
    (z_len : PySem.W.nsIn K mainGlobals "len" = some none)
    (z_int : PySem.W.nsIn K mainGlobals "int" = some none)
    (z_abs : PySem.W.nsIn K mainGlobals "abs" = some none)
    (z_range : PySem.W.nsIn K mainGlobals "range" = some none)
    (z_repr : PySem.W.nsIn K mainGlobals "repr" = some none)
    (z_isinstance : PySem.W.nsIn K mainGlobals "isinstance" = some none)
    (z_all : PySem.W.nsIn K mainGlobals "all" = some none)
    (z_tuple : PySem.W.nsIn K mainGlobals "tuple" = some none)
    (z_list : PySem.W.nsIn K mainGlobals "list" = some none)
    (z_str : PySem.W.nsIn K mainGlobals "str" = some none)
    (z_bool : PySem.W.nsIn K mainGlobals "bool" = some none)
    (z_dict : PySem.W.nsIn K mainGlobals "dict" = some none)
    (z_sorted : PySem.W.nsIn K mainGlobals "sorted" = some none)
    (z_enumerate : PySem.W.nsIn K mainGlobals "enumerate" = some none)
    (z_zip : PySem.W.nsIn K mainGlobals "zip" = some none)
    (z_min : PySem.W.nsIn K mainGlobals "min" = some none)
    (z_max : PySem.W.nsIn K mainGlobals "max" = some none)
    : ∃ fd : FuncData, (∀ (s : Shared) (v : Value), BindsTo s fd ⟨[v], []⟩ [("_law_script", v)]) ∧ ∀ base : Heap, K.In base → base.Ns mainGlobals mg → FnG l.prog w K mg base 10 fa fd ["_law_script"] (spLaw K) := by
  have e := hfa.symm.trans (PySem.W.mg_of X G a35)
  cases e
  have F0 := fun_mk (st := s_is_integer) l0 c0 k0
  have b0 := F0.binds (ps := ["thing"]) fun _ _ _ _ _ _ us hl => match us, hl with | [_], _ => rfl
  have g0 := PySem.W.mg_of X G a0
  have F1 := fun_mk (st := s_is_number) l1 c1 k1
  have b1 := F1.binds (ps := ["thing"]) fun _ _ _ _ _ _ us hl => match us, hl with | [_], _ => rfl
  have g1 := PySem.W.mg_of X G a1
  have F2 := fun_mk (st := s_is_name) l2 c2 k2
  have b2 := F2.binds (ps := ["thing"]) fun _ _ _ _ _ _ us hl => match us, hl with | [_], _ => rfl
  have g2 := PySem.W.mg_of X G a2
  have F3 := fun_mk (st := s_is_word) l3 c3 k3
  have b3 := F3.binds (ps := ["thing"]) fun _ _ _ _ _ _ us hl => match us, hl with | [_], _ => rfl
  have g3 := PySem.W.mg_of X G a3
  have F4 := fun_mk (st := s_mode) l4 c4 k4
  have b4 := F4.binds (ps := ["thing"]) fun _ _ _ _ _ _ us hl => match us, hl with | [_], _ => rfl
  have g4 := PySem.W.mg_of X G a4
  have F5 := fun_mk (st := s_is_arm) l5 c5 k5
  have b5 := F5.binds (ps := ["thing"]) fun _ _ _ _ _ _ us hl => match us, hl with | [_], _ => rfl
  have g5 := PySem.W.mg_of X G a5
  have F6 := fun_mk (st := s_row) l6 c6 k6
  have b6 := F6.binds (ps := ["thing", "is_part"]) fun _ _ _ _ _ _ us hl => match us, hl with | [_, _], _ => rfl
  have g6 := PySem.W.mg_of X G a6
  have F7 := fun_mk (st := s_state_behind) l7 c7 k7
  have b7 := F7.binds (ps := ["word", "state", "bound"]) fun _ _ _ _ _ _ us hl => match us, hl with | [_, _, _], _ => rfl
  have g7 := PySem.W.mg_of X G a7
  have F8 := fun_mk (st := s_replaced) l8 c8 k8
  have b8 := F8.binds (ps := ["row", "index", "item"]) fun _ _ _ _ _ _ us hl => match us, hl with | [_, _, _], _ => rfl
  have g8 := PySem.W.mg_of X G a8
  have F9 := fun_mk (st := s_place) l9 c9 k9
  have b9 := F9.binds (ps := ["thing"]) fun _ _ _ _ _ _ us hl => match us, hl with | [_], _ => rfl
  have g9 := PySem.W.mg_of X G a9
  have F10 := fun_mk (st := s_else) l10 c10 k10
  have b10 := F10.binds (ps := ["arm"]) fun _ _ _ _ _ _ us hl => match us, hl with | [_], _ => rfl
  have g10 := PySem.W.mg_of X G a10
  have F11 := fun_mk (st := s_ckl) l11 c11 k11
  have b11 := F11.binds (ps := ["lanes", "programs"]) fun _ _ _ _ _ _ us hl => match us, hl with | [_, _], _ => rfl
  have g11 := PySem.W.mg_of X G a11
  have F12 := fun_mk (st := s_oa) l12 c12 k12
  have b12 := F12.binds (ps := ["lanes", "arms", "content"]) fun _ _ _ _ _ _ us hl => match us, hl with | [_, _, _], _ => rfl
  have g12 := PySem.W.mg_of X G a12
  have F13 := fun_mk (st := s_al) l13 c13 k13
  have b13 := F13.binds (ps := ["lanes", "mode", "arms", "content"]) fun _ _ _ _ _ _ us hl => match us, hl with | [_, _, _, _], _ => rfl
  have g13 := PySem.W.mg_of X G a13
  have F14 := fun_mk (st := s_at) l14 c14 k14
  have b14 := F14.binds (ps := ["lanes", "program", "place", "content"]) fun _ _ _ _ _ _ us hl => match us, hl with | [_, _, _, _], _ => rfl
  have g14 := PySem.W.mg_of X G a14
  have F15 := fun_mk (st := s_ba) l15 c15 k15
  have b15 := F15.binds (ps := ["lanes", "arm", "content"]) fun _ _ _ _ _ _ us hl => match us, hl with | [_, _, _], _ => rfl
  have g15 := PySem.W.mg_of X G a15
  have F16 := fun_mk (st := s_ch) l16 c16 k16
  have b16 := F16.binds (ps := ["lanes", "program", "place", "content"]) fun _ _ _ _ _ _ us hl => match us, hl with | [_, _, _, _], _ => rfl
  have g16 := PySem.W.mg_of X G a16
  have F17 := fun_mk (st := s_mv) l17 c17 k17
  have b17 := F17.binds (ps := ["lanes", "program", "place", "content", "index"]) fun _ _ _ _ _ _ us hl => match us, hl with | [_, _, _, _, _], _ => rfl
  have g17 := PySem.W.mg_of X G a17
  have F18 := fun_mk (st := s_is_bound) l18 c18 k18
  have b18 := F18.binds (ps := ["thing"]) fun _ _ _ _ _ _ us hl => match us, hl with | [_], _ => rfl
  have g18 := PySem.W.mg_of X G a18
  have F19 := fun_mk (st := s_is_bounds) l19 c19 k19
  have b19 := F19.binds (ps := ["thing"]) fun _ _ _ _ _ _ us hl => match us, hl with | [_], _ => rfl
  have g19 := PySem.W.mg_of X G a19
  have F20 := fun_mk (st := s__law_bag) l20 c20 k20
  have b20 := F20.binds (ps := ["_law_script"]) fun _ _ _ _ _ _ us hl => match us, hl with | [_], _ => rfl
  have g20 := PySem.W.mg_of X G a20
  have F21 := fun_mk (st := s__law_take) l21 c21 k21
  have b21 := F21.binds (ps := ["_law_bag_here", "_law_many"]) fun _ _ _ _ _ _ us hl => match us, hl with | [_, _], _ => rfl
  have g21 := PySem.W.mg_of X G a21
  have F22 := fun_mk (st := s__law_alike) l22 c22 k22
  have b22 := F22.binds (ps := ["_law_found", "_law_due_here"]) fun _ _ _ _ _ _ us hl => match us, hl with | [_, _], _ => rfl
  have g22 := PySem.W.mg_of X G a22
  have F23 := fun_mk (st := s_mixed) l23 c23 k23
  have b23 := F23.binds (ps := ["_law_bag_here", "_law_things"]) fun _ _ _ _ _ _ us hl => match us, hl with | [_, _], _ => rfl
  have g23 := PySem.W.mg_of X G a23
  have F24 := fun_mk (st := s__law_names) l24 c24 k24
  have b24 := F24.binds (ps := ["_law_bag_here", "_law_many"]) fun _ _ _ _ _ _ us hl => match us, hl with | [_, _], _ => rfl
  have g24 := PySem.W.mg_of X G a24
  have F25 := fun_mk (st := s_bounds) l25 c25 k25
  have b25 := F25.binds (ps := ["_law_bag_here", "_law_names_here", "_law_greatest"]) fun _ _ _ _ _ _ us hl => match us, hl with | [_, _, _], _ => rfl
  have g25 := PySem.W.mg_of X G a25
  have F26 := fun_mk (st := s__law_arm) l26 c26 k26
  have b26 := F26.binds (ps := ["_law_bag_here", "_law_names_here", "_law_places"]) fun _ _ _ _ _ _ us hl => match us, hl with | [_, _, _], _ => rfl
  have g26 := PySem.W.mg_of X G a26
  have F27 := fun_mk (st := s__law_program) l27 c27 k27
  have b27 := F27.binds (ps := ["_law_bag_here", "_law_names_here", "_law_places"]) fun _ _ _ _ _ _ us hl => match us, hl with | [_, _, _], _ => rfl
  have g27 := PySem.W.mg_of X G a27
  have F28 := fun_mk (st := s_lstate) l28 c28 k28
  have b28 := F28.binds (ps := ["_law_bag_here", "_law_bound"]) fun _ _ _ _ _ _ us hl => match us, hl with | [_, _], _ => rfl
  have g28 := PySem.W.mg_of X G a28
  have F29 := fun_mk (st := s_lcontent) l29 c29 k29
  have b29 := F29.binds (ps := ["_law_bag_here", "_law_bounds_here"]) fun _ _ _ _ _ _ us hl => match us, hl with | [_, _], _ => rfl
  have g29 := PySem.W.mg_of X G a29
  have F30 := fun_mk (st := s_opens) l30 c30 k30
  have b30 := F30.binds (ps := ["_law_bounds_here", "_law_content_here", "_law_arm_here"]) fun _ _ _ _ _ _ us hl => match us, hl with | [_, _, _], _ => rfl
  have g30 := PySem.W.mg_of X G a30
  have F31 := fun_mk (st := s_left) l31 c31 k31
  have b31 := F31.binds (ps := ["_law_bounds_here", "_law_content_here", "_law_arm_here"]) fun _ _ _ _ _ _ us hl => match us, hl with | [_, _, _], _ => rfl
  have g31 := PySem.W.mg_of X G a31
  have F32 := fun_mk (st := s__law_choices) l32 c32 k32
  have b32 := F32.binds (ps := ["_law_bounds_here", "_law_row", "_law_content_here"]) fun _ _ _ _ _ _ us hl => match us, hl with | [_, _, _], _ => rfl
  have g32 := PySem.W.mg_of X G a32
  have F33 := fun_mk (st := s_told) l33 c33 k33
  have b33 := F33.binds (ps := ["_law_kind", "_law_lanes", "_law_program_here", "_law_place", "_law_content_here", "_law_index"]) fun _ _ _ _ _ _ us hl => match us, hl with | [_, _, _, _, _, _], _ => rfl
  have g33 := PySem.W.mg_of X G a33
  have F34 := fun_mk (st := s__law_due) l34 c34 k34
  have b34 := F34.binds (ps := ["_law_kind", "_law_bounds_here", "_law_places", "_law_place", "_law_content_here", "_law_index"]) fun _ _ _ _ _ _ us hl => match us, hl with | [_, _, _, _, _, _], _ => rfl
  have g34 := PySem.W.mg_of X G a34
  have F35 := fun_mk (st := s_law) l35 c35 k35
  have Fm0 := fun_mk (st := (cL 0)) lm0 cm0 km0
  have bm0 := Fm0.binds (ps := ["self", "bounds"]) fun _ _ _ _ _ _ us hl => match us, hl with | [_, _], _ => rfl
  have Fm1 := fun_mk (st := (cL 4)) lm1 cm1 km1
  have bm1 := Fm1.binds (ps := ["self", "thing"]) fun _ _ _ _ _ _ us hl => match us, hl with | [_, _], _ => rfl
  have Fm2 := fun_mk (st := (cL 7)) lm2 cm2 km2
  have bm2 := Fm2.binds (ps := ["self", "lane"]) fun _ _ _ _ _ _ us hl => match us, hl with | [_, _], _ => rfl
  have Fm3 := fun_mk (st := (cL 8)) lm3 cm3 km3
  have bm3 := Fm3.binds (ps := ["self", "content", "word", "spot"]) fun _ _ _ _ _ _ us hl => match us, hl with | [_, _, _, _], _ => rfl
  have Fm4 := fun_mk (st := (cL 13)) lm4 cm4 km4
  have bm4 := Fm4.binds (ps := ["self", "content", "word", "lane"]) fun _ _ _ _ _ _ us hl => match us, hl with | [_, _, _, _], _ => rfl
  have Fm5 := fun_mk (st := (cL 14)) lm5 cm5 km5
  have bm5 := Fm5.binds (ps := ["self", "content", "word", "lane"]) fun _ _ _ _ _ _ us hl => match us, hl with | [_, _, _, _], _ => rfl
  have Fm6 := fun_mk (st := (cP 0)) lm6 cm6 km6
  have bm6 := Fm6.binds (ps := ["self", "places"]) fun _ _ _ _ _ _ us hl => match us, hl with | [_, _], _ => rfl
  have Fm7 := fun_mk (st := (cP 1)) lm7 cm7 km7
  have bm7 := Fm7.binds (ps := ["self"]) fun _ _ _ _ _ _ us hl => match us, hl with | [_], _ => rfl
  have Fm8 := fun_mk (st := (cP 4)) lm8 cm8 km8
  have bm8 := Fm8.binds (ps := ["self", "place"]) fun _ _ _ _ _ _ us hl => match us, hl with | [_, _], _ => rfl
  have Fm9 := fun_mk (st := (cP 5)) lm9 cm9 km9
  have bm9 := Fm9.binds (ps := ["self", "place", "index"]) fun _ _ _ _ _ _ us hl => match us, hl with | [_, _, _], _ => rfl
  have Fm10 := fun_mk (st := (cP 8)) lm10 cm10 km10
  have bm10 := Fm10.binds (ps := ["self", "place"]) fun _ _ _ _ _ _ us hl => match us, hl with | [_, _], _ => rfl
  have Fm11 := fun_mk (st := (cP 9)) lm11 cm11 km11
  have bm11 := Fm11.binds (ps := ["self", "place"]) fun _ _ _ _ _ _ us hl => match us, hl with | [_, _], _ => rfl
  have Fm12 := fun_mk (st := (cP 10)) lm12 cm12 km12
  have bm12 := Fm12.binds (ps := ["self", "place", "index"]) fun _ _ _ _ _ _ us hl => match us, hl with | [_, _, _], _ => rfl
  have Fm13 := fun_mk (st := (cP 11)) lm13 cm13 km13
  have bm13 := Fm13.binds (ps := ["self"]) fun _ _ _ _ _ _ us hl => match us, hl with | [_], _ => rfl
  have Fm14 := fun_mk (st := s_xwhat) lm14 cm14 km14
  have bm14 := Fm14.binds (ps := ["self", "what"]) fun _ _ _ _ _ _ us hl => match us, hl with | [_, _], _ => rfl
  have Fm15 := fun_mk (st := s_xlane) lm15 cm15 km15
  have bm15 := Fm15.binds (ps := ["self", "lane"]) fun _ _ _ _ _ _ us hl => match us, hl with | [_, _], _ => rfl
  have Fm16 := fun_mk (st := s_xplace) lm16 cm16 km16
  have bm16 := Fm16.binds (ps := ["self", "place"]) fun _ _ _ _ _ _ us hl => match us, hl with | [_, _], _ => rfl
  have Fm17 := fun_mk (st := s_xindex) lm17 cm17 km17
  have bm17 := Fm17.binds (ps := ["self", "index"]) fun _ _ _ _ _ _ us hl => match us, hl with | [_, _], _ => rfl
  have T : BT mg := ⟨PySem.W.mg_none_of X G z_len, PySem.W.mg_none_of X G z_int, PySem.W.mg_none_of X G z_abs, PySem.W.mg_none_of X G z_range, PySem.W.mg_none_of X G z_repr, PySem.W.mg_none_of X G z_isinstance, PySem.W.mg_none_of X G z_all, PySem.W.mg_none_of X G z_tuple, PySem.W.mg_none_of X G z_list, PySem.W.mg_none_of X G z_str, PySem.W.mg_none_of X G z_bool, PySem.W.mg_none_of X G z_dict, PySem.W.mg_none_of X G z_sorted⟩
  have L : LT K mg C := ⟨⟨pgC, hdC, poC, saC⟩, nN, nB, nS, PySem.W.mg_of X G aGC, PySem.W.mg_none_of X G z_enumerate, PySem.W.mg_none_of X G z_zip⟩
  have LP : PT K mg CP := ⟨⟨pgCP, hdCP, poCP, saCP⟩, nPl, nUs, PySem.W.mg_of X G aGCP, PySem.W.mg_none_of X G z_enumerate⟩
  have TL : XT K mg "NoLane" "lane" NL := ⟨PySem.W.mg_of X G aGNL, ⟨⟨_, _, _, _, _, _, _, _, _, _, _, _, _, _, _, xNL, vNL⟩, saNL, exNL, tyNL, kNL⟩, ⟨gaNL, ggNL, exNL, hdNL⟩, nFNL⟩
  have TP : XT K mg "NoPlace" "place" NP := ⟨PySem.W.mg_of X G aGNP, ⟨⟨_, _, _, _, _, _, _, _, _, _, _, _, _, _, _, xNP, vNP⟩, saNP, exNP, tyNP, kNP⟩, ⟨gaNP, ggNP, exNP, hdNP⟩, nFNP⟩
  have TA : XT K mg "NoArm" "index" NA := ⟨PySem.W.mg_of X G aGNA, ⟨⟨_, _, _, _, _, _, _, _, _, _, _, _, _, _, _, xNA, vNA⟩, saNA, exNA, tyNA, kNA⟩, ⟨gaNA, ggNA, exNA, hdNA⟩, nFNA⟩
  have TR : XT K mg "Refused" "what" R := ⟨PySem.W.mg_of X G aGR, ⟨⟨_, _, _, _, _, _, _, _, _, _, _, _, _, _, _, xR, vR⟩, saR, exR, tyR, kR⟩, ⟨gaR, ggR, exR, hdR⟩, nFR⟩
  have EL : E4 K mg NL NL NP NA R true false false false := ⟨⟨B, PySem.W.mg_of X G aGB, PySem.W.exm_ref exB hdB tyB sBNL⟩, ⟨gaNL, ggNL, exNL, hdNL, clNL, ocg, oct, moNL⟩, k_NL_NL, k_NL_NP, k_NL_NA, k_NL_R⟩
  have EP : E4 K mg NP NL NP NA R false true false false := ⟨⟨B, PySem.W.mg_of X G aGB, PySem.W.exm_ref exB hdB tyB sBNP⟩, ⟨gaNP, ggNP, exNP, hdNP, clNP, ocg, oct, moNP⟩, k_NP_NL, k_NP_NP, k_NP_NA, k_NP_R⟩
  have EA : E4 K mg NA NL NP NA R false false true false := ⟨⟨B, PySem.W.mg_of X G aGB, PySem.W.exm_ref exB hdB tyB sBNA⟩, ⟨gaNA, ggNA, exNA, hdNA, clNA, ocg, oct, moNA⟩, k_NA_NL, k_NA_NP, k_NA_NA, k_NA_R⟩
  have ER : E4 K mg R NL NP NA R false false false true := ⟨⟨B, PySem.W.mg_of X G aGB, PySem.W.exm_ref exB hdB tyB sBR⟩, ⟨gaR, ggR, exR, hdR, clR, ocg, oct, moR⟩, k_R_NL, k_R_NP, k_R_NA, k_R_R⟩
  have hW : ∀ H, SqT K H aW wordsV := fun H => Or.inr ⟨_, _, _, lW, rfl, rfl, by show 4 ≤ sizeLine; decide, .cons ⟨_, rfl⟩ (.cons ⟨_, rfl⟩ (.cons ⟨_, rfl⟩ (.cons ⟨_, rfl⟩ .nil)))⟩
  have hM : ∀ H, SqT K H aM modesV := fun H => Or.inr ⟨_, _, _, lM, rfl, rfl, by show 2 ≤ sizeLine; decide, .cons ⟨_, rfl⟩ (.cons ⟨_, rfl⟩ .nil)⟩
  refine ⟨PySem.W.fnOf "law" "law" (defArgs s_law) (defBody s_law) (defScope s_law) .none kV35 dc35 pm35 an35 cd35 ct35, fun s v => .of_eq rfl, fun base _ _ => ?_⟩
  have C1 : Ca l.prog w K mg base 1 "is_integer" ["thing"] (spPred Any isIntD) := ⟨_, _, ok_is_integer F0 T, g0, k0, b0⟩
  have C2 : Ca l.prog w K mg base 2 "is_number" ["thing"] (spPred Any isNumD) := ⟨_, _, ok_is_number F1 C1, g1, k1, b1⟩
  have C3 : Ca l.prog w K mg base 1 "is_name" ["thing"] (spPred Ok1 isNameD) := ⟨_, _, ok_is_name F2 T (PySem.W.mg_of X G gLet) (PySem.W.mg_of X G gLong), g2, k2, b2⟩
  have CW : Ca l.prog w K mg base 1 "is_word" ["thing"] (spPred Any isWordD) := ⟨_, _, ok_is_word F3 T (PySem.W.mg_of X G gW) hW, g3, k3, b3⟩
  have CMd : Ca l.prog w K mg base 1 "is_mode" ["thing"] (spGood fun d => d = .str "first" ∨ d = .str "any") := ⟨_, _, ok_mode F4 T (PySem.W.mg_of X G gM) hM, g4, k4, b4⟩
  have okA := ok_is_arm (P := l.prog) (w := w) (base := base) F5 T C2 C3 CW
  have okA2 : FnOk l.prog w K mg base CX0 3 f5 _ ["thing"] (spGood GA) := okA.imp fun vs H Q E h => good_arm h
  have CRA : Ca l.prog w K mg base 4 "is_row_of" ["thing", "is_part"] (spRow GA f5) := ⟨_, _, ok_row F6 T okA2 k5 b5, g6, k6, b6⟩
  have okP := ok_place (P := l.prog) (w := w) (base := base) F9 T g5 CMd CRA
  have CRP : Ca l.prog w K mg base 6 "is_row_of" ["thing", "is_part"] (spRow GP f9) := ⟨_, _, ok_row F6 T okP k9 b9, g6, k6, b6⟩
  have CE : Ca l.prog w K mg base 1 "is_else" ["arm"] (spElse) := ⟨_, _, ok_else F10 T, g10, k10, b10⟩
  have C7 : Ca l.prog w K mg base 1 "state_behind" ["word", "state", "bound"] (spBehind) := ⟨_, _, ok_state_behind F7, g7, k7, b7⟩
  have C8 : Ca l.prog w K mg base 1 "replaced" ["row", "index", "item"] (spReplaced) := ⟨_, _, ok_replaced F8, g8, k8, b8⟩
  have C4 : Ca l.prog w K mg base 2 "is_bound" ["thing"] (spPred Any isBoundD) := ⟨_, _, ok_is_bound F18 C1, g18, k18, b18⟩
  have C5 : Ca l.prog w K mg base 3 "is_bounds" ["thing"] (spIsBounds) := ⟨_, _, ok_is_bounds F19 T C3 C4, g19, k19, b19⟩
  have ML : MkL l.prog w K mg base C := ⟨_, _, ok_init Fm0 T L C5, ⟨mkC, am0, im0, kcC⟩, bm0⟩
  have MH : Cm l.prog w K mg base C 2 "__contains__" ["self", "thing"] (spHas C) := ⟨_, _, ok_has Fm1 T L, ⟨am1, im1, km1⟩, bm1⟩
  have MSp : Cm l.prog w K mg base C 3 "_spot" ["self", "lane"] (spSpot C) := ⟨_, _, ok_spot Fm2 L MH, ⟨am2, im2, km2⟩, bm2⟩
  have MB : Cm l.prog w K mg base C 2 "_behind" ["self", "content", "word", "spot"] (spBeh C) := ⟨_, _, ok_beh Fm3 L C7, ⟨am3, im3, km3⟩, bm3⟩
  have MO : Cm l.prog w K mg base C 4 "is_open" ["self", "content", "word", "lane"] (spOpen C) := ⟨_, _, ok_open Fm4 L MSp MB, ⟨am4, im4, km4⟩, bm4⟩
  have MD : Cm l.prog w K mg base C 4 "done" ["self", "content", "word", "lane"] (spDone C) := ⟨_, _, ok_done Fm5 L MSp MB C8, ⟨am5, im5, km5⟩, bm5⟩
  have MC : ChM l.prog w K mg base CP := ⟨_, _, ok_check Fm7 T LP CE, ⟨am7, im7, km7⟩, bm7⟩
  have MPr : MkP l.prog w K mg base CP := ⟨_, _, ok_prog Fm6 T LP g9 CRP CE MC, ⟨mkCP, am6, im6, kcCP⟩, bm6⟩
  have MPl : Cm l.prog w K mg base CP 3 "_place" ["self", "place"] (spPl CP) := ⟨_, _, ok_pl Fm8 T LP C2, ⟨am8, im8, km8⟩, bm8⟩
  have MPA : Cm l.prog w K mg base CP 4 "_place_with_arm" ["self", "place", "index"] (spPlArm CP) := ⟨_, _, ok_pla Fm9 T LP C2 MPl, ⟨am9, im9, km9⟩, bm9⟩
  have MMd : Cm l.prog w K mg base CP 4 "mode" ["self", "place"] (spMode CP) := ⟨_, _, ok_md Fm10 LP MPl, ⟨am10, im10, km10⟩, bm10⟩
  have MAs : Cm l.prog w K mg base CP 4 "arms" ["self", "place"] (spArms CP) := ⟨_, _, ok_as Fm11 T LP MPl, ⟨am11, im11, km11⟩, bm11⟩
  have MAr : Cm l.prog w K mg base CP 5 "arm" ["self", "place", "index"] (spArmAt CP) := ⟨_, _, ok_arm Fm12 LP MPA, ⟨am12, im12, km12⟩, bm12⟩
  have MU : UsM2 l.prog w K mg base CP := ⟨_, _, ok_used2 Fm13 T LP, ⟨am13, im13, km13⟩, bm13⟩
  have IR : XI l.prog w K mg base "what" R := ⟨_, _, ok_xwhat Fm14 TR, am14, im14, bm14⟩
  have IL : XI l.prog w K mg base "lane" NL := ⟨_, _, ok_xlane Fm15 TL, am15, im15, bm15⟩
  have IP : XI l.prog w K mg base "place" NP := ⟨_, _, ok_xplace Fm16 TP, am16, im16, bm16⟩
  have IA : XI l.prog w K mg base "index" NA := ⟨_, _, ok_xindex Fm17 TA, am17, im17, bm17⟩
  have MPlN : CmN l.prog w K mg base CP 3 "_place" ["self", "place"] (spPlX CP NP) := ⟨_, _, ok_plX Fm8 T LP C2 TP IP, ⟨am8, im8, km8⟩, bm8⟩
  have MPaN : CmN l.prog w K mg base CP 4 "_place_with_arm" ["self", "place", "index"] (spPlaX CP NP NA) := ⟨_, _, ok_plaX Fm9 T LP C2 MPlN TA IA, ⟨am9, im9, km9⟩, bm9⟩
  have MMdN : CmN l.prog w K mg base CP 4 "mode" ["self", "place"] (spMdX CP NP) := ⟨_, _, ok_mdX Fm10 LP MPlN, ⟨am10, im10, km10⟩, bm10⟩
  have MArN : CmN l.prog w K mg base CP 5 "arm" ["self", "place", "index"] (spArmX CP NP NA) := ⟨_, _, ok_armX Fm12 LP MPaN, ⟨am12, im12, km12⟩, bm12⟩
  have MM : MdM l.prog w K mg base CP := ⟨MMd, MAs⟩
  have CK : CaN l.prog w K mg base 3 "check_lanes" ["lanes", "programs"] (spCkX C CP NL) := ⟨_, _, ok_ckX F11 T LP MU MH TL IL, g11, k11, b11⟩
  have COA : Ca l.prog w K mg base 5 "open_arms" ["lanes", "arms", "content"] (spOA C) := ⟨_, _, ok_oa F12 T L CE MO, g12, k12, b12⟩
  have CAl : Ca l.prog w K mg base 6 "allowed" ["lanes", "mode", "arms", "content"] (spAl C) := ⟨_, _, ok_al F13 COA, g13, k13, b13⟩
  have CAt : Ca l.prog w K mg base 7 "allowed_at" ["lanes", "program", "place", "content"] (spAt C CP) := ⟨_, _, ok_at F14 LP MM CAl, g14, k14, b14⟩
  have CBA : Ca l.prog w K mg base 5 "behind_arm" ["lanes", "arm", "content"] (spBA C) := ⟨_, _, ok_ba F15 L CE MD, g15, k15, b15⟩
  have CAtN : CaN l.prog w K mg base 7 "allowed_at" ["lanes", "program", "place", "content"] (spAtX C CP NP) := ⟨_, _, ok_atX F14 LP MMdN MAs CAl, g14, k14, b14⟩
  have CC : CaN l.prog w K mg base 8 "choices" ["lanes", "program", "place", "content"] (spChX C CP NL NP) := ⟨_, _, ok_chX F16 CK CAtN, g16, k16, b16⟩
  have CMv : CaN l.prog w K mg base 8 "moved" ["lanes", "program", "place", "content", "index"] (spMvX C CP NL NP NA R) := ⟨_, _, ok_mvX F17 L LP TR IR CK MArN CAt CBA, g17, k17, b17⟩
  have CB : Ca l.prog w K mg base 1 "_law_bag" ["_law_script"] (spBag K) := ⟨_, _, hideBag (ok_bag F20 T), g20, k20, b20⟩
  have CT : Ca l.prog w K mg base 1 "_law_take" ["_law_bag_here", "_law_many"] (spTake) := ⟨_, _, hide (ok_take F21 T), g21, k21, b21⟩
  have CA : Cg l.prog w K mg base 1 "_law_alike" ["_law_found", "_law_due_here"] (spAlike) := ⟨_, _, ok_alike F22 T, g22, k22, b22⟩
  have CN : Ca l.prog w K mg base 2 "_law_names" ["_law_bag_here", "_law_many"] (spNames) := ⟨_, _, ok_names F24 T CT, g24, k24, b24⟩
  have CBo : Ca l.prog w K mg base 2 "_law_bounds" ["_law_bag_here", "_law_names_here", "_law_greatest"] (spBounds) := ⟨_, _, ok_bounds F25 T CT, g25, k25, b25⟩
  have CMx : Ca l.prog w K mg base 2 "_law_mixed" ["_law_bag_here", "_law_things"] (spMixed) := ⟨_, _, ok_mixed F23 T CT, g23, k23, b23⟩
  have CAr : Ca l.prog w K mg base 2 "_law_arm" ["_law_bag_here", "_law_names_here", "_law_places"] (spLArm) := ⟨_, _, ok_larm F26 T CT, g26, k26, b26⟩
  have CPr : Ca l.prog w K mg base 3 "_law_program" ["_law_bag_here", "_law_names_here", "_law_places"] (spLProg) := ⟨_, _, ok_lprog F27 T CT CAr, g27, k27, b27⟩
  have CS : Ca l.prog w K mg base 2 "_law_state" ["_law_bag_here", "_law_bound"] (spLState) := ⟨_, _, ok_lstate F28 CT, g28, k28, b28⟩
  have CCt : Ca l.prog w K mg base 3 "_law_content" ["_law_bag_here", "_law_bounds_here"] (spLContent) := ⟨_, _, ok_lcontent F29 T CS, g29, k29, b29⟩
  have CO : Ca l.prog w K mg base 1 "_law_opens" ["_law_bounds_here", "_law_content_here", "_law_arm_here"] (spOpens) := ⟨_, _, ok_opens F30 T, g30, k30, b30⟩
  have CLe : Ca l.prog w K mg base 1 "_law_left" ["_law_bounds_here", "_law_content_here", "_law_arm_here"] (spLeft) := ⟨_, _, ok_left F31 T, g31, k31, b31⟩
  have CCh : Ca l.prog w K mg base 2 "_law_choices" ["_law_bounds_here", "_law_row", "_law_content_here"] (spLCh) := ⟨_, _, ok_lch F32 T CO, g32, k32, b32⟩
  have CTo : Ca l.prog w K mg base 9 "_law_told" ["_law_kind", "_law_lanes", "_law_program_here", "_law_place", "_law_content_here", "_law_index"] (spTold C CP) := ⟨_, _, ok_told F33 T TL TP TA TR EL EP EA ER CC CMv, g33, k33, b33⟩
  have CDu : Ca l.prog w K mg base 3 "_law_due" ["_law_kind", "_law_bounds_here", "_law_places", "_law_place", "_law_content_here", "_law_index"] (spDue) := ⟨_, _, ok_due F34 T (PySem.W.mg_none_of X G z_min) CCh CLe, g34, k34, b34⟩
  exact ok_law F35 T (PySem.W.mg_none_of X G z_max) L LP CB CT CN CMx CBo CPr CCt CTo CDu CA ML MPr
end K25
open PySem PySem.W PyProof.Rows
set_option maxRecDepth 100000 in
set_option maxHeartbeats 0 in
theorem PySem.Challenge.cw_openlanes_k25_moves_refused_holds : PySem.Challenge.rw_openlanes_k25_moves_refused.Holds := by
  w_on; o_law; k_head; (case hw => w_witness2)
  k_fill
  refine Ol.walkG (l := PySem.Challenge.rw_openlanes_k25_moves_refused) (n := 63) (k := 10) (x := "_law_script") (sp := fun w => K25.spLaw _) rfl (by rfl) (by decide) rfl ⟨rfl, by decide, by decide⟩ (fun w h Y => PySem.W.kIn_of Y) (fun w => by rfl) ?F (fun w H a ns hl hS hL => ⟨a, ns, rfl, hS, hL, hl, fun _ => rfl⟩)
  case F =>
    intro w mg fa h KX G hmg
    refine' K25.all_mk KX G hmg ?a0 ?l0 ?c0 ?k0 ?a1 ?l1 ?c1 ?k1 ?a2 ?l2 ?c2 ?k2 ?a3 ?l3 ?c3 ?k3 ?a4 ?l4 ?c4 ?k4 ?a5 ?l5 ?c5 ?k5 ?a6 ?l6 ?c6 ?k6 ?a7 ?l7 ?c7 ?k7 ?a8 ?l8 ?c8 ?k8 ?a9 ?l9 ?c9 ?k9 ?a10 ?l10 ?c10 ?k10 ?a11 ?l11 ?c11 ?k11 ?a12 ?l12 ?c12 ?k12 ?a13 ?l13 ?c13 ?k13 ?a14 ?l14 ?c14 ?k14 ?a15 ?l15 ?c15 ?k15 ?a16 ?l16 ?c16 ?k16 ?a17 ?l17 ?c17 ?k17 ?a18 ?l18 ?c18 ?k18 ?a19 ?l19 ?c19 ?k19 ?a20 ?l20 ?c20 ?k20 ?a21 ?l21 ?c21 ?k21 ?a22 ?l22 ?c22 ?k22 ?a23 ?l23 ?c23 ?k23 ?a24 ?l24 ?c24 ?k24 ?a25 ?l25 ?c25 ?k25 ?a26 ?l26 ?c26 ?k26 ?a27 ?l27 ?c27 ?k27 ?a28 ?l28 ?c28 ?k28 ?a29 ?l29 ?c29 ?k29 ?a30 ?l30 ?c30 ?k30 ?a31 ?l31 ?c31 ?k31 ?a32 ?l32 ?c32 ?k32 ?a33 ?l33 ?c33 ?k33 ?a34 ?l34 ?c34 ?k34 ?a35 ?l35 ?c35 ?k35 ?aGC ?aGCP ?aGR ?aGNA ?aGNL ?aGNP ?aGB ?am0 ?im0 ?lm0 ?cm0 ?km0 ?am1 ?im1 ?lm1 ?cm1 ?km1 ?am2 ?im2 ?lm2 ?cm2 ?km2 ?am3 ?im3 ?lm3 ?cm3 ?km3 ?am4 ?im4 ?lm4 ?cm4 ?km4 ?am5 ?im5 ?lm5 ?cm5 ?km5 ?am6 ?im6 ?lm6 ?cm6 ?km6 ?am7 ?im7 ?lm7 ?cm7 ?km7 ?am8 ?im8 ?lm8 ?cm8 ?km8 ?am9 ?im9 ?lm9 ?cm9 ?km9 ?am10 ?im10 ?lm10 ?cm10 ?km10 ?am11 ?im11 ?lm11 ?cm11 ?km11 ?am12 ?im12 ?lm12 ?cm12 ?km12 ?am13 ?im13 ?lm13 ?cm13 ?km13 ?am14 ?im14 ?lm14 ?cm14 ?km14 ?am15 ?im15 ?lm15 ?cm15 ?km15 ?am16 ?im16 ?lm16 ?cm16 ?km16 ?am17 ?im17 ?lm17 ?cm17 ?km17 ?pgC ?hdC ?poC ?saC ?mkC ?kcC ?pgCP ?hdCP ?poCP ?saCP ?mkCP ?kcCP ?nN ?nB ?nS ?nPl ?nUs ?xR ?vR ?saR ?exR ?tyR ?kR ?gaR ?ggR ?hdR ?clR ?moR ?sBR ?nFR ?xNL ?vNL ?saNL ?exNL ?tyNL ?kNL ?gaNL ?ggNL ?hdNL ?clNL ?moNL ?sBNL ?nFNL ?xNP ?vNP ?saNP ?exNP ?tyNP ?kNP ?gaNP ?ggNP ?hdNP ?clNP ?moNP ?sBNP ?nFNP ?xNA ?vNA ?saNA ?exNA ?tyNA ?kNA ?gaNA ?ggNA ?hdNA ?clNA ?moNA ?sBNA ?nFNA ?exB ?hdB ?tyB ?ocg ?oct ?k_NL_NL ?k_NL_NP ?k_NL_NA ?k_NL_R ?k_NP_NL ?k_NP_NP ?k_NP_NA ?k_NP_R ?k_NA_NL ?k_NA_NP ?k_NA_NA ?k_NA_R ?k_R_NL ?k_R_NP ?k_R_NA ?k_R_R ?gLet ?gLong ?gW ?gM ?lW ?lM ?z_len ?z_int ?z_abs ?z_range ?z_repr ?z_isinstance ?z_all ?z_tuple ?z_list ?z_str ?z_bool ?z_dict ?z_sorted ?z_enumerate ?z_zip ?z_min ?z_max
    (case a0 => k_is)
    (case l0 => k_is)
    (case c0 => k_is)
    (case k0 => k_is)
    (case a1 => k_is)
    (case l1 => k_is)
    (case c1 => k_is)
    (case k1 => k_is)
    (case a2 => k_is)
    (case l2 => k_is)
    (case c2 => k_is)
    (case k2 => k_is)
    (case a3 => k_is)
    (case l3 => k_is)
    (case c3 => k_is)
    (case k3 => k_is)
    (case a4 => k_is)
    (case l4 => k_is)
    (case c4 => k_is)
    (case k4 => k_is)
    (case a5 => k_is)
    (case l5 => k_is)
    (case c5 => k_is)
    (case k5 => k_is)
    (case a6 => k_is)
    (case l6 => k_is)
    (case c6 => k_is)
    (case k6 => k_is)
    (case a7 => k_is)
    (case l7 => k_is)
    (case c7 => k_is)
    (case k7 => k_is)
    (case a8 => k_is)
    (case l8 => k_is)
    (case c8 => k_is)
    (case k8 => k_is)
    (case a9 => k_is)
    (case l9 => k_is)
    (case c9 => k_is)
    (case k9 => k_is)
    (case a10 => k_is)
    (case l10 => k_is)
    (case c10 => k_is)
    (case k10 => k_is)
    (case a11 => k_is)
    (case l11 => k_is)
    (case c11 => k_is)
    (case k11 => k_is)
    (case a12 => k_is)
    (case l12 => k_is)
    (case c12 => k_is)
    (case k12 => k_is)
    (case a13 => k_is)
    (case l13 => k_is)
    (case c13 => k_is)
    (case k13 => k_is)
    (case a14 => k_is)
    (case l14 => k_is)
    (case c14 => k_is)
    (case k14 => k_is)
    (case a15 => k_is)
    (case l15 => k_is)
    (case c15 => k_is)
    (case k15 => k_is)
    (case a16 => k_is)
    (case l16 => k_is)
    (case c16 => k_is)
    (case k16 => k_is)
    (case a17 => k_is)
    (case l17 => k_is)
    (case c17 => k_is)
    (case k17 => k_is)
    (case a18 => k_is)
    (case l18 => k_is)
    (case c18 => k_is)
    (case k18 => k_is)
    (case a19 => k_is)
    (case l19 => k_is)
    (case c19 => k_is)
    (case k19 => k_is)
    (case a20 => k_is)
    (case l20 => k_is)
    (case c20 => k_is)
    (case k20 => k_is)
    (case a21 => k_is)
    (case l21 => k_is)
    (case c21 => k_is)
    (case k21 => k_is)
    (case a22 => k_is)
    (case l22 => k_is)
    (case c22 => k_is)
    (case k22 => k_is)
    (case a23 => k_is)
    (case l23 => k_is)
    (case c23 => k_is)
    (case k23 => k_is)
    (case a24 => k_is)
    (case l24 => k_is)
    (case c24 => k_is)
    (case k24 => k_is)
    (case a25 => k_is)
    (case l25 => k_is)
    (case c25 => k_is)
    (case k25 => k_is)
    (case a26 => k_is)
    (case l26 => k_is)
    (case c26 => k_is)
    (case k26 => k_is)
    (case a27 => k_is)
    (case l27 => k_is)
    (case c27 => k_is)
    (case k27 => k_is)
    (case a28 => k_is)
    (case l28 => k_is)
    (case c28 => k_is)
    (case k28 => k_is)
    (case a29 => k_is)
    (case l29 => k_is)
    (case c29 => k_is)
    (case k29 => k_is)
    (case a30 => k_is)
    (case l30 => k_is)
    (case c30 => k_is)
    (case k30 => k_is)
    (case a31 => k_is)
    (case l31 => k_is)
    (case c31 => k_is)
    (case k31 => k_is)
    (case a32 => k_is)
    (case l32 => k_is)
    (case c32 => k_is)
    (case k32 => k_is)
    (case a33 => k_is)
    (case l33 => k_is)
    (case c33 => k_is)
    (case k33 => k_is)
    (case a34 => k_is)
    (case l34 => k_is)
    (case c34 => k_is)
    (case k34 => k_is)
    (case a35 => k_is)
    (case l35 => k_is)
    (case c35 => k_is)
    (case k35 => k_is)
    (case aGC => k_is)
    (case aGCP => k_is)
    (case aGR => k_is)
    (case aGNA => k_is)
    (case aGNL => k_is)
    (case aGNP => k_is)
    (case aGB => k_is)
    (case am0 => k_is)
    (case im0 => k_is)
    (case lm0 => k_is)
    (case cm0 => k_is)
    (case km0 => k_is)
    (case am1 => k_is)
    (case im1 => k_is)
    (case lm1 => k_is)
    (case cm1 => k_is)
    (case km1 => k_is)
    (case am2 => k_is)
    (case im2 => k_is)
    (case lm2 => k_is)
    (case cm2 => k_is)
    (case km2 => k_is)
    (case am3 => k_is)
    (case im3 => k_is)
    (case lm3 => k_is)
    (case cm3 => k_is)
    (case km3 => k_is)
    (case am4 => k_is)
    (case im4 => k_is)
    (case lm4 => k_is)
    (case cm4 => k_is)
    (case km4 => k_is)
    (case am5 => k_is)
    (case im5 => k_is)
    (case lm5 => k_is)
    (case cm5 => k_is)
    (case km5 => k_is)
    (case am6 => k_is)
    (case im6 => k_is)
    (case lm6 => k_is)
    (case cm6 => k_is)
    (case km6 => k_is)
    (case am7 => k_is)
    (case im7 => k_is)
    (case lm7 => k_is)
    (case cm7 => k_is)
    (case km7 => k_is)
    (case am8 => k_is)
    (case im8 => k_is)
    (case lm8 => k_is)
    (case cm8 => k_is)
    (case km8 => k_is)
    (case am9 => k_is)
    (case im9 => k_is)
    (case lm9 => k_is)
    (case cm9 => k_is)
    (case km9 => k_is)
    (case am10 => k_is)
    (case im10 => k_is)
    (case lm10 => k_is)
    (case cm10 => k_is)
    (case km10 => k_is)
    (case am11 => k_is)
    (case im11 => k_is)
    (case lm11 => k_is)
    (case cm11 => k_is)
    (case km11 => k_is)
    (case am12 => k_is)
    (case im12 => k_is)
    (case lm12 => k_is)
    (case cm12 => k_is)
    (case km12 => k_is)
    (case am13 => k_is)
    (case im13 => k_is)
    (case lm13 => k_is)
    (case cm13 => k_is)
    (case km13 => k_is)
    (case am14 => k_is)
    (case im14 => k_is)
    (case lm14 => k_is)
    (case cm14 => k_is)
    (case km14 => k_is)
    (case am15 => k_is)
    (case im15 => k_is)
    (case lm15 => k_is)
    (case cm15 => k_is)
    (case km15 => k_is)
    (case am16 => k_is)
    (case im16 => k_is)
    (case lm16 => k_is)
    (case cm16 => k_is)
    (case km16 => k_is)
    (case am17 => k_is)
    (case im17 => k_is)
    (case lm17 => k_is)
    (case cm17 => k_is)
    (case km17 => k_is)
    (case pgC => k_is)
    (case hdC => k_is)
    (case poC => k_is)
    (case saC => k_is)
    (case mkC => k_is)
    (case kcC => k_is)
    (case pgCP => k_is)
    (case hdCP => k_is)
    (case poCP => k_is)
    (case saCP => k_is)
    (case mkCP => k_is)
    (case kcCP => k_is)
    (case nN => k_is)
    (case nB => k_is)
    (case nS => k_is)
    (case nPl => k_is)
    (case nUs => k_is)
    (case xR => first | k_is | rfl | decide +kernel)
    (case vR => first | k_is | rfl | decide +kernel)
    (case saR => k_is)
    (case exR => k_is)
    (case tyR => k_is)
    (case kR => k_is)
    (case gaR => k_is)
    (case ggR => k_is)
    (case hdR => k_is)
    (case clR => k_is)
    (case moR => k_is)
    (case sBR => k_is)
    (case nFR => k_is)
    (case xNL => first | k_is | rfl | decide +kernel)
    (case vNL => first | k_is | rfl | decide +kernel)
    (case saNL => k_is)
    (case exNL => k_is)
    (case tyNL => k_is)
    (case kNL => k_is)
    (case gaNL => k_is)
    (case ggNL => k_is)
    (case hdNL => k_is)
    (case clNL => k_is)
    (case moNL => k_is)
    (case sBNL => k_is)
    (case nFNL => k_is)
    (case xNP => first | k_is | rfl | decide +kernel)
    (case vNP => first | k_is | rfl | decide +kernel)
    (case saNP => k_is)
    (case exNP => k_is)
    (case tyNP => k_is)
    (case kNP => k_is)
    (case gaNP => k_is)
    (case ggNP => k_is)
    (case hdNP => k_is)
    (case clNP => k_is)
    (case moNP => k_is)
    (case sBNP => k_is)
    (case nFNP => k_is)
    (case xNA => first | k_is | rfl | decide +kernel)
    (case vNA => first | k_is | rfl | decide +kernel)
    (case saNA => k_is)
    (case exNA => k_is)
    (case tyNA => k_is)
    (case kNA => k_is)
    (case gaNA => k_is)
    (case ggNA => k_is)
    (case hdNA => k_is)
    (case clNA => k_is)
    (case moNA => k_is)
    (case sBNA => k_is)
    (case nFNA => k_is)
    (case exB => k_is)
    (case hdB => k_is)
    (case tyB => k_is)
    (case ocg => k_is)
    (case oct => k_is)
    (case k_NL_NL => first | k_is | rfl | decide +kernel)
    (case k_NL_NP => first | k_is | rfl | decide +kernel)
    (case k_NL_NA => first | k_is | rfl | decide +kernel)
    (case k_NL_R => first | k_is | rfl | decide +kernel)
    (case k_NP_NL => first | k_is | rfl | decide +kernel)
    (case k_NP_NP => first | k_is | rfl | decide +kernel)
    (case k_NP_NA => first | k_is | rfl | decide +kernel)
    (case k_NP_R => first | k_is | rfl | decide +kernel)
    (case k_NA_NL => first | k_is | rfl | decide +kernel)
    (case k_NA_NP => first | k_is | rfl | decide +kernel)
    (case k_NA_NA => first | k_is | rfl | decide +kernel)
    (case k_NA_R => first | k_is | rfl | decide +kernel)
    (case k_R_NL => first | k_is | rfl | decide +kernel)
    (case k_R_NP => first | k_is | rfl | decide +kernel)
    (case k_R_NA => first | k_is | rfl | decide +kernel)
    (case k_R_R => first | k_is | rfl | decide +kernel)
    (case gLet => k_is)
    (case gLong => k_is)
    (case gW => k_is)
    (case gM => k_is)
    (case lW => k_is)
    (case lM => k_is)
    (case z_len => k_is)
    (case z_int => k_is)
    (case z_abs => k_is)
    (case z_range => k_is)
    (case z_repr => k_is)
    (case z_isinstance => k_is)
    (case z_all => k_is)
    (case z_tuple => k_is)
    (case z_list => k_is)
    (case z_str => k_is)
    (case z_bool => k_is)
    (case z_dict => k_is)
    (case z_sorted => k_is)
    (case z_enumerate => k_is)
    (case z_zip => k_is)
    (case z_min => k_is)
    (case z_max => k_is)

