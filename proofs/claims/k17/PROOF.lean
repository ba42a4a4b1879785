import PyProof.Rows.All
import Wide.All
import OpenK.AllK
import Wide.FinOn
import HandS.ForMost
import HandS.IsInst
import PyProof.ReprRoads
import HandS.Walk
import HandS.Text
import PyProof.StrOps2
import PyProof.ReprText
import KE.GoesMore
import HandS.Iter
import HandS.DictComp
import HandS.More
import HandS.Property
import HandS.TupMul
import HandS.ExcInit
import HandS.ExcField
import HandS.WordsExc
import HandS.ExcOwn
import HandS.TryOnly
import HandS.Zip
import HandS.Deep
import HandS.Style
import HandS.WordsDict
import HandS.TupAny
import PySem.Challenge.RW_openlanes_k17_whole_lanes_in_use
set_option Elab.async false
set_option linter.all false
set_option maxRecDepth 100000
set_option maxHeartbeats 4000000
/-! Own rules: defs that may show data (no display is under way), and the law's end for them. -/
namespace Ol
open PySem PySem.Spec PyProof.Rows L2

/-- a def's promise where no display is under way -/
structure FnG (P : Program) (w : World) (K : PySem.W.Frag)
    (mg : Str → Option Value) (base : Heap) (k : Nat)
    (f : Addr) (fd : FuncData) (ps : List Str) (sp : Sp) : Prop where
  len : ∀ vs H Q E, sp vs H Q E → vs.length = ps.length
  go : ∀ (A : Around) (outer : List Env) (s : Shared) (H : Hp)
    (args : Args) (us : List Value) (vs : List V) (Q : VK) (E : XK),
    A.guards = some [] → Room k A → Env0 P w K mg base A outer s H →
    BindsTo s fd args (ps.zip us) → Vals vs us → sp vs H Q E →
    codeAny (model P w) A (.call (.ref f) args)
      (CR CX0 outer P w H s Q E) s

section
variable {P : Program} {w : World} {K : PySem.W.Frag}
  {mg : Str → Option Value} {base : Heap} {k : Nat}

theorem FnG.of {f : Addr} {fd : FuncData} {ps : List Str} {sp : Sp}
    (F : FnOk P w K mg base CX0 k f fd ps sp) : FnG P w K mg base k f fd ps sp :=
  ⟨F.len, fun A o s H as us vs Q E _ r => F.run A o s H as us vs Q E r⟩

/-- the rule for a def, its body's context has no display under way -/
theorem okG {x qual : Str} {st : Stmt} {f : Addr} {fd : FuncData}
    {N ps : List Str} {sp : Sp} (F : Fun K x qual st f fd)
    (S : FnScope N ps (defScope st))
    (len : ∀ vs H Q E, sp vs H Q E → vs.length = ps.length)
    (body : ∀ (cdv : Value) (A : Around) (outer : List Env) (s : Shared)
      (H : Hp) (vs : List V) (Q : VK) (E : XK),
      (A.deeper (envOfC qual (defScope st) s.heap.objs.size f cdv)).guards = some [] →
      Room k (A.deeper (envOfC qual (defScope st) s.heap.objs.size f cdv)) →
      sp vs H Q E → ∃ t,
        PSs (cxOf CX0 P w K mg base N qual (defScope st) f cdv A outer s H E).nox
          (defBody st) t ∧
        t { nx := fun _ H' => Q .non H', rt := Q } (start N vs) H) :
    FnG P w K mg base (k + 1) f fd ps sp := by
  obtain ⟨oc, od, kV, doc, pm, an, cdv, ct, osl, rfl, lk, hcd⟩ := F.ex
  refine ⟨len, ?_⟩
  intro A outer s H args us vs Q E hG room e0 hb rv hsp
  have hlen := len _ _ _ _ hsp
  have kin : K.In s.heap :=
    e0.mod.kin.keeps (fun b o e => (e0.bs b o e).1)
  have nol : s.heap.NoLimit :=
    e0.mod.nolimit.keeps (fun b o e => (e0.bs b o e).1)
  have kinds : ∀ y ∈ ps.zip us,
      (defScope st).names.lookup y.1 = some .local ∨
      ((defScope st).names.lookup y.1 = some .cell ∧
        ((cellsFrom (s.heap.objs.size + 1) (defScope st).names []).lookup y.1).isSome = true) := by
    rintro ⟨n, v⟩ hy
    cases S.par n (List.of_mem_zip hy).1 with
    | inl q => exact Or.inl q
    | inr q => exact Or.inr ⟨q, PySem.W.cellsFrom_some _ _ _ (Or.inl q)⟩
  refine codeAny_call_function room.depth (kin _ _ lk) rfl S.co S.gen rfl
    (PySem.W.codeRec_of kin hcd) (hb _ _ _ _ ?_)
  refine wpAny_newFunctionEnv_cells S.kind kinds ?_
  intro env he s1 x
  subst he
  refine ⟨nol.keeps x.toInCall.keep, codeAny_func ?_⟩
  have hG' : (A.deeper (envOfC qual (defScope st) s.heap.objs.size f cdv)).guards = some [] := by
    exact hG
  obtain ⟨t, ht0, hq⟩ := body cdv A outer s H vs Q E hG' (room.deeper _) hsp
  have ht := ht0.nox
  have I := inv_start (CX := CX0) (E := E) S room.hd e0 hlen rv x
  have out : ∀ {σ' : L2.St} {H' : Hp} {v : V} {u : Value} {s' : Shared},
      Inv (cxOf CX0 P w K mg base N qual (defScope st) f cdv A outer s H E) [] σ' H' s' →
      RelV v u → Q v H' → CE outer P w H s Q u s' :=
    fun J r q => ⟨_, _, J.os, J.bare, J.base, J.hok, r, q⟩
  refine wpAny_mono (ht.run [] s1 (start N vs) H _ I hq) ?_ (fun _ _ z => z)
  intro fl s' hs
  cases fl with
  | next =>
    obtain ⟨_, _, J, q⟩ := hs
    exact out (v := V.non) (u := Value.none) J rfl q
  | ret u =>
    obtain ⟨_, _, _, J, r, q⟩ := hs
    exact out J r q
  | brk => exact hs.choose_spec.choose_spec.2.elim
  | cont => exact hs.choose_spec.choose_spec.2.elim
end

section
variable {X : Cx} {k : Nat} {f : Addr} {fd : FuncData} {ps : List Str}
  {sp : Sp} {E : XK} {x : Str} {e : Expr} {es : List Expr} {t : TA}
  {p pos : Pos} {ds : List Value} {dvs : List V}
/-- f(..) of such a def -/
theorem pe_callG (F : FnG X.prog X.w X.K X.mg X.base k f fd ps sp)
    (hG : X.A.guards = some []) (hr : Room k X.A) (hg : Gl X x)
    (hm : X.mg x = some (.ref f)) (hk : PySem.W.keepIn X.K (.ref f) = true)
    (hb : Binds X.K fd ps []) (ha : PA X (e :: es) t)
    (hdb : (x == ("__debug__" : Str)) = false := by decide)
    (he : starEach (e :: es) X.env = (false, eval e X.env) :: starEach es X.env := by rfl)
    (hpl : (backTo pos (starEach es X.env)).any (·.1) = false := by rfl) :
    PE X (.Call (.Name x p) (e :: es) [] pos) (tCall sp [] E0 t) := by
  constructor
  intro pins s σ H Q I h
  apply wpAny_Call_Name_kw
  apply ld_glob I hg hm (hd := hdb)
  refine PySem.W.callWith_K (h₀ := X.base) I.ok.mod.kin hk ?_ he hpl
  refine thn (ha.run pos pins s σ H _ I h) ?_
  rintro us s1 ⟨vs, H1, I1, r, q⟩
  refine ⟨I1.kIn, ?_⟩
  have q' : sp vs H1 Q E0 := by
    have z : sp (vs ++ []) H1 Q E0 := q
    rwa [List.append_nil] at z
  have hl : us.length = ps.length := by
    rw [← r.length]
    exact F.len _ _ _ _ q'
  have hbs := hb s1 us I1.kIn (by simpa using hl)
  rw [List.append_nil] at hbs
  refine wpAny_call (codeAny_mono (F.go X.A X.stack s1 H1 ⟨us, []⟩ us vs Q E0 hG hr I1.env0 hbs r q') ?_)
  intro res s2 hres
  cases res with
  | error z => exact False.elim hres
  | ok fl =>
    cases fl with
    | ret u => exact I1.after hres
    | next => exact False.elim hres
    | brk => exact False.elim hres
    | cont => exact False.elim hres
end
end Ol

set_option Elab.async false
set_option linter.all false
set_option maxRecDepth 100000
set_option maxHeartbeats 4000000
namespace Ol
open PySem PySem.Spec PyProof.Rows L2

/-- the table of modules is set aside: no list stands there -/
def Sys (H : Hp) : Prop := ∃ o u, H sysModules = some (.frz o u)

/-- every tracked object is locked -/
def Lockd (H : Hp) : Prop := ∀ b u, H b = some u → ∃ o v, u = .frz o v

section
variable {P : Program} {w : World} {K : PySem.W.Frag} {mg mb : Str → Option Value}
  {k : Nat} {fa a : Addr} {fd : FuncData} {x : Str} {sp : Sp} {s1 : Shared}

/-- the call of the law from a heap in which some objects are locked -/
theorem enterG (H : Hp) (hL : Lockd H) (ok : HOk P w H s1.heap)
    (hK : ∀ b, H b ≠ none → K.lookup b = none)
    (hN : ∀ b m, s1.heap.Ns b m → (b = 0 ∨ b = 3 ∨ b = cStatics) → H b = none)
    (kin : K.In s1.heap) (hns : s1.heap.Ns mainGlobals mg) (hb : s1.heap.Ns builtinsNs mb)
    (hbb : ∀ y : Str, y ≠ "__name__" → mb y = bootBuiltins y)
    (hlim : s1.heap.NoLimit) (hg : s1.gens = #[]) (hr : Room k callerA)
    (F : ∀ base : Heap, K.In base → base.Ns mainGlobals mg → FnG P w K mg base k fa fd [x] sp)
    (bind : ∀ (s : Shared) (u : Value), BindsTo s fd ⟨[u], []⟩ [(x, u)])
    (hsp : sp [.ref a] H (fun v _ => v = .bl true) E0) :
    codeAny (model P w) callerA (.call (.ref fa) ⟨[.ref a], []⟩)
      (fun r s' => r = .ok (.ret (.bool true)) ∧ OldK s1.heap s'.heap ∧
        s'.os = s1.os ∧ AllBare s'.gens) s1 := by
  have ns : ∀ {b : Addr} {m : Str → Option Value}, s1.heap.Ns b m →
      (b = 0 ∨ b = 3 ∨ b = cStatics) → (hidT s1.heap H).Ns b m := by
    intro b m h c
    have n := hN b m h c
    obtain ⟨o, es, ep, e, r⟩ := h
    exact ⟨o, es, ep, hidT_get e n, r⟩
  have kb : K.In (hidT s1.heap H) := by
    intro b o e
    refine hidT_get (kin b o e) ?_
    cases q : H b with
    | none => rfl
    | some u =>
      have z := hK b (by rw [q]; exact fun t => nomatch t)
      rw [z] at e
      cases e
  have gl : (hidT s1.heap H).Ns mainGlobals mg := ns hns (Or.inr (Or.inl rfl))
  have md : Mod K mg (hidT s1.heap H) := by
    refine ⟨kb, gl, ⟨mb, ns hb (Or.inl rfl), hbb⟩, ?_⟩
    obtain ⟨mc, h1, h2⟩ := hlim
    exact ⟨mc, ns h1 (Or.inr (Or.inr rfl)), h2⟩
  have e0 : Env0 P w K mg (hidT s1.heap H) callerA [] s1 H := by
    refine ⟨rfl, md, fun b o e => of_hidT e, Nat.le_of_eq (hidT_size _ _), trivial, ?_, ok, .of_eq hg⟩
    intro b hb
    cases hb
  have run := (F _ kb gl).go callerA [] s1 H ⟨[.ref a], []⟩ [.ref a] [.ref a]
    (fun v _ => v = .bl true) E0 rfl hr e0 (bind s1 (.ref a)) (.cons rfl .nil) hsp
  refine codeAny_mono run ?_
  intro r s' h
  match r, h with
  | .error e, h => exact h.elim
  | .ok .next, h => exact h.elim
  | .ok .brk, h => exact h.elim
  | .ok .cont, h => exact h.elim
  | .ok (.ret u), h =>
    obtain ⟨v, H', os, bare, un, ok', rv, q⟩ := h
    have q' : v = .bl true := q
    subst q'
    have eu : u = Value.bool true := rv
    subst eu
    refine ⟨rfl, OldK.of_keep ?_, os, bare⟩
    intro b o e
    cases q : H b with
    | none => exact un.keep b o e q (fun z => nomatch z) (fun z => nomatch z)
    | some u =>
      obtain ⟨ob, v, rfl⟩ := hL b u q
      have q2 := un.frzs b ob v q
      have e1 : s1.heap.get? b = some ob := (ok b _ q).1
      have e2 : s'.heap.get? b = some ob := (ok' b _ q2).1
      rw [e] at e1
      cases e1
      exact e2

/-- the law's heap at its entry: the script locked (or of the module), the table of modules locked -/
theorem law_callG {vs : List Value} {ns : List Int}
    (kin : K.In s1.heap) (kS : K.lookup sysModules = none)
    (hS : ∃ o, s1.heap.get? sysModules = some o)
    (hns : s1.heap.Ns mainGlobals mg) (hb : s1.heap.Ns builtinsNs mb)
    (hbb : ∀ y : Str, y ≠ "__name__" → mb y = bootBuiltins y)
    (hlim : s1.heap.NoLimit) (hg : s1.gens = #[])
    (ha : s1.heap.get? a = some { cls := .type "list", data := .seq vs.toArray })
    (hi : IntsAre vs ns) (hl : ns.length ≤ sizeLine) (hr : Room k callerA)
    (F : ∀ base : Heap, K.In base → base.Ns mainGlobals mg → FnG P w K mg base k fa fd [x] sp)
    (bind : ∀ (s : Shared) (u : Value), BindsTo s fd ⟨[u], []⟩ [(x, u)])
    (hsp : ∀ H : Hp, Sys H → SqL K H a (ns.map V.int) → sp [.ref a] H (fun v _ => v = .bl true) E0) :
    codeAny (model P w) callerA (.call (.ref fa) ⟨[.ref a], []⟩)
      (fun r s' => r = .ok (.ret (.bool true)) ∧ OldK s1.heap s'.heap ∧
        s'.os = s1.os ∧ AllBare s'.gens) s1 := by
  have rv := vals_ints hi
  obtain ⟨o1, ho1⟩ := hS
  -- no namespace is locked
  have dat : ∀ b m, s1.heap.Ns b m → b ≠ a := by
    rintro b m ⟨o, es, ep, e, d, _⟩ rfl
    rw [ha] at e
    cases e
    have d' : Data.seq vs.toArray _ = Data.dict es ep := d
    cases d'
  have nsys : ∀ b : Addr, (b = 0 ∨ b = 3 ∨ b = cStatics) → b ≠ sysModules := by
    rintro b (rfl | rfl | rfl) <;> decide
  have okS : ∀ H : Hp, ObjOk P w H s1.heap sysModules (.frz o1 (.ext fun _ => True)) :=
    fun H => ⟨ho1, trivial, ⟨o1, ho1⟩, fun _ _ _ _ => trivial⟩
  cases hk : K.lookup a with
  | some o =>
    have e := kin a o hk
    rw [ha] at e
    cases e
    have hL : SqL K (fun b => if b = sysModules then some (.frz o1 (.ext fun _ => True)) else none) a (ns.map V.int) := by
      refine Or.inr ⟨_, vs.toArray, _, hk, rfl, rfl, rfl, ?_, by simpa using rv⟩
      rw [List.size_toArray, hi.length]
      exact hl
    refine enterG (fun b => if b = sysModules then some (.frz o1 (.ext fun _ => True)) else none)
      ?_ ?_ ?_ ?_ kin hns hb hbb hlim hg hr F bind (hsp _ ⟨o1, _, if_pos rfl⟩ hL)
    · intro b u q
      by_cases c : b = sysModules
      · have q' := (if_pos c).symm.trans q
        cases q'
        exact ⟨_, _, rfl⟩
      · have q' := (if_neg c).symm.trans q
        cases q'
    · intro b u q
      by_cases c : b = sysModules
      · have q' := (if_pos c).symm.trans q
        cases q'
        subst c
        exact okS _
      · have q' := (if_neg c).symm.trans q
        cases q'
    · intro b q
      by_cases c : b = sysModules
      · subst c
        exact kS
      · exact absurd (if_neg c) q
    · intro b m _ c
      exact if_neg (nsys b c)
  | none =>
    let H0 : Hp := fun b => if b = a then some (.frz { cls := .type "list", data := .seq vs.toArray } (.lst (ns.map V.int)))
      else if b = sysModules then some (.frz o1 (.ext fun _ => True)) else none
    have at_a : H0 a = some (.frz { cls := .type "list", data := .seq vs.toArray } (.lst (ns.map V.int))) := if_pos rfl
    have sysH : Sys H0 := by
      by_cases c : sysModules = a
      · exact ⟨_, _, if_pos c⟩
      · exact ⟨o1, _, (if_neg c).trans (if_pos rfl)⟩
    refine enterG H0 ?_ ?_ ?_ ?_ kin hns hb hbb hlim hg hr F bind (hsp _ sysH (Or.inl (Or.inr ⟨_, at_a⟩)))
    · intro b u q
      by_cases c : b = a
      · have q' := (if_pos c).symm.trans q
        cases q'
        exact ⟨_, _, rfl⟩
      · by_cases c2 : b = sysModules
        · have q' := ((if_neg c).trans (if_pos c2)).symm.trans q
          cases q'
          exact ⟨_, _, rfl⟩
        · have q' := ((if_neg c).trans (if_neg c2)).symm.trans q
          cases q'
    · intro b u q
      by_cases c : b = a
      · have q' := (if_pos c).symm.trans q
        cases q'
        subst c
        exact ⟨ha, by rw [List.length_map]; exact hl, vs, _, rv, ha⟩
      · by_cases c2 : b = sysModules
        · have q' := ((if_neg c).trans (if_pos c2)).symm.trans q
          cases q'
          subst c2
          exact okS _
        · have q' := ((if_neg c).trans (if_neg c2)).symm.trans q
          cases q'
    · intro b q
      by_cases c : b = a
      · rw [c]
        exact hk
      · by_cases c2 : b = sysModules
        · rw [c2]
          exact kS
        · exact absurd ((if_neg c).trans (if_neg c2)) q
    · intro b m h c
      exact (if_neg (dat b m h)).trans (if_neg (nsys b c))
end

/-- the end of a law's row, by a promise of FnG -/
theorem walkG {l : PySem.W.OpenLaw} {n k : Nat} {q : Program} {loose : List Str}
    {XP : (Str → Option Value) → Heap → Prop} {YP : World → Heap → Prop} {d : DefRec}
    {K : Params → PySem.W.Frag} {sp : World → Sp} {x : Str}
    (hn : l.most = some n) (him : importsNone q = true) (hn2 : n ≤ sizeLine) (hdf : d.params.defaults = []) (hr : Room k callerA)
    (hY : ∀ (w : World) (h : Heap), YP w h → (K w.params).In h)
    (kS : ∀ w : World, (K w.params).lookup sysModules = none)
    (F : ∀ (w : World) (mg : Str → Option Value) (fa : Addr) (h : Heap),
      (K w.params).In h → h.Ns mainGlobals mg → mg d.name = some (.ref fa) →
      ∃ fd : FuncData, (∀ (s : Shared) (u : Value), BindsTo s fd ⟨[u], []⟩ [(x, u)]) ∧
        ∀ base : Heap, (K w.params).In base → base.Ns mainGlobals mg →
          FnG l.prog w (K w.params) mg base k fa fd [x] (sp w))
    (hsp : ∀ (w : World) (H : Hp) (a : Addr) (ns : List Int), ns.length ≤ n → Sys H →
      SqL (K w.params) H a (ns.map V.int) → sp w [.ref a] H (fun v _ => v = .bl true) E0) :
    PySem.W.WalkO q loose XP YP l.row.toRowW d [] (fun f vs => PySem.call f vs) := by
  refine Att.attach_call hn hdf ?_
  intro w s0 s1 mg mb fa o pm cd doc a vs ns G Y ho hd hcd hmg hobj hints hlen hg
  have kin := hY w _ Y
  obtain ⟨fd, hb, hF⟩ := F w mg fa _ kin G.T.g hmg
  have hS : ∃ o, s1.heap.get? sysModules = some o := by
    obtain ⟨mm, ⟨o, es, ep, e, _⟩, _⟩ := (G.T.seer him).mods
    exact ⟨o, e⟩
  exact law_callG kin (kS w) hS G.T.g G.T.b G.T.builtins G.T.nolimit hg hobj hints
    (Nat.le_trans hlen hn2) hr hF hb (fun H h1 h2 => hsp w H a ns hlen h1 h2)
end Ol

set_option Elab.async false
set_option linter.all false
set_option maxRecDepth 100000
set_option maxHeartbeats 4000000
namespace Ol
open PySem PySem.Spec PyProof.Rows L2

/-- a key of a dict as data -/
def keyD : Key → PyData
  | .inl i => .int i
  | .inr x => .str x

/-! ### data of any depth, dicts with ints and texts as keys too -/
mutual
inductive Dq (H : Hp) : V → PyData → Prop
  | non : Dq H .non .none
  | bl (b : Bool) : Dq H (.bl b) (.bool b)
  | int (i : Int) : Dq H (.int i) (.int i)
  | str (x : Str) : Dq H (.str x) (.str x)
  | lst {a : Addr} {xs : List V} {ds : List PyData} :
      H a = some (.lst xs) → DqAll H xs ds → Dq H (.ref a) (.list ds)
  | tup {a : Addr} {xs : List V} {ds : List PyData} :
      H a = some (.tup xs) → DqAll H xs ds → Dq H (.ref a) (.tuple ds)
  | dct {a : Addr} {kvs : List (Key × V)} {ds : List PyData} :
      H a = some (.dK kvs) → DqAll H (kvs.map (·.2)) ds →
      Dq H (.ref a) (.dict ((kvs.map fun kv => keyD kv.1).zip ds))
inductive DqAll (H : Hp) : List V → List PyData → Prop
  | nil : DqAll H [] []
  | cons {v : V} {vs : List V} {d : PyData} {ds : List PyData} :
      Dq H v d → DqAll H vs ds → DqAll H (v :: vs) (d :: ds)
end

theorem DqAll.len {H : Hp} : ∀ {vs : List V} {ds : List PyData}, DqAll H vs ds → vs.length = ds.length
  | [], _, h => by cases h; rfl
  | v :: vs, _, h => by
    cases h with
    | cons _ t => rw [List.length_cons, List.length_cons, t.len]

/-- what is tracked in H stands in H' as well -/
def Ext (H H' : Hp) : Prop := ∀ b o, H b = some o → H' b = some o

mutual
theorem Dq.up {H H' : Hp} (e : Ext H H') : ∀ {v : V} {d : PyData}, Dq H v d → Dq H' v d
  | _, _, .non => .non
  | _, _, .bl b => .bl b
  | _, _, .int i => .int i
  | _, _, .str x => .str x
  | _, _, .lst h t => .lst (e _ _ h) (DqAll.up e t)
  | _, _, .tup h t => .tup (e _ _ h) (DqAll.up e t)
  | _, _, .dct h t => .dct (e _ _ h) (DqAll.up e t)
theorem DqAll.up {H H' : Hp} (e : Ext H H') : ∀ {vs : List V} {ds : List PyData}, DqAll H vs ds → DqAll H' vs ds
  | _, _, .nil => .nil
  | _, _, .cons h t => .cons (Dq.up e h) (DqAll.up e t)
end

section
variable {X : Cx} {pins : List (Addr × Obj)} {σ : L2.St} {H : Hp} {s : Shared}

theorem keys_reads {h : Heap} {knd : List (Key × Value)} : ∀ {kvs : List (Key × V)} {es : List DictEntry} {vs : List (Key × Value)},
    L2.KV kvs vs → Pairs (mixKind X.prog X.w) es vs →
    ReadsAll h (es.map (·.key)) (kvs.map fun kv => keyD kv.1) [] ∧ Vals (kvs.map (·.2)) (es.map (·.val))
  | [], es, _, r, p => by
    cases r
    cases p
    exact ⟨.nil, .nil⟩
  | kv :: kvs, es, _, r, p => by
    cases r with
    | cons r1 r2 =>
      cases p with
      | cons p1 p2 p3 =>
        obtain ⟨q1, q2⟩ := keys_reads (h := h) (knd := knd) r2 p3
        refine ⟨?_, .cons ?_ q2⟩
        case refine_2 =>
          have z := r1.2
          rw [← p2] at z
          exact z
        have e1 := r1.1
        rw [← e1] at p1
        rcases keyIs_shape p1 with ⟨i, t, e, e'⟩ | ⟨x, t, e, e'⟩
        · have z := ReadsAll.cons (Reads.int (h := h) i t) q1
          rw [List.map_cons, List.map_cons, e, e']
          exact z
        · have z := ReadsAll.cons (Reads.str (h := h) x t) q1
          rw [List.map_cons, List.map_cons, e, e']
          exact z

theorem zip_fst {α β : Type} : ∀ {xs : List α} {ys : List β}, xs.length = ys.length → (xs.zip ys).map (·.1) = xs
  | [], _, _ => by simp
  | x :: xs, [], h => by simp at h
  | x :: xs, y :: ys, h => by
    rw [List.zip_cons_cons, List.map_cons, zip_fst (by simpa using h)]
theorem zip_snd {α β : Type} : ∀ {xs : List α} {ys : List β}, xs.length = ys.length → (xs.zip ys).map (·.2) = ys
  | [], [], _ => by simp
  | [], y :: ys, h => by simp at h
  | x :: xs, [], h => by simp at h
  | x :: xs, y :: ys, h => by
    rw [List.zip_cons_cons, List.map_cons, zip_snd (by simpa using h)]

mutual
theorem Dq.reads (I : Inv X pins σ H s) (S : Sys H) : ∀ {v : V} {d : PyData} {u : Value}, Dq H v d → RelV v u →
    ∃ as, Reads s.heap u d as ∧ sysModules ∉ as
  | _, _, _, .non, r => by
    cases r
    exact ⟨_, Reads.none, nofun⟩
  | _, _, _, .bl b, r => by
    cases r
    exact ⟨_, Reads.bool b, nofun⟩
  | _, _, _, .int i, r => by
    obtain ⟨t, rfl⟩ := r
    exact ⟨_, Reads.int i t, nofun⟩
  | _, _, _, .str x, r => by
    obtain ⟨t, rfl⟩ := r
    exact ⟨_, Reads.str x t, nofun⟩
  | _, _, _, .lst (a := a) (xs := xs) h t, r => by
    cases r
    obtain ⟨_, its, n, rv, e⟩ := I.hok a _ h
    obtain ⟨as, q, n1⟩ := DqAll.reads I S t rv
    refine ⟨_, Reads.list e rfl rfl q, ?_⟩
    intro m
    rcases List.mem_cons.mp m with m | m
    · obtain ⟨o, u, hs⟩ := S
      rw [m, h] at hs
      cases hs
    · exact n1 m
  | _, _, _, .tup (a := a) (xs := xs) h t, r => by
    cases r
    obtain ⟨_, its, rv, o, e, c, n, d⟩ := I.hok a _ h
    obtain ⟨as, q, n1⟩ := DqAll.reads I S t rv
    exact ⟨_, Reads.tuple e c d q, n1⟩
  | _, _, _, .dct (a := a) (kvs := kvs) (ds := ds) h t, r => by
    cases r
    obtain ⟨_, na, vs, rel, o, es, ep, e, ex, hd, _, pr, _⟩ := I.hok a _ h
    obtain ⟨q1, q2⟩ := keys_reads (X := X) (h := s.heap) (knd := vs) rel pr
    obtain ⟨bs, q3, n1⟩ := DqAll.reads I S t q2
    have hl : (kvs.map fun kv => keyD kv.1).length = ds.length := by
      rw [List.length_map, ← t.len, List.length_map]
    refine ⟨_, Reads.dict (kvs := (kvs.map fun kv => keyD kv.1).zip ds) e ex.1 hd (as := []) (bs := bs) ?_ ?_, ?_⟩
    · rw [zip_fst hl]
      exact q1
    · rw [zip_snd hl]
      exact q3
    · intro m
      rcases List.mem_cons.mp m with m | m
      · rw [← m] at na
        exact absurd na (by decide)
      · exact n1 (by simpa using m)
theorem DqAll.reads (I : Inv X pins σ H s) (S : Sys H) : ∀ {vs : List V} {ds : List PyData} {us : List Value}, DqAll H vs ds → Vals vs us →
    ∃ as, ReadsAll s.heap us ds as ∧ sysModules ∉ as
  | _, _, _, .nil, r => by
    cases r
    exact ⟨_, ReadsAll.nil, nofun⟩
  | _, _, _, .cons h t, r => by
    cases r with
    | cons r1 r2 =>
      obtain ⟨as, q1, n1⟩ := Dq.reads I S h r1
      obtain ⟨bs, q2, n2⟩ := DqAll.reads I S t r2
      refine ⟨_, ReadsAll.cons q1 q2, ?_⟩
      intro m
      rcases List.mem_append.mp m with m | m
      · exact n1 m
      · exact n2 m
end
end

/-- repr(x) of data -/
def rRepr : List V → Hp → VK → Prop := fun vs H Q => ∃ v d, vs = [v] ∧ Sys H ∧ Dq H v d ∧
  d.showable = true ∧ d.depth ≤ 40 ∧ d.shown.length ≤ sizeLine ∧ Q (.str d.shown) H

theorem call_reprD {X : Cx} {k : Nat} (hG : X.A.guards = some []) (hr : Room k X.A) : CallR X (.builtin "repr") rRepr := by
  intro pins s σ H vs us Q I r h
  obtain ⟨v, d, rfl, S, hd, hs, hdp, hz, q⟩ := h
  obtain ⟨u, rfl, ru⟩ := vals1 r
  have hu := hr.units
  obtain ⟨as, rd, n1⟩ := Dq.reads I S hd ru
  have leaf : ∀ {x : Str}, x = d.shown → EP X pins σ Q (.str x s.toks) { s with toks := s.toks + 1 } := by
    rintro x rfl
    exact ⟨.str _, H, I.tok _, ⟨_, rfl⟩, q⟩
  cases hd with
  | non =>
    cases ru
    exact PySem.P.repr_of_none (leaf (by simp only [PyData.shown]))
  | bl b =>
    cases ru
    exact PySem.P.repr_of_bool (leaf (by simp only [PyData.shown]))
  | int i =>
    obtain ⟨t, rfl⟩ := ru
    exact PySem.P.repr_of_int (by simpa [PyData.showable] using hs) (leaf (by simp only [PyData.shown]))
  | str x =>
    obtain ⟨t, rfl⟩ := ru
    exact PySem.P.repr_of_str (leaf (by simp only [PyData.shown])) (by simpa only [PyData.shown] using hz)
  | lst h t =>
    cases ru
    exact repr_of_reads' rd hs (fun _ => n1) hG (by omega) (fun _ _ e => e)
      (fun h' u tk hk => ⟨.str _, H, I.kept (t' := tk) hk, ⟨u, rfl⟩, q⟩) hz
  | tup h t =>
    cases ru
    exact repr_of_reads' rd hs (fun _ => n1) hG (by omega) (fun _ _ e => e)
      (fun h' u tk hk => ⟨.str _, H, I.kept (t' := tk) hk, ⟨u, rfl⟩, q⟩) hz
  | dct h t =>
    cases ru
    exact repr_of_reads' rd hs (fun _ => n1) hG (by omega) (fun _ _ e => e)
      (fun h' u tk hk => ⟨.str _, H, I.kept (t' := tk) hk, ⟨u, rfl⟩, q⟩) hz
end Ol

set_option Elab.async false
set_option linter.all false
set_option maxRecDepth 100000
set_option maxHeartbeats 4000000
namespace Ol
open PySem PySem.Spec PyProof.Rows L2

theorem Ext.refl (H : Hp) : Ext H H := fun _ _ e => e
theorem Ext.trans {H H1 H2 : Hp} (a : Ext H H1) (b : Ext H1 H2) : Ext H H2 := fun c o e => b c o (a c o e)
theorem Ext.new {H : Hp} {p : Addr} {o : HO} (h : H p = none) : Ext H (upd H p o) := fun b u e => by
  rw [upd_ne (ne_of_none e h)]
  exact e
/-- what was not tracked at the start may change -/
theorem Ext.mut {H H' : Hp} {p : Addr} {o : HO} (e : Ext H H') (h : H p = none) : Ext H (upd H' p o) := fun b u eb => by
  rw [upd_ne (ne_of_none eb h)]
  exact e b u eb
theorem Ext.free {H H' : Hp} (e : Ext H H') {p : Addr} (h : H' p = none) : H p = none := by
  cases q : H p with
  | none => rfl
  | some o =>
    rw [e p o q] at h
    cases h

/-- xs[j] read, for xs[j] += e -/
def rGetL (K : PySem.W.Frag) : V → V → Hp → VK → Prop := fun x y H Q => ∃ (p : Addr) (xs : List V) (j : Nat) (v : V),
  x = .ref p ∧ y = .int (j : Int) ∧ SqL K H p xs ∧ xs[j]? = some v ∧ Q v H
theorem get_list {X : Cx} : PGet X (rGetL X.K) := by
  intro pins s σ H o i ov iv Q I ro ri h
  obtain ⟨p, xs, j, v, rfl, rfl, hq, hj, q⟩ := h
  cases ro
  obtain ⟨t, rfl⟩ := ri
  obtain ⟨its, r, pl, hz⟩ := I.list hq
  obtain ⟨u, eu, ru⟩ := r.get hj
  have hlt : j < xs.length := (List.getElem?_eq_some_iff.mp hj).1
  have h63 := line63
  refine wpAny_getItem_list (x := u) pl.isList (by omega) (by omega) (by simpa using eu) ?_
  exact ⟨v, H, I, ru, q⟩

/-- one statement, then the rest of a block, with what holds between -/
theorem cutB {X : Cx} {s : Stmt} {r : List Stmt} {D : Ends} {σ : L2.St} {H : Hp} (W : L2.St → Hp → Prop)
    (h2 : ∃ t2, PSs X r t2 ∧ ∀ σ' H', W σ' H' → t2 D σ' H')
    (h1 : ∃ t1, PS X s t1 ∧ ∀ nx : L2.St → Hp → Prop, (∀ σ' H', W σ' H' → nx σ' H') → t1 { D with nx := nx } σ H) :
    ∃ t, PSs X (s :: r) t ∧ t D σ H := by
  obtain ⟨t2, d2, k2⟩ := h2
  obtain ⟨t1, d1, k1⟩ := h1
  exact ⟨_, pss_cons d1 d2, k1 _ k2⟩

/-- no built-in name is taken by the module -/
structure BT (mg : Str → Option Value) : Prop where
  n_len : mg "len" = none
  n_int : mg "int" = none
  n_abs : mg "abs" = none
  n_range : mg "range" = none
  n_repr : mg "repr" = none
  n_isinstance : mg "isinstance" = none
  n_all : mg "all" = none
  n_tuple : mg "tuple" = none
  n_list : mg "list" = none
  n_str : mg "str" = none
  n_bool : mg "bool" = none
  n_dict : mg "dict" = none
  n_sorted : mg "sorted" = none

/-! ### the bag: a list of three ints and the cells; its ints are set aside -/
def bagL (b0 b1 b2 : Int) (c : Addr) : List V := [.int b0, .int b1, .int b2, .ref c]
structure BagI (b0 b1 b2 : Int) : Prop where
  h0 : 0 ≤ b0
  h1 : 0 ≤ b1
  h1' : b1 < 2147483647
  h2 : 0 ≤ b2
def bagP (a c : Addr) : Heap → Prop := fun h => ∃ (b0 b1 b2 : Int) (t0 t1 t2 : Tok) (n : Nat),
  h.get? a = some { cls := .type "list", data := .seq #[.int b0 t0, .int b1 t1, .int b2 t2, .ref c] n } ∧ BagI b0 b1 b2
def Bag (H : Hp) (a : Addr) : Prop := ∃ (c : Addr) (ns : List Int), H a = some (.ext (bagP a c)) ∧
  H c = some (.lst (ns.map V.int)) ∧ (∀ n ∈ ns, 0 ≤ n)
theorem Bag.up {H H' : Hp} {a : Addr} (e : Ext H H') : Bag H a → Bag H' a
  | ⟨c, ns, h1, h2, h3⟩ => ⟨c, ns, e _ _ h1, e _ _ h2, h3⟩

/-- a draw, the bag's ints told -/
def spTake0 : Sp := fun vs H Q _ => ∃ (a c : Addr) (b0 b1 b2 : Int) (ns : List Int) (m : Int),
  vs = [.ref a, .int m] ∧ H a = some (.lst (bagL b0 b1 b2 c)) ∧ H c = some (.lst (ns.map V.int)) ∧ (∀ n ∈ ns, 0 ≤ n) ∧
  BagI b0 b1 b2 ∧ 0 < m ∧ m < 1073741824 ∧
  ∀ (r x0 x1 x2 : Int), 0 ≤ r → r < m → BagI x0 x1 x2 → Q (.int r) (upd H a (.lst (bagL x0 x1 x2 c)))
/-- a draw, the bag set aside -/
def spTake : Sp := fun vs H Q _ => ∃ (a : Addr) (m : Int), vs = [.ref a, .int m] ∧ Bag H a ∧ 0 < m ∧ m < 1073741824 ∧
  ∀ r : Int, 0 ≤ r → r < m → Q (.int r) H

section
variable {P : Program} {w : World} {K : PySem.W.Frag} {mg : Str → Option Value} {base : Heap}

theorem hide {k : Nat} {f : Addr} {fd : FuncData} {ps : List Str} (F : FnOk P w K mg base CX0 k f fd ps spTake0) :
    FnOk P w K mg base CX0 k f fd ps spTake := by
  refine ⟨?_, ?_⟩
  · rintro vs H Q E ⟨a, m, rfl, ⟨c, ns, h1, h2, h3⟩, hm, hm2, q⟩
    have hca : c ≠ a := ne_of h2 h1 (fun z => nomatch z)
    exact F.len [.ref a, .int m] (upd H a (.lst (bagL 0 0 0 c))) (fun _ _ => True) E0
      ⟨a, c, 0, 0, 0, ns, m, rfl, upd_same, by rw [upd_ne hca]; exact h2, h3, ⟨by decide, by decide, by decide, by decide⟩, hm, hm2, fun _ _ _ _ _ _ _ => trivial⟩
  · rintro A outer s H args us vs Q E hr e0 hb rv ⟨a, m, rfl, ⟨c, ns, h1, h2, h3⟩, hm, hm2, q⟩
    have hca : c ≠ a := ne_of h2 h1 (fun z => nomatch z)
    obtain ⟨⟨b0, b1, b2, t0, t1, t2, n, eo, bi⟩, _, _⟩ := e0.hok a _ h1
    have mu : Mut (H a) := by
      rw [h1]
      trivial
    have nw : ObjOk P w (upd H a (.lst (bagL b0 b1 b2 c))) s.heap a (.lst (bagL b0 b1 b2 c)) :=
      ⟨by show 4 ≤ sizeLine; decide, [.int b0 t0, .int b1 t1, .int b2 t2, .ref c], n, .cons ⟨t0, rfl⟩ (.cons ⟨t1, rfl⟩ (.cons ⟨t2, rfl⟩ (.cons rfl .nil))), eo⟩
    have ok1 : HOk P w (upd H a (.lst (bagL b0 b1 b2 c))) s.heap := HOk.write e0.hok mu (Or.inl rfl) (fun _ _ _ z => z) ⟨_, eo⟩ nw
    have un1 : Un (frs outer) [] H (upd H a (.lst (bagL b0 b1 b2 c))) s.heap s.heap := Un.write mu (Or.inl rfl) (fun _ _ _ z => z) ⟨_, eo⟩
    have none1 : ∀ b, H b = none → upd H a (.lst (bagL b0 b1 b2 c)) b = none := fun b z => by
      rw [upd_ne (fun y => by rw [y, h1] at z; cases z)]
      exact z
    have e1 : Env0 P w K mg base A outer s (upd H a (.lst (bagL b0 b1 b2 c))) :=
      ⟨e0.frames, e0.mod, fun b o z => ⟨(e0.bs b o z).1, none1 b (e0.bs b o z).2⟩, e0.bsz, e0.funs, fun b z => none1 b (e0.frf b z), ok1, e0.bare⟩
    have run := F.run A outer s (upd H a (.lst (bagL b0 b1 b2 c))) args us [.ref a, .int m]
      (fun v H' => ∃ (r x0 x1 x2 : Int), v = .int r ∧ 0 ≤ r ∧ r < m ∧ BagI x0 x1 x2 ∧ H' = upd (upd H a (.lst (bagL b0 b1 b2 c))) a (.lst (bagL x0 x1 x2 c)))
      E hr e1 hb rv ⟨a, c, b0, b1, b2, ns, m, rfl, upd_same, by rw [upd_ne hca]; exact h2, h3, bi, hm, hm2, fun r x0 x1 x2 g1 g2 g3 => ⟨r, x0, x1, x2, rfl, g1, g2, g3, rfl⟩⟩
    refine codeAny_mono run ?_
    intro res s' h
    match res, h with
    | .error _, h => exact h.elim
    | .ok .next, h => exact h.elim
    | .ok .brk, h => exact h.elim
    | .ok .cont, h => exact h.elim
    | .ok (.ret u), h =>
      obtain ⟨v, H', os, bare, un, hok', rv', r, x0, x1, x2, rfl, g1, g2, g3, eH⟩ := h
      have hb' : H' a = some (.lst (bagL x0 x1 x2 c)) := by rw [eH, upd_same]
      have back : upd H' a (.ext (bagP a c)) = H := by
        rw [eH, upd_upd, upd_upd]
        funext b
        by_cases z : b = a
        · rw [z, upd_same, h1]
        · rw [upd_ne z]
      have mu' : Mut (H' a) := by
        rw [hb']
        trivial
      obtain ⟨_, its, n', r', eo'⟩ := hok' a _ hb'
      have shape : ∃ y0 y1 y2, its = [.int x0 y0, .int x1 y1, .int x2 y2, .ref c] := by
        cases r' with
        | cons q0 r' => cases r' with
          | cons q1 r' => cases r' with
            | cons q2 r' => cases r' with
              | cons q3 r' =>
                cases r'
                obtain ⟨y0, rfl⟩ := q0
                obtain ⟨y1, rfl⟩ := q1
                obtain ⟨y2, rfl⟩ := q2
                cases q3
                exact ⟨y0, y1, y2, rfl⟩
      obtain ⟨y0, y1, y2, rfl⟩ := shape
      have nw' : ObjOk P w (upd H' a (.ext (bagP a c))) s'.heap a (.ext (bagP a c)) := by
        refine ⟨⟨x0, x1, x2, y0, y1, y2, n', eo', g3⟩, ⟨_, eo'⟩, ?_⟩
        rintro g g' ⟨z0, z1, z2, w0, w1, w2, n2, e2, i2⟩ hk
        exact ⟨z0, z1, z2, w0, w1, w2, n2, hk _ e2, i2⟩
      have ok2 := HOk.write hok' mu' (Or.inl rfl) (fun _ _ _ z => z) ⟨_, eo'⟩ nw'
      have un2 : Un (frs outer) [] H' (upd H' a (.ext (bagP a c))) s'.heap s'.heap := Un.write mu' (Or.inl rfl) (fun _ _ _ z => z) ⟨_, eo'⟩
      rw [back] at ok2 un2
      exact ⟨.int r, H, os, bare, (un1.trans un).trans un2, ok2, rv', q r g1 g2⟩
end
end Ol

set_option Elab.async false
set_option linter.all false
set_option maxRecDepth 100000
set_option maxHeartbeats 4000000
namespace Ol
open PySem PySem.Spec PyProof.Rows L2

/-- what of H' is new over H -/
def nw (H H' : Hp) : Hp := fun b => match H b with
  | none => H' b
  | some _ => none
theorem nw_none {H H' : Hp} {b : Addr} (h : H b = none) : nw H H' b = H' b := by
  unfold nw
  rw [h]
theorem nw_some {H H' : Hp} {b : Addr} {o : HO} (h : H b = some o) : nw H H' b = none := by
  unfold nw
  rw [h]
theorem nw_ext {H H' : Hp} : Ext (nw H H') H' := fun b o e => by
  cases h : H b with
  | none => rwa [nw_none h] at e
  | some u =>
    rw [nw_some h] at e
    cases e
theorem nw_up {H H1 H2 : Hp} (e : Ext H1 H2) : Ext (nw H H1) (nw H H2) := fun b o q => by
  cases h : H b with
  | none =>
    rw [nw_none h] at q ⊢
    exact e b o q
  | some u =>
    rw [nw_some h] at q
    cases q
theorem nw_base {H0 H H' : Hp} (e : Ext H0 H) : Ext (nw H H') (nw H0 H') := fun b o q => by
  cases h : H b with
  | none => 
    rw [nw_none h] at q
    rw [nw_none (e.free h)]
    exact q
  | some u =>
    rw [nw_some h] at q
    cases q
theorem nw_dom {H0 H H' : Hp} (e : ∀ b, H b = none → H0 b = none) : Ext (nw H H') (nw H0 H') := fun b o q => by
  cases h : H b with
  | none =>
    rw [nw_none h] at q
    rw [nw_none (e b h)]
    exact q
  | some u =>
    rw [nw_some h] at q
    cases q
/-- from new over a later heap to new over an earlier one -/
theorem nw_mono {H0 H H1 H2 : Hp} (e : Ext H0 H) (f : Ext H1 H2) : Ext (nw H H1) (nw H0 H2) := (nw_base e).trans (nw_up f)
theorem nw_at {H H' : Hp} {p : Addr} {o : HO} (h : H p = none) : nw H (upd H' p o) p = some o := by rw [nw_none h, upd_same]
theorem nw_mut {H H' : Hp} {p : Addr} {o u : HO} (h : H p = some u) : Ext (nw H H') (nw H (upd H' p o)) := fun b z q => by
  cases g : H b with
  | none =>
    rw [nw_none g] at q ⊢
    rw [upd_ne (fun y => by rw [y, h] at g; cases g)]
    exact q
  | some _ =>
    rw [nw_some g] at q
    cases q

/-- a list comprehension without a test: its items are new things of which R holds -/
theorem lc_ext {J : It} {n : Nat} {G : Hp → Prop} {Y : Nat → Hp → V → Hp → Prop} (w : Walk J n G Y) {j : Nat} {te : TE} {σ : L2.St} {H1 : Hp} {D : Addr} {Qd : Hp → Prop}
    (R : Nat → V → Hp → Prop) (up : ∀ i v H H', Ext H H' → R i v H → R i v H') (hD : H1 D = none) (hn : n ≤ sizeLine) 
    (hG : ∀ H, Ext H1 H → G H)
    (hs : ∀ i x H H', i < n → Ext H1 H → Y i H x H' → Ext H H' ∧ ∀ Q : VK, (∀ y H4, Ext H' H4 → R i y (nw H' H4) → Q y H4) → te ((wipe σ [j]).set j (some x)) H' Q)
    (hd : ∀ H xs, Ext H1 H → H D = some (.lst xs) → xs.length = n → (∀ i y, xs[i]? = some y → R i y (nw H1 H)) → Qd H) :
    ∃ W : Nat → Nat → Hp → Prop, (∃ m, W 0 m (upd H1 D (.lst []))) ∧ ∀ i m H, W i m H →
      (J.stop i H ∧ Qd H) ∨ (J.go i H ∧ ∃ Nx : Hp → Prop, (∀ H', Nx H' → ∃ m', m' < m ∧ W (i + 1) m' H') ∧ ∀ x H', J.yld i H x H' → gName j x (wipe σ [j]) H' fun σ2 H2 => wipe σ2 [j] = wipe σ [j] ∧ tYes σ2 H2 fun b H3 =>
        if b = true then te σ2 H3 fun y H4 => ∃ acc, H4 D = some (.lst acc) ∧ acc.length < sizeLine ∧ Nx (upd H4 D (.lst (acc ++ [y]))) else Nx H3) := by
  let Hs : Hp := upd H1 D (.lst [])
  have hsD : Hs D = some (.lst []) := upd_same
  have e1 : Ext H1 Hs := Ext.new hD
  refine lc_it w (fun i H => ∃ xs, Ext H1 H ∧ H D = some (.lst xs) ∧ xs.length = i ∧ ∀ k y, xs[k]? = some y → R k y (nw Hs H))
    ⟨[], e1, hsD, rfl, fun k y z => by simp at z⟩ (by rintro i H _ ⟨xs, e, _⟩; exact hG H e) ?_ ?_
  · rintro i x H H' hi ⟨xs, e, hx, hl, hr⟩ y
    obtain ⟨e2, ht⟩ := hs i x H H' hi e y
    have hw : wipe ((wipe σ [j]).set j (some x)) [j] = wipe σ [j] := by
      show ((σ.set j none).set j (some x)).set j none = σ.set j none
      rw [List.set_set, List.set_set]
    refine ⟨hw, ?_⟩
    unfold tYes
    dsimp only
    rw [if_pos rfl]
    refine ht _ ?_
    intro v H4 e4 rv
    refine ⟨xs, e4 _ _ (e2 _ _ hx), by omega, xs ++ [v], ?_, upd_same, by rw [List.length_append, hl]; rfl, ?_⟩
    · exact Ext.mut ((e.trans e2).trans e4) hD
    · intro k u hk
      have toN : Ext (nw Hs H4) (nw Hs (upd H4 D (.lst (xs ++ [v])))) := nw_mut hsD
      by_cases hkl : k < xs.length
      · rw [List.getElem?_append_left hkl] at hk
        exact up _ _ _ _ ((nw_up (e2.trans e4)).trans toN) (hr k u hk)
      · have hk2 : k = xs.length := by
          have z := (List.getElem?_eq_some_iff.mp hk).1
          rw [List.length_append] at z
          simp at z
          omega
        subst hk2
        rw [List.getElem?_append_right (Nat.le_refl _), Nat.sub_self] at hk
        have hv : v = u := Option.some.inj hk
        subst hv
        rw [hl]
        have hsub : ∀ b, H' b = none → Hs b = none := by
          intro b q
          have q1 : H b = none := e2.free q
          have z : b ≠ D := fun z => by rw [z, hx] at q1; cases q1
          rw [show Hs b = H1 b from upd_ne z]
          exact e.free q1
        exact up _ _ _ _ ((nw_dom hsub).trans toN) rv
  · rintro H ⟨xs, e, hx, hl, hr⟩
    exact hd H xs e hx hl fun i y z => up _ _ _ _ (nw_base e1) (hr i y z)
end Ol

set_option Elab.async false
set_option linter.all false
set_option maxRecDepth 100000
set_option maxHeartbeats 4000000
namespace Ol
open PySem PySem.Spec PyProof.Rows L2

/-! ### comprehensions that leave the heap but for their list -/
theorem lc_det {J : It} {n : Nat} {G : Hp → Prop} {Y : Nat → Hp → V → Hp → Prop} (w : Walk J n G Y) {j : Nat} {tt : TT} {te : TE} {σ : L2.St} {H1 : Hp} {D : Addr} {Qd : Hp → Prop}
    (f : Nat → V) (p : Nat → Bool) (g : Nat → V) (hD : H1 D = none) (hn : n ≤ sizeLine)
    (hY : ∀ i H x H', i < n → Y i H x H' → H' = H ∧ x = f i) (hG : ∀ H, Ext H1 H → G H)
    (ht : ∀ i H, i < n → Ext H1 H → ∀ Q : Bool → Hp → Prop, Q (p i) H → tt ((wipe σ [j]).set j (some (f i))) H Q)
    (he : ∀ i H, i < n → p i = true → Ext H1 H → ∀ Q : VK, Q (g i) H → te ((wipe σ [j]).set j (some (f i))) H Q)
    (hd : Qd (upd H1 D (.lst (((List.range n).filter p).map g)))) :
    ∃ W : Nat → Nat → Hp → Prop, (∃ m, W 0 m (upd H1 D (.lst []))) ∧ ∀ i m H, W i m H →
      (J.stop i H ∧ Qd H) ∨ (J.go i H ∧ ∃ Nx : Hp → Prop, (∀ H', Nx H' → ∃ m', m' < m ∧ W (i + 1) m' H') ∧ ∀ x H', J.yld i H x H' → gName j x (wipe σ [j]) H' fun σ2 H2 => wipe σ2 [j] = wipe σ [j] ∧ tt σ2 H2 fun b H3 =>
        if b = true then te σ2 H3 fun y H4 => ∃ acc, H4 D = some (.lst acc) ∧ acc.length < sizeLine ∧ Nx (upd H4 D (.lst (acc ++ [y]))) else Nx H3) := by
  have ex : ∀ o, Ext H1 (upd H1 D o) := fun o => Ext.new hD
  refine lc_it w (fun i H => H = upd H1 D (.lst (((List.range i).filter p).map g))) rfl (by rintro i H _ rfl; exact hG _ (ex _)) ?_ (by rintro H rfl; exact hd)
  rintro i x H H' hi rfl y
  obtain ⟨rfl, rfl⟩ := hY i _ _ _ hi y
  have hw : wipe ((wipe σ [j]).set j (some (f i))) [j] = wipe σ [j] := by
    show ((σ.set j none).set j (some (f i))).set j none = σ.set j none
    rw [List.set_set, List.set_set]
  refine ⟨hw, ht i _ hi (ex _) _ ?_⟩
  cases hp : p i with
  | true =>
    rw [if_pos rfl]
    refine he i _ hi hp (ex _) _ ?_
    refine ⟨_, upd_same, ?_, ?_⟩
    · rw [List.length_map]
      have h1 := List.length_filter_le p (List.range i)
      rw [List.length_range] at h1
      omega
    · rw [upd_upd, List.range_succ, List.filter_append, List.map_append]
      rw [show [i].filter p = [i] by rw [List.filter_cons, if_pos hp, List.filter_nil]]
      rfl
  | false =>
    rw [if_neg Bool.false_ne_true, List.range_succ, List.filter_append]
    rw [show [i].filter p = [] by rw [List.filter_cons, if_neg (by rw [hp]; exact Bool.false_ne_true), List.filter_nil]]
    rw [List.append_nil]

/-- sign i of a text -/
def sg (x : Str) (i : Nat) : V := .str ⟨#[x.cps.toList.getD i 0]⟩
theorem its_sg {x : Str} : ∀ (i : Nat) (H : Hp) (v : V) (H' : Hp), i < x.cps.size → (H' = H ∧ ∃ c, x.cps[i]? = some c ∧ v = V.str ⟨#[c]⟩) → H' = H ∧ v = sg x i := by
  rintro i H v H' hi ⟨rfl, c, hc, rfl⟩
  refine ⟨rfl, ?_⟩
  unfold sg
  rw [List.getD_eq_getElem?_getD, Array.getElem?_toList, hc]
  rfl
theorem map_range_getD {α : Type} (h : Nat → α) : ∀ l : List Nat, (List.range l.length).map (fun i => h (l.getD i 0)) = l.map h
  | [] => rfl
  | a :: l => by
    rw [List.length_cons, List.range_succ_eq_map, List.map_cons, List.map_map, List.map_cons]
    congr 1
    exact map_range_getD h l
theorem filter_map_getD (p : Nat → Bool) : ∀ l : List Nat, ((List.range l.length).filter fun i => p (l.getD i 0)).map (fun i => l.getD i 0) = l.filter p
  | [] => rfl
  | a :: l => by
    rw [List.length_cons, List.range_succ_eq_map, List.filter_cons, List.filter_cons, List.filter_map]
    have ih := filter_map_getD p l
    by_cases h : p a = true
    · rw [if_pos h, if_pos (show p ((a :: l).getD 0 0) = true from h), List.map_cons, List.map_map]
      congr 1
    · rw [if_neg h, if_neg (show ¬ p ((a :: l).getD 0 0) = true from h), List.map_map]
      exact ih

/-! ### data, and what the package asks of any value -/
def tyD : PyData → String
  | .none => "NoneType"
  | .bool _ => "bool"
  | .int _ => "int"
  | .str _ => "str"
  | .list _ => "list"
  | .tuple _ => "tuple"
  | .dict _ => "dict"
theorem ty_of {K : PySem.W.Frag} {H : Hp} {v : V} {d : PyData} (h : Dq H v d) : TyX K H v (.type (tyD d)) := by
  cases h with
  | non => exact .base .non
  | bl b => exact .base (.bl b)
  | int i => exact .base (.int i)
  | str x => exact .base (.str x)
  | lst h _ => exact .base (.lst h)
  | tup h _ => exact .base (.tup h)
  | dct h _ => exact .base (.dK h)
def kI : PyData → Bool
  | .int _ => true
  | .bool _ => true
  | _ => false
def kB : PyData → Bool
  | .bool _ => true
  | _ => false
def kS : PyData → Bool
  | .str _ => true
  | _ => false
def kT : PyData → Bool
  | .tuple _ => true
  | _ => false
def kL : PyData → Bool
  | .list _ => true
  | _ => false
def kD : PyData → Bool
  | .dict _ => true
  | _ => false
section
variable {K : PySem.W.Frag}
theorem ki_int (d : PyData) : PySem.W.kitOne K (.type (tyD d)) (.type "int") = some (kI d) := by
  cases d <;> (simp only [tyD, kI]; exact kit_ty (by decide +kernel))
theorem ki_bool (d : PyData) : PySem.W.kitOne K (.type (tyD d)) (.type "bool") = some (kB d) := by
  cases d <;> (simp only [tyD, kB]; exact kit_ty (by decide +kernel))
theorem ki_str (d : PyData) : PySem.W.kitOne K (.type (tyD d)) (.type "str") = some (kS d) := by
  cases d <;> (simp only [tyD, kS]; exact kit_ty (by decide +kernel))
theorem ki_tuple (d : PyData) : PySem.W.kitOne K (.type (tyD d)) (.type "tuple") = some (kT d) := by
  cases d <;> (simp only [tyD, kT]; exact kit_ty (by decide +kernel))
theorem ki_list (d : PyData) : PySem.W.kitOne K (.type (tyD d)) (.type "list") = some (kL d) := by
  cases d <;> (simp only [tyD, kL]; exact kit_ty (by decide +kernel))
theorem ki_dict (d : PyData) : PySem.W.kitOne K (.type (tyD d)) (.type "dict") = some (kD d) := by
  cases d <;> (simp only [tyD, kD]; exact kit_ty (by decide +kernel))
end
def isIntD : PyData → Bool
  | .int _ => true
  | _ => false
theorem isIntD_eq (d : PyData) : isIntD d = (kI d && !kB d) := by cases d <;> rfl
def isNumD : PyData → Bool
  | .int i => decide (0 ≤ i)
  | _ => false
def abc : Str := "abcdefghijklmnopqrstuvwxyz"
def isNameS (x : Str) : Bool := decide (1 ≤ x.length ∧ x.length ≤ 8) && x.cps.toList.all fun c => decide (c ∈ abc.cps.toList)
def isNameD : PyData → Bool
  | .str x => isNameS x
  | _ => false
def isWordS (x : Str) : Bool := decide (x = "close" ∨ x = "ended" ∨ x = "send" ∨ x = "take")
def isWordD : PyData → Bool
  | .str x => isWordS x
  | _ => false
def isElseD : PyData → Bool
  | .str x => decide (x = "else")
  | _ => false
def isArmD : PyData → Bool
  | .tuple [a, b] => isElseD a && isNumD b
  | .tuple [a, b, c] => isWordD a && (isNameD b && isNumD c)
  | _ => false
theorem dq_int {H : Hp} {v : V} {d : PyData} (h : Dq H v d) (e : isIntD d = true) : ∃ i, v = .int i ∧ d = .int i := by
  cases h with
  | int i => exact ⟨i, rfl, rfl⟩
  | _ => cases e
theorem dq_str {H : Hp} {v : V} {d : PyData} (h : Dq H v d) (e : kS d = true) : ∃ x, v = .str x ∧ d = .str x := by
  cases h with
  | str x => exact ⟨x, rfl, rfl⟩
  | _ => cases e
theorem dq_tup {H : Hp} {v : V} {d : PyData} (h : Dq H v d) (e : kT d = true) : ∃ a xs ds, v = .ref a ∧ d = .tuple ds ∧ H a = some (.tup xs) ∧ DqAll H xs ds := by
  cases h with
  | tup h t => exact ⟨_, _, _, rfl, rfl, h, t⟩
  | _ => cases e

/-- a def that tells something of any data (of which C holds) -/
def spPred (C : PyData → Prop) (p : PyData → Bool) : Sp := fun vs H Q _ => ∃ v d, vs = [v] ∧ Dq H v d ∧ C d ∧
  ∀ H', Ext H H' → Q (.bl (p d)) H'
/-- a plain text of bounded length -/
def Tx (x : Str) : Prop := x.length ≤ 1000 ∧ ∀ c ∈ x.cps.toList, c < 128
def Ok1 (d : PyData) : Prop := ∀ x, d = .str x → Tx x
def OkT (d : PyData) : Prop := ∀ ds e, d = .tuple ds → e ∈ ds → Ok1 e
def Any (_ : PyData) : Prop := True

/-- the signs of a text asked one by one -/
theorem signs_all (x : Str) (p : Nat → Bool) : ((List.range x.cps.size).filter (fun _ => true)).map (fun i => V.bl (p (x.cps.toList.getD i 0))) = (x.cps.toList.map p).map V.bl := by
  rw [List.filter_eq_self.mpr (fun _ _ => rfl)]
  have h := map_range_getD (fun c => V.bl (p c)) x.cps.toList
  rw [Array.length_toList] at h
  rw [h, List.map_map]
  rfl
theorem signs_filter (x : Str) (p : Nat → Bool) : ((List.range x.cps.size).filter (fun i => p (x.cps.toList.getD i 0))).map (sg x) = (x.cps.toList.filter p).map fun c => V.str ⟨#[c]⟩ := by
  have h := filter_map_getD p x.cps.toList
  rw [Array.length_toList] at h
  rw [← h, List.map_map]
  rfl
theorem kS_not {d : PyData} (h : (!kS d) = true) : isNameD d = false := by
  cases d with
  | str x => cases h
  | _ => rfl
theorem kS_yes {d : PyData} (h : ¬ (!kS d) = true) : kS d = true := by
  cases e : kS d with
  | true => rfl
  | false => rw [e] at h; exact absurd rfl h
theorem isNameS_short {x : Str} (h : ¬ (1 ≤ x.length ∧ x.length ≤ 8)) : isNameS x = false := by
  unfold isNameS
  rw [decide_eq_false h, Bool.false_and]
theorem isNameS_long {x : Str} (h : 1 ≤ x.length ∧ x.length ≤ 8) : isNameS x = x.cps.toList.all fun c => decide (c ∈ abc.cps.toList) := by
  unfold isNameS
  rw [decide_eq_true h, Bool.true_and]
theorem all_id_map (p : Nat → Bool) : ∀ l : List Nat, (l.map p).all id = l.all p
  | [] => rfl
  | a :: l => by rw [List.map_cons, List.all_cons, List.all_cons, all_id_map p l]; rfl
theorem filter_empty_all (p : Nat → Bool) : ∀ l : List Nat, (l.filter fun c => !p c).isEmpty = l.all p
  | [] => rfl
  | a :: l => by
    rw [List.filter_cons, List.all_cons, ← filter_empty_all p l]
    cases p a <;> rfl
end Ol

set_option Elab.async false
set_option linter.all false
set_option maxRecDepth 100000
set_option maxHeartbeats 4000000
namespace Ol
open PySem PySem.Spec PyProof.Rows L2

/-- a def of the module, found by its name, and its promise -/
structure Ca (P : Program) (w : World) (K : PySem.W.Frag) (mg : Str → Option Value) (base : Heap)
    (k : Nat) (x : Str) (ps : List Str) (sp : Sp) : Prop where
  has : ∃ (f : Addr) (fd : FuncData), FnOk P w K mg base CX0 k f fd ps sp ∧ mg x = some (.ref f) ∧
    PySem.W.keepIn K (.ref f) = true ∧ Binds K fd ps []
/-- the same where no display is under way -/
structure Cg (P : Program) (w : World) (K : PySem.W.Frag) (mg : Str → Option Value) (base : Heap)
    (k : Nat) (x : Str) (ps : List Str) (sp : Sp) : Prop where
  has : ∃ (f : Addr) (fd : FuncData), FnG P w K mg base k f fd ps sp ∧ mg x = some (.ref f) ∧
    PySem.W.keepIn K (.ref f) = true ∧ Binds K fd ps []
section
variable {X : Cx} {k : Nat} {ps : List Str} {sp : Sp} {x : Str} {e : Expr} {es : List Expr} {t : TA} {p pos : Pos}
theorem pe_ca (C : Ca X.prog X.w X.K X.mg X.base k x ps sp) (hr : Room k X.A) (hg : Gl X x) (ha : PA X (e :: es) t)
    (hdb : (x == ("__debug__" : Str)) = false := by decide)
    (he : starEach (e :: es) X.env = (false, eval e X.env) :: starEach es X.env := by rfl)
    (hpl : (backTo pos (starEach es X.env)).any (·.1) = false := by rfl) :
    PE X (.Call (.Name x p) (e :: es) [] pos) (tCall sp [] E0 t) := by
  obtain ⟨f, fd, F, g, kp, b⟩ := C.has
  exact pe_call F hr hg g kp b .nil pass0 ha hdb he hpl
theorem pe_cg (C : Cg X.prog X.w X.K X.mg X.base k x ps sp) (hG : X.A.guards = some []) (hr : Room k X.A) (hg : Gl X x) (ha : PA X (e :: es) t)
    (hdb : (x == ("__debug__" : Str)) = false := by decide)
    (he : starEach (e :: es) X.env = (false, eval e X.env) :: starEach es X.env := by rfl)
    (hpl : (backTo pos (starEach es X.env)).any (·.1) = false := by rfl) :
    PE X (.Call (.Name x p) (e :: es) [] pos) (tCall sp [] E0 t) := by
  obtain ⟨f, fd, F, g, kp, b⟩ := C.has
  exact pe_callG F hG hr hg g kp b ha hdb he hpl
end

/-- == and != of data -/
def rEqQ : R2 := fun x y H Q => ∃ d e, Sys H ∧ Dq H x d ∧ Dq H y e ∧ SeqAt.shaped d = true ∧ SeqAt.shaped e = true ∧ Q (.bl (PyData.eqv d e)) H
def rNeQ : R2 := fun x y H Q => ∃ d e, Sys H ∧ Dq H x d ∧ Dq H y e ∧ SeqAt.shaped d = true ∧ SeqAt.shaped e = true ∧ Q (.bl (!PyData.eqv d e)) H
theorem op_eqQ {X : Cx} {k : Nat} (hr : Room k X.A) : OpR X (compareOp .Eq) rEqQ := by
  intro pins s σ H x y v u Q I rx ry h
  obtain ⟨d, e, S, hd, he, sd, se, q⟩ := h
  obtain ⟨as, r1, _⟩ := Dq.reads I S hd rx
  obtain ⟨bs, r2, _⟩ := Dq.reads I S he ry
  exact SeqAt.compareEq_shaped r1 r2 sd se hr.units ⟨.bl _, H, I, rfl, q⟩
theorem op_neQ {X : Cx} {k : Nat} (hr : Room k X.A) : OpR X (compareOp .NotEq) rNeQ := by
  intro pins s σ H x y v u Q I rx ry h
  obtain ⟨d, e, S, hd, he, sd, se, q⟩ := h
  obtain ⟨as, r1, _⟩ := Dq.reads I S hd rx
  obtain ⟨bs, r2, _⟩ := Dq.reads I S he ry
  exact SeqAt.compareNe_shaped r1 r2 sd se hr.units ⟨.bl _, H, I, rfl, q⟩

/-- data that may be shown -/
structure Fits (d : PyData) : Prop where
  sh : d.showable = true
  dep : d.depth ≤ 40
  len : d.shown.length ≤ sizeLine

/-- f(x, y) of two equal data gives True -/
def spAlike : Sp := fun vs H Q _ => ∃ v u d, vs = [v, u] ∧ Sys H ∧ Dq H v d ∧ Dq H u d ∧ SeqAt.shaped d = true ∧ Fits d ∧
  ∀ H', Ext H H' → Q (.bl true) H'
end Ol

set_option Elab.async false
set_option linter.all false
set_option maxRecDepth 100000
set_option maxHeartbeats 4000000
namespace Ol
open PySem PySem.Spec PyProof.Rows L2

/-- a new bag of a script's cells -/
def spBag0 (K : PySem.W.Frag) : Sp := fun vs H Q _ => ∃ (a : Addr) (ns : List Int), vs = [.ref a] ∧ SqL K H a (ns.map V.int) ∧ ns.length ≤ 1000 ∧
  ∀ (p c : Addr) (cs : List Int) (H' : Hp), H p = none → Ext H H' → H' p = some (.lst (bagL 0 1234567891 0 c)) → H' c = some (.lst (cs.map V.int)) → (∀ n ∈ cs, 0 ≤ n) → c ≠ p → Q (.ref p) H'
def spBag (K : PySem.W.Frag) : Sp := fun vs H Q _ => ∃ (a : Addr) (ns : List Int), vs = [.ref a] ∧ SqL K H a (ns.map V.int) ∧ ns.length ≤ 1000 ∧
  ∀ (p : Addr) (H' : Hp), Ext H H' → Bag H' p → Q (.ref p) H'
section
variable {P : Program} {w : World} {K : PySem.W.Frag} {mg : Str → Option Value} {base : Heap}
theorem hideBag {k : Nat} {f : Addr} {fd : FuncData} {ps : List Str} (F : FnOk P w K mg base CX0 k f fd ps (spBag0 K)) :
    FnOk P w K mg base CX0 k f fd ps (spBag K) := by
  refine ⟨?_, ?_⟩
  · rintro vs H Q E ⟨a, ns, rfl, h1, h2, q⟩
    exact F.len [.ref a] H (fun _ _ => True) E0 ⟨a, ns, rfl, h1, h2, fun _ _ _ _ _ _ _ _ _ _ => trivial⟩
  · rintro A outer s H args us vs Q E hr e0 hb rv ⟨a, ns, rfl, h1, h2, q⟩
    have run := F.run A outer s H args us [.ref a]
      (fun v H' => ∃ (p c : Addr) (cs : List Int), v = .ref p ∧ H p = none ∧ Ext H H' ∧ H' p = some (.lst (bagL 0 1234567891 0 c)) ∧ H' c = some (.lst (cs.map V.int)) ∧ (∀ n ∈ cs, 0 ≤ n) ∧ c ≠ p)
      E hr e0 hb rv ⟨a, ns, rfl, h1, h2, fun p c cs H' g1 g2 g3 g4 g5 g6 => ⟨p, c, cs, rfl, g1, g2, g3, g4, g5, g6⟩⟩
    refine codeAny_mono run ?_
    intro res s' h
    match res, h with
    | .error _, h => exact h.elim
    | .ok .next, h => exact h.elim
    | .ok .brk, h => exact h.elim
    | .ok .cont, h => exact h.elim
    | .ok (.ret u), h =>
      obtain ⟨v, H', os, bare, un, hok', rv', p, c, cs, rfl, g1, g2, g3, g4, g5, g6⟩ := h
      have mu' : Mut (H' p) := by
        rw [g3]
        trivial
      obtain ⟨_, its, n', r', eo'⟩ := hok' p _ g3
      have shape : ∃ y0 y1 y2, its = [.int 0 y0, .int 1234567891 y1, .int 0 y2, .ref c] := by
        cases r' with
        | cons q0 r' => cases r' with
          | cons q1 r' => cases r' with
            | cons q2 r' => cases r' with
              | cons q3 r' =>
                cases r'
                obtain ⟨y0, rfl⟩ := q0
                obtain ⟨y1, rfl⟩ := q1
                obtain ⟨y2, rfl⟩ := q2
                cases q3
                exact ⟨y0, y1, y2, rfl⟩
      obtain ⟨y0, y1, y2, rfl⟩ := shape
      have nw' : ObjOk P w (upd H' p (.ext (bagP p c))) s'.heap p (.ext (bagP p c)) := by
        refine ⟨⟨0, 1234567891, 0, y0, y1, y2, n', eo', by decide, by decide, by decide, by decide⟩, ⟨_, eo'⟩, ?_⟩
        rintro g g' ⟨z0, z1, z2, w0, w1, w2, n2, e2, i2⟩ hk
        exact ⟨z0, z1, z2, w0, w1, w2, n2, hk _ e2, i2⟩
      have ok2 := HOk.write hok' mu' (Or.inl rfl) (fun _ _ _ z => z) ⟨_, eo'⟩ nw'
      have un2 : Un (frs outer) [] H' (upd H' p (.ext (bagP p c))) s'.heap s'.heap := Un.write mu' (Or.inl rfl) (fun _ _ _ z => z) ⟨_, eo'⟩
      refine ⟨.ref p, upd H' p (.ext (bagP p c)), os, bare, un.trans un2, ok2, rv', q p _ (Ext.mut g2 g1) ⟨c, cs, upd_same, ?_, g5⟩⟩
      rw [upd_ne g6]
      exact g4
end

theorem map_range_getI (h : Int → V) : ∀ l : List Int, (List.range l.length).map (fun i => h (l.getD i 0)) = l.map h
  | [] => rfl
  | a :: l => by
    rw [List.length_cons, List.range_succ_eq_map, List.map_cons, List.map_map, List.map_cons]
    congr 1
    exact map_range_getI h l
theorem cut_ints (ns : List Int) (lo hi : Option Int) : ∃ cs : List Int, cutV (ns.map V.int) lo hi = cs.map V.int ∧ cs.length ≤ ns.length := by
  unfold cutV
  refine ⟨(ns.drop (HT.sIx (ns.map V.int).length 0 lo)).take (HT.sIx (ns.map V.int).length (ns.map V.int).length hi - HT.sIx (ns.map V.int).length 0 lo), ?_, ?_⟩
  · rw [List.map_take, List.map_drop]
  · rw [List.length_take, List.length_drop]
    omega
end Ol

set_option Elab.async false
set_option linter.all false
set_option maxRecDepth 100000
set_option maxHeartbeats 4000000
namespace Ol
open PySem PySem.Spec PyProof.Rows L2
open TL (tl joinL join_eq tl_join)

theorem tlen (x : Str) : x.length = (tl x).length := by
  show x.cps.size = x.cps.toList.length
  rw [Array.length_toList]
theorem tl_inj {x y : Str} (h : tl x = tl y) : x = y := by
  obtain ⟨⟨a⟩⟩ := x
  obtain ⟨⟨b⟩⟩ := y
  have h' : a = b := h
  rw [h']
theorem tl_app (x y : Str) : tl (x ++ y) = tl x ++ tl y := by
  show (x.cps ++ y.cps).toList = _
  rw [Array.toList_append]
theorem joinL_nil : ∀ ls : List (List Nat), joinL [] ls = ls.flatten
  | [] => rfl
  | [p] => by show p = [p].flatten; simp
  | p :: q :: r => by
    show p ++ ([] ++ joinL [] (q :: r)) = _
    rw [joinL_nil (q :: r), List.nil_append]
    rfl
def one (c : Nat) : Str := ⟨#[c]⟩
theorem join_signs (cs : List Nat) : tl (Txt.join "" (cs.map one)) = cs := by
  rw [join_eq, tl_join]
  show joinL [] _ = cs
  rw [joinL_nil, List.map_map]
  induction cs with
  | nil => rfl
  | cons a l ih =>
    rw [List.map_cons, List.flatten_cons, ih]
    rfl
theorem ones_len : ∀ cs : List Nat, ((cs.map one).map (·.length)).sum = cs.length
  | [] => rfl
  | a :: l => by
    rw [List.map_cons, List.map_cons, List.sum_cons, ones_len l, List.length_cons]
    show 1 + l.length = l.length + 1
    omega
theorem cut_drop (xs : List V) (t : Nat) : cutV xs (some (t : Int)) none = xs.drop t := by
  unfold cutV
  rw [HT.sIx_none, HT.sIx_nat]
  by_cases h : t ≤ xs.length
  · rw [Nat.min_eq_left h, List.take_of_length_le]
    rw [List.length_drop]
    exact Nat.le_refl _
  · rw [Nat.min_eq_right (by omega), Nat.sub_self, List.take_zero, List.drop_of_length_le (by omega)]
theorem cut_take (xs : List V) (t : Nat) : cutV xs none (some (t : Int)) = xs.take t := by
  unfold cutV
  rw [HT.sIx_none, HT.sIx_nat, Nat.sub_zero, List.drop_zero]
  by_cases h : t ≤ xs.length
  · rw [Nat.min_eq_left h]
  · rw [Nat.min_eq_right (by omega), List.take_of_length_le (Nat.le_refl _), List.take_of_length_le (by omega)]
theorem cutS_drop (z : Str) (t : Nat) : tl (cutS z (some (t : Int)) none) = (tl z).drop t := by
  unfold cutS
  rw [HT.sIx_none, HT.sIx_nat]
  have hl := tlen z
  show List.take _ _ = _
  by_cases h : t ≤ z.length
  · rw [Nat.min_eq_left h, List.take_of_length_le]
    rw [List.length_drop, hl]
    exact Nat.le_refl _
  · rw [Nat.min_eq_right (by omega), Nat.sub_self, List.take_zero, List.drop_of_length_le (by omega)]
theorem cutS_take (z : Str) (t : Nat) : tl (cutS z none (some (t : Int))) = (tl z).take t := by
  unfold cutS
  rw [HT.sIx_none, HT.sIx_nat, Nat.sub_zero]
  have hl := tlen z
  show List.take _ (List.drop 0 _) = _
  rw [List.drop_zero]
  by_cases h : t ≤ z.length
  · rw [Nat.min_eq_left h]
  · rw [Nat.min_eq_right (by omega), List.take_of_length_le (by rw [hl]; exact Nat.le_refl _), List.take_of_length_le (by omega)]

def abcL : List Nat := tl abc
theorem abc_at : ∀ r, r < 26 → abcL[r]? = some (97 + r) := by decide +kernel
theorem abc_mem {r : Nat} (h : r < 26) : 97 + r ∈ abcL := List.mem_of_getElem? (abc_at r h)
theorem abc_low : ∀ c ∈ abcL, c < 128 := by decide +kernel
theorem name_of {x : Str} (h1 : 1 ≤ (tl x).length) (h2 : (tl x).length ≤ 8) (h3 : ∀ c ∈ tl x, c ∈ abcL) : isNameS x = true := by
  rw [isNameS_long (by rw [tlen]; exact ⟨h1, h2⟩), List.all_eq_true]
  exact fun c hc => decide_eq_true (h3 c hc)
theorem name_tl {x : Str} (h : isNameS x = true) : 1 ≤ (tl x).length ∧ (tl x).length ≤ 8 ∧ ∀ c ∈ tl x, c ∈ abcL := by
  unfold isNameS at h
  rw [Bool.and_eq_true] at h
  have h1 := of_decide_eq_true h.1
  rw [tlen] at h1
  exact ⟨h1.1, h1.2, fun c hc => of_decide_eq_true (List.all_eq_true.mp h.2 c hc)⟩
theorem name_tx {x : Str} (h : isNameS x = true) : Tx x := by
  obtain ⟨_, h2, h3⟩ := name_tl h
  exact ⟨by rw [tlen]; omega, fun c hc => abc_low c (h3 c hc)⟩

/-- new names, all different -/
structure Names (ys : List Str) (m : Nat) : Prop where
  len : ys.length = m
  nd : ys.Nodup
  ok : ∀ y ∈ ys, isNameS y = true

def wordsA : Str := "send take ended close else first any step quit server back again where log a b ab ba z"
def wordsB : Str := " stuck seat sticks lane"
def wordL : List Str := ["send", "take", "ended", "close", "else", "first", "any", "step", "quit", "server", "back", "again", "where", "log", "a", "b", "ab", "ba", "z", "stuck", "seat", "sticks", "lane"]
theorem split_words : Txt.split (wordsA ++ wordsB) " " = wordL := by decide +kernel
theorem wordL_ok : ∀ y ∈ wordL, isNameS y = true := by decide +kernel
theorem wordL_rot : ∀ t, t < 20 → (wordL.drop t ++ wordL.take t).Nodup := by decide +kernel
theorem names0 (t m : Nat) (ht : t < 20) (hm : m ≤ 20) : Names ((wordL.drop t ++ wordL.take t).take m) m := by
  refine ⟨?_, (wordL_rot t ht).sublist (List.take_sublist _ _), fun y hy => ?_⟩
  · rw [List.length_take, List.length_append, List.length_drop, List.length_take]
    have e : wordL.length = 23 := rfl
    omega
  · have h := List.mem_of_mem_take hy
    rcases List.mem_append.mp h with h | h
    · exact wordL_ok y (List.mem_of_mem_drop h)
    · exact wordL_ok y (List.mem_of_mem_take h)
def let1 (t k : Nat) : Nat := 97 + (t + 3 * k) % 26
theorem names1 (t m : Nat) (hm : m ≤ 8) : Names ((List.range m).map fun k => one (let1 t k)) m := by
  refine ⟨by rw [List.length_map, List.length_range], ?_, ?_⟩
  · rw [List.nodup_iff_pairwise_ne, List.pairwise_map]
    refine (List.pairwise_lt_range (n := m)).imp_of_mem ?_
    intro a b ha hb hab e
    have ha := List.mem_range.mp ha
    have hb := List.mem_range.mp hb
    have e1 : [let1 t a] = [let1 t b] := congrArg tl e
    have e2 : let1 t a = let1 t b := by injection e1
    unfold let1 at e2
    omega
  · intro y hy
    obtain ⟨k, _, rfl⟩ := List.mem_map.mp hy
    refine name_of (Nat.le_refl 1) (by show 1 ≤ 8; decide) fun c hc => ?_
    have hc' : c ∈ [let1 t k] := hc
    rw [List.mem_singleton] at hc'
    rw [hc']
    exact abc_mem (Nat.mod_lt _ (by decide))
/-- the names of the third style, as texts with these signs -/
theorem names2 (cs : List Nat) (at_ t m : Nat) (f : Nat → Str) (hc1 : 1 ≤ cs.length) (hc7 : cs.length ≤ 7) (hc : ∀ c ∈ cs, c ∈ abcL) (hm : m ≤ 8) (ha : at_ ≤ cs.length)
    (hf : ∀ k, k < m → tl (f k) = cs.take at_ ++ [let1 t k] ++ cs.drop at_) : Names ((List.range m).map f) m := by
  refine ⟨by rw [List.length_map, List.length_range], ?_, ?_⟩
  · rw [List.nodup_iff_pairwise_ne, List.pairwise_map]
    refine (List.pairwise_lt_range (n := m)).imp_of_mem ?_
    intro a b ha hb hab e
    have ha := List.mem_range.mp ha
    have hb := List.mem_range.mp hb
    have e1 := congrArg tl e
    rw [hf a ha, hf b hb, List.append_assoc, List.append_assoc] at e1
    have e2 := List.append_cancel_left e1
    have e3 : let1 t a = let1 t b := by
      simp only [List.cons_append, List.nil_append, List.cons.injEq] at e2
      exact e2.1
    unfold let1 at e3
    omega
  · intro y hy
    obtain ⟨k, hk, rfl⟩ := List.mem_map.mp hy
    have hk := List.mem_range.mp hk
    refine name_of ?_ ?_ fun c hc' => ?_
    · rw [hf k hk]
      simp
      omega
    · rw [hf k hk]
      simp
      omega
    · rw [hf k hk] at hc'
      simp only [List.mem_append, List.mem_singleton] at hc'
      rcases hc' with (h | h) | h
      · exact hc c (List.mem_of_mem_take h)
      · rw [h]
        exact abc_mem (Nat.mod_lt _ (by decide))
      · exact hc c (List.mem_of_mem_drop h)
/-- texts of one sign each -/
theorem ones_of {n : Nat} {xs : List V} (h : xs.length = n) (hr : ∀ (i : Nat) (y : V), xs[i]? = some y → ∃ c, c ∈ abcL ∧ y = .str (one c)) :
    ∃ cs : List Nat, xs = (cs.map one).map V.str ∧ cs.length = n ∧ ∀ c ∈ cs, c ∈ abcL := by
  induction xs generalizing n with
  | nil => exact ⟨[], rfl, h, fun _ z => by cases z⟩
  | cons v xs ih =>
    obtain ⟨cs, e, hl, hc⟩ := ih (n := xs.length) rfl fun i y z => hr (i + 1) y (by rw [List.getElem?_cons_succ]; exact z)
    obtain ⟨c, hm, rfl⟩ := hr 0 v rfl
    refine ⟨c :: cs, by rw [e]; rfl, by rw [← h, List.length_cons, List.length_cons, hl], fun x hx => ?_⟩
    rcases List.mem_cons.mp hx with z | z
    · rw [z]
      exact hm
    · exact hc x z
/-- names drawn from a bag -/
def spNames : Sp := fun vs H Q _ => ∃ (a : Addr) (m : Int), vs = [.ref a, .int m] ∧ Bag H a ∧ 1 ≤ m ∧ m ≤ 8 ∧
  ∀ (p : Addr) (ys : List Str) (H' : Hp), Ext H H' → H p = none → H' p = some (.lst (ys.map V.str)) → Names ys m.toNat → Q (.ref p) H'
end Ol

set_option Elab.async false
set_option linter.all false
set_option maxRecDepth 100000
set_option maxHeartbeats 4000000
namespace Ol
open PySem PySem.Spec PyProof.Rows L2
open TL (tl)

/-! ### s * n, n small -/
def repS (z : Str) (n : Nat) : Str := if n = 0 then Str.empty else if n = 1 then z else ⟨(List.replicate n z.cps).foldl (· ++ ·) #[]⟩
def rRepS : R2 := fun x y H Q => ∃ (z : Str) (n : Nat), x = .str z ∧ y = .int (n : Int) ∧ n ≤ 1000 ∧ z.length = 1 ∧ (repS z n).length ≤ sizeLine ∧ Q (.str (repS z n)) H
theorem op_repS {X : Cx} : OpR X (binaryOp .Mult) rRepS := by
  intro pins s σ H x y v u Q I rx ry h
  obtain ⟨z, n, rfl, rfl, hn, hz, hl, q⟩ := h
  obtain ⟨t, rfl⟩ := rx
  obtain ⟨t', rfl⟩ := ry
  have tl0 : ¬ (n : Int) < 1 → ((n : Int) == 1 || z.length == 0) = false → Builtin.Str.tooLong (z.length * (n : Int).toNat) = false := by
    intro _ _
    unfold Builtin.Str.tooLong
    exact decide_eq_false (by rw [hz]; show ¬ _ > 2 ^ 24; omega)
  refine PySem.P.mul_str ?_ ?_ tl0 ?_
  · rw [decide_eq_false (by omega), decide_eq_false (by omega)]
    rfl
  · intro h1 h2 h3
    have h4 : 0 < (n : Int) := by omega
    have h5 : ((2 : Int) ^ 63 - 1) / n ≥ 1 := Int.le_ediv_of_mul_le h4 (by omega)
    rw [hz] at h3
    omega
  · by_cases h0 : n = 0
    · subst h0
      exact ⟨by decide, .str Str.empty, H, I.tok _, ⟨_, rfl⟩, q⟩
    · rw [if_neg (by omega)]
      by_cases h1 : n = 1
      · subst h1
        rw [if_pos (show (((1 : Nat) : Int) == 1 || z.length == 0) = true from rfl)]
        exact ⟨.str z, H, I, ⟨_, rfl⟩, q⟩
      · have hf : ((n : Int) == 1 || z.length == 0) = false := by
          rw [hz, Bool.or_eq_false_iff]
          exact ⟨beq_eq_false_iff_ne.mpr (by omega), rfl⟩
        rw [hf, if_neg Bool.false_ne_true]
        have e : repS z n = ⟨(List.replicate (n : Int).toNat z.cps).foldl (· ++ ·) #[]⟩ := by
          unfold repS
          rw [if_neg h0, if_neg h1]
          rfl
        rw [e] at q hl
        exact ⟨hl, .str _, H, I.tok _, ⟨_, rfl⟩, q⟩

def far (n : Nat) : Str := "1" ++ repS "0" n
theorem far_int : ∀ n, n < 40 → PySem.intText? (far n) = some (10 ^ n) := by decide +kernel
theorem far_len : ∀ n, n < 40 → (far n).length ≤ 640 ∧ (repS "0" n).length ≤ 1000 := by decide +kernel
theorem pow_fit : ∀ n, n < 40 → ((10 : Int) ^ n).natAbs.log2 < 1920 ∧ (-(10 : Int) ^ n).natAbs.log2 < 1920 := by decide +kernel
theorem pow_len : ∀ n, n < 40 → ((toString ((10 : Int) ^ n) : String) : Str).length ≤ 200 ∧ ((toString (-(10 : Int) ^ n) : String) : Str).length ≤ 200 := by decide +kernel

/-! ### sizes of what is shown -/
theorem pile_le {B : Nat} : ∀ ts : List Str, (∀ t ∈ ts, t.length ≤ B) → piled ts ≤ ts.length * (B + 2)
  | [], _ => Nat.zero_le _
  | t :: ts, h => by
    rw [piled_cons, List.length_cons, Nat.succ_mul]
    have h1 := h t List.mem_cons_self
    have h2 := pile_le ts fun x hx => h x (List.mem_cons_of_mem _ hx)
    omega
theorem join_le (ts : List Str) : (Str.join ", " ts).length ≤ piled ts := by
  by_cases h : ts = []
  · subst h
    exact Nat.zero_le _
  · have := join_length_add ts h
    omega
theorem listText_le (ts : List Str) : (listText ts).length ≤ piled ts + 2 := by
  have e1 : ((("[" : String) : Str)).length = 1 := rfl
  have e2 : ((("]" : String) : Str)).length = 1 := rfl
  rw [listText_eq_join, strLen_append, strLen_append, e1, e2]
  have := join_le ts
  omega
theorem tupleText_le (ts : List Str) : (tupleText ts).length ≤ piled ts + 3 := by
  have e3 : (((if ts.length == 1 then ",)" else ")" : String) : Str)).length ≤ 2 := by split <;> decide +kernel
  have e1 : ((("(" : String) : Str)).length = 1 := rfl
  unfold tupleText
  rw [strLen_append, strLen_append, e1]
  have := join_le ts
  omega
theorem dictText_le (ts : List Str) : (dictText ts).length ≤ piled ts + 2 := by
  have e1 : ((("{" : String) : Str)).length = 1 := rfl
  have e2 : ((("}" : String) : Str)).length = 1 := rfl
  unfold dictText
  rw [strLen_append, strLen_append, e1, e2]
  have := join_le ts
  omega

/-! ### data as a law draws it: how deep, how long when shown -/
structure Gd (n : Nat) (d : PyData) : Prop where
  sh : d.showable = true
  dep : d.depth ≤ n + 1
  len : d.shown.length ≤ 200 * 8 ^ n
  ok1 : Ok1 d
  okt : OkT d
theorem Gd.up {n m : Nat} {d : PyData} (g : Gd n d) (h : n ≤ m) : Gd m d :=
  ⟨g.sh, Nat.le_trans g.dep (by omega), Nat.le_trans g.len (Nat.mul_le_mul_left _ (Nat.pow_le_pow_right (by decide) h)), g.ok1, g.okt⟩
theorem Gd.fits {n : Nat} {d : PyData} (g : Gd n d) (h : n ≤ 5) : Fits d :=
  ⟨g.sh, Nat.le_trans g.dep (by omega), Nat.le_trans (g.up h).len (by decide)⟩
theorem nope1 {d : PyData} (h : kS d = false) : Ok1 d := fun x e => by rw [e] at h; cases h
theorem nopeT {d : PyData} (h : kT d = false) : OkT d := fun ds e z _ => by rw [z] at h; cases h
theorem gd_non : Gd 0 .none := ⟨by simp [PyData.showable], by simp [PyData.depth], by decide +kernel, nope1 rfl, nopeT rfl⟩
theorem gd_bl (b : Bool) : Gd 0 (.bool b) := ⟨by simp [PyData.showable], by simp [PyData.depth], by cases b <;> decide +kernel, nope1 rfl, nopeT rfl⟩
theorem gd_int (i : Int) (h1 : i.natAbs.log2 < 1920) (h2 : ((toString i : String) : Str).length ≤ 200) : Gd 0 (.int i) :=
  ⟨by simpa [PyData.showable] using h1, by simp [PyData.depth], by simpa [PyData.shown] using h2, nope1 rfl, nopeT rfl⟩
theorem gd_str (x : Str) (h1 : x.length ≤ 19) (h2 : ∀ c ∈ tl x, c < 128) : Gd 0 (.str x) := by
  refine ⟨by simp [PyData.showable], by simp [PyData.depth], ?_, fun y e => ?_, nopeT rfl⟩
  · simp only [PyData.shown]
    have h := StrLaws.reprText_len x fun c hc => Nat.lt_of_lt_of_le (h2 c hc) (by decide)
    omega
  · cases e
    exact ⟨by omega, h2⟩
theorem pow8 (n : Nat) : 200 ≤ 200 * 8 ^ n := Nat.le_mul_of_pos_right _ (Nat.pow_pos (by decide))
theorem all_sh {n : Nat} : ∀ {ds : List PyData}, (∀ d ∈ ds, Gd n d) → PyData.showableAll ds = true ∧ PyData.depthAll ds ≤ n + 1 ∧ (∀ t ∈ PyData.shownAll ds, t.length ≤ 200 * 8 ^ n) ∧ (PyData.shownAll ds).length = ds.length
  | [], _ => ⟨by simp [PyData.showableAll], by simp [PyData.depthAll], fun t h => by simp [PyData.shownAll] at h, by simp [PyData.shownAll]⟩
  | d :: ds, h => by
    have g := h d List.mem_cons_self
    obtain ⟨h1, h2, h3, h4⟩ := all_sh fun x hx => h x (List.mem_cons_of_mem _ hx)
    refine ⟨by simp [PyData.showableAll, g.sh, h1], ?_, fun t ht => ?_, by simp [PyData.shownAll, h4]⟩
    · simp only [PyData.depthAll]
      exact Nat.max_le.mpr ⟨g.dep, h2⟩
    · simp only [PyData.shownAll] at ht
      rcases List.mem_cons.mp ht with e | e
      · rw [e]
        exact g.len
      · exact h3 t e
theorem gd_size {n : Nat} {ds : List PyData} (h : ∀ d ∈ ds, Gd n d) (h5 : ds.length ≤ 5) : piled (PyData.shownAll ds) + 3 ≤ 200 * 8 ^ (n + 1) := by
  obtain ⟨_, _, h3, h4⟩ := all_sh h
  have z := pile_le _ h3
  have p := pow8 n
  rw [h4] at z
  have z2 : ds.length * (200 * 8 ^ n + 2) ≤ 5 * (200 * 8 ^ n + 2) := Nat.mul_le_mul_right _ h5
  rw [Nat.pow_succ]
  omega
theorem gd_list {n : Nat} {ds : List PyData} (h : ∀ d ∈ ds, Gd n d) (h5 : ds.length ≤ 5) : Gd (n + 1) (.list ds) := by
  obtain ⟨h1, h2, _, _⟩ := all_sh h
  have z := gd_size h h5
  refine ⟨by simpa [PyData.showable] using h1, by simp only [PyData.depth]; omega, ?_, nope1 rfl, nopeT rfl⟩
  simp only [PyData.shown]
  have := listText_le (PyData.shownAll ds)
  omega
theorem gd_tuple {n : Nat} {ds : List PyData} (h : ∀ d ∈ ds, Gd n d) (h5 : ds.length ≤ 5) : Gd (n + 1) (.tuple ds) := by
  obtain ⟨h1, h2, _, _⟩ := all_sh h
  have z := gd_size h h5
  refine ⟨by simpa [PyData.showable] using h1, by simp only [PyData.depth]; omega, ?_, nope1 rfl, fun es e he hm => ?_⟩
  · simp only [PyData.shown]
    have := tupleText_le (PyData.shownAll ds)
    omega
  · cases he
    exact (h e hm).ok1
theorem gd_nil : Gd 0 (.list []) := ⟨by simp [PyData.showable, PyData.showableAll], by simp [PyData.depth, PyData.depthAll], by decide +kernel, nope1 rfl, nopeT rfl⟩
theorem gd_tnil : Gd 0 (.tuple []) := ⟨by simp [PyData.showable, PyData.showableAll], by simp [PyData.depth, PyData.depthAll], by decide +kernel, nope1 rfl, fun ds e he hm => by cases he; cases hm⟩
theorem gd_dnil : Gd 0 (.dict []) := ⟨by simp [PyData.showable, PyData.showableKv], by simp [PyData.depth, PyData.depthKv], by decide +kernel, nope1 rfl, nopeT rfl⟩
theorem gd_dict1 {n : Nat} {d : PyData} (g : Gd n d) : Gd (n + 1) (.dict [(.str "a", d)]) := by
  refine ⟨by simp [PyData.showable, PyData.showableKv, g.sh], ?_, ?_, nope1 rfl, nopeT rfl⟩
  · simp only [PyData.depth, PyData.depthKv]
    have := g.dep
    omega
  · simp only [PyData.shown, PyData.shownKv]
    have h1 := dictText_le [reprText "a" ++ ": " ++ d.shown]
    have h2 : piled [reprText "a" ++ ": " ++ d.shown] = (reprText "a" ++ ": " ++ d.shown).length + 2 := by simp [piled]
    have h3 : (reprText "a" ++ ": " ++ d.shown).length = 5 + d.shown.length := by
      rw [strLen_append, strLen_append]
      have e : (reprText "a").length = 3 := by decide +kernel
      have e2 : ((": " : Str)).length = 2 := rfl
      omega
    have h4 := g.len
    have p := pow8 n
    rw [Nat.pow_succ]
    omega
/-- a value that stands for such data -/
def Th (n : Nat) (v : V) (H : Hp) : Prop := ∃ d, Dq H v d ∧ Gd n d
theorem Th.up {n m : Nat} {v : V} {H H' : Hp} (h : Th n v H) (e : Ext H H') (hn : n ≤ m) : Th m v H' := by
  obtain ⟨d, h1, h2⟩ := h
  exact ⟨d, h1.up e, h2.up hn⟩
/-- a list of such values -/
theorem th_all {n : Nat} {H : Hp} : ∀ {xs : List V}, (∀ x ∈ xs, Th n x H) → ∃ ds, DqAll H xs ds ∧ (∀ d ∈ ds, Gd n d) ∧ ds.length = xs.length
  | [], _ => ⟨[], .nil, (fun _ h => nomatch h), rfl⟩
  | x :: xs, h => by
    obtain ⟨d, h1, h2⟩ := h x List.mem_cons_self
    obtain ⟨ds, h3, h4, h5⟩ := th_all fun y hy => h y (List.mem_cons_of_mem _ hy)
    refine ⟨d :: ds, .cons h1 h3, fun e he => ?_, by rw [List.length_cons, List.length_cons, h5]⟩
    rcases List.mem_cons.mp he with z | z
    · rw [z]
      exact h2
    · exact h4 e z
theorem th_list {n : Nat} {H : Hp} {p : Addr} {xs : List V} (hp : H p = some (.lst xs)) (h : ∀ x ∈ xs, Th n x H) (h5 : xs.length ≤ 5) : Th (n + 1) (.ref p) H := by
  obtain ⟨ds, h1, h2, h3⟩ := th_all h
  exact ⟨_, .lst hp h1, gd_list h2 (by omega)⟩
theorem th_tuple {n : Nat} {H : Hp} {p : Addr} {xs : List V} (hp : H p = some (.tup xs)) (h : ∀ x ∈ xs, Th n x H) (h5 : xs.length ≤ 5) : Th (n + 1) (.ref p) H := by
  obtain ⟨ds, h1, h2, h3⟩ := th_all h
  exact ⟨_, .tup hp h1, gd_tuple h2 (by omega)⟩
/-- a text drawn from a bag -/
def spText : Sp := fun vs H Q _ => ∃ (a : Addr), vs = [.ref a] ∧ Bag H a ∧ ∀ (x : Str) (H' : Hp), Ext H H' → x.length ≤ 19 → (∀ c ∈ tl x, c < 128) → Q (.str x) H'
/-- a value drawn from a bag, so deep -/
def spPart (n : Nat) : Sp := fun vs H Q _ => ∃ (a : Addr), vs = [.ref a, .int (n : Int)] ∧ Bag H a ∧ ∀ (v : V) (H' : Hp), Ext H H' → Th (2 * n) v (nw H H') → Q v H'
def spThing : Sp := fun vs H Q _ => ∃ (a : Addr), vs = [.ref a] ∧ Bag H a ∧ ∀ (v : V) (H' : Hp), Ext H H' → Th 5 v H' → Q v H'
end Ol

set_option Elab.async false
set_option linter.all false
set_option maxRecDepth 100000
set_option maxHeartbeats 4000000
namespace Ol
open PySem PySem.Spec PyProof.Rows L2

/-- one statement of several -/
theorem cutW {X : Cx} {s : Stmt} {r : List Stmt} {D : Ends} (U W : L2.St → Hp → Prop)
    (h1 : ∃ t1, PS X s t1 ∧ ∀ nx : L2.St → Hp → Prop, (∀ σ' H', W σ' H' → nx σ' H') → ∀ σ H, U σ H → t1 { D with nx := nx } σ H)
    (h2 : ∃ t2, PSs X r t2 ∧ ∀ σ H, W σ H → t2 D σ H) : ∃ t, PSs X (s :: r) t ∧ ∀ σ H, U σ H → t D σ H := by
  obtain ⟨t2, d2, k2⟩ := h2
  obtain ⟨t1, d1, k1⟩ := h1
  exact ⟨_, pss_cons d1 d2, fun σ H u => k1 _ k2 σ H u⟩
theorem tyes {σ : L2.St} {H : Hp} {A B : Hp → Prop} (h : A H) : tYes σ H (fun b H3 => if b = true then A H3 else B H3) := by
  unfold tYes
  dsimp only
  rw [if_pos rfl]
  exact h
/-- any list comprehension of one clause: P holds of the turn, the list so far, and what is new -/
theorem lc_acc {J : It} {n : Nat} {G : Hp → Prop} {Y : Nat → Hp → V → Hp → Prop} (w : Walk J n G Y) {g : TG} {tt : TT} {te : TE} {vs : List Nat} {σ : L2.St} {H1 : Hp} {D : Addr} {Qd : Hp → Prop}
    (P : Nat → List V → Hp → Prop) (up : ∀ i xs H H', Ext H H' → P i xs H → P i xs H') (h0 : P 0 [] (fun _ => none)) (hD : H1 D = none)
    (hlen : ∀ i xs H, P i xs H → xs.length ≤ i) (hn : n ≤ sizeLine) (hG : ∀ H, Ext H1 H → G H)
    (hs : ∀ i x H H' xs, i < n → Ext H1 H → Y i H x H' → P i xs (nw (upd H1 D (.lst [])) H) →
      ∀ (QY : V → Hp → Prop) (QN : Hp → Prop),
        (∀ y H4, Ext H H4 → ((∀ Hz, Ext (nw H H4) Hz → P i xs Hz → P (i + 1) (xs ++ [y]) Hz)) → QY y H4) →
        (∀ H4, Ext H H4 → (∀ Hz, P i xs Hz → P (i + 1) xs Hz) → QN H4) →
        g x (wipe σ vs) H' fun σ2 H2 => wipe σ2 vs = wipe σ vs ∧ tt σ2 H2 fun b H3 => if b = true then te σ2 H3 QY else QN H3)
    (hd : ∀ H xs, Ext H1 H → H D = some (.lst xs) → P n xs (nw H1 H) → Qd H) :
    ∃ W : Nat → Nat → Hp → Prop, (∃ m, W 0 m (upd H1 D (.lst []))) ∧ ∀ i m H, W i m H →
      (J.stop i H ∧ Qd H) ∨ (J.go i H ∧ ∃ Nx : Hp → Prop, (∀ H', Nx H' → ∃ m', m' < m ∧ W (i + 1) m' H') ∧ ∀ x H', J.yld i H x H' → g x (wipe σ vs) H' fun σ2 H2 => wipe σ2 vs = wipe σ vs ∧ tt σ2 H2 fun b H3 =>
        if b = true then te σ2 H3 fun y H4 => ∃ acc, H4 D = some (.lst acc) ∧ acc.length < sizeLine ∧ Nx (upd H4 D (.lst (acc ++ [y]))) else Nx H3) := by
  let Hs : Hp := upd H1 D (.lst [])
  have hsD : Hs D = some (.lst []) := upd_same
  have e1 : Ext H1 Hs := Ext.new hD
  refine lc_it w (fun i H => ∃ xs, Ext H1 H ∧ H D = some (.lst xs) ∧ P i xs (nw Hs H))
    ⟨[], e1, hsD, up 0 [] _ _ (fun _ o z => by have z' : (none : Option HO) = some o := z; cases z') h0⟩ (by rintro i H _ ⟨xs, e, _⟩; exact hG H e) ?_ ?_
  · rintro i x H H' hi ⟨xs, e, hx, hp⟩ y
    have dom : ∀ b, H b = none → Hs b = none := by
      intro b q
      have z : b ≠ D := fun z => by rw [z, hx] at q; cases q
      rw [show Hs b = H1 b from upd_ne z]
      exact e.free q
    refine hs i x H H' xs hi e y hp _ _ ?_ ?_
    · intro v H4 e4 k
      refine ⟨xs, e4 _ _ hx, by have := hlen _ _ _ hp; omega, xs ++ [v], Ext.mut (e.trans e4) hD, upd_same, ?_⟩
      have toN : Ext (nw Hs H4) (nw Hs (upd H4 D (.lst (xs ++ [v])))) := nw_mut hsD
      exact k _ ((nw_dom dom).trans toN) (up _ _ _ _ ((nw_up e4).trans toN) hp)
    · intro H4 e4 k
      exact ⟨xs, e.trans e4, e4 _ _ hx, k _ (up _ _ _ _ (nw_up e4) hp)⟩
  · rintro H ⟨xs, e, hx, hp⟩
    exact hd H xs e hx (up _ _ _ _ (nw_base e1) hp)
end Ol

set_option Elab.async false
set_option linter.all false
set_option maxRecDepth 100000
set_option maxHeartbeats 4000000
namespace Ol
open PySem PySem.Spec PyProof.Rows L2

/-- x in o, o an instance of a class with its own __contains__ -/
def rInO (C : Addr) (sp : Sp) : R2 := fun x y H Q => ∃ (a dx : Addr) (fs : List (Str × V)), y = .ref a ∧ H a = some (.ins C dx fs) ∧
  sp [.ref a, x] H (fun v H' => ∃ b, v = .bl b ∧ Q (.bl b) H') E0
def rNotInO (C : Addr) (sp : Sp) : R2 := fun x y H Q => ∃ (a dx : Addr) (fs : List (Str × V)), y = .ref a ∧ H a = some (.ins C dx fs) ∧
  sp [.ref a, x] H (fun v H' => ∃ b, v = .bl b ∧ Q (.bl (!b)) H') E0
section
variable {X : Cx} {k : Nat} {C f : Addr} {fd : FuncData} {ps : List Str} {sp : Sp}
theorem op_inO (F : FnOk X.prog X.w X.K X.mg X.base CX0 k f fd ps sp) (hr : Room k X.A) (hs : PySem.W.findIn X.K (.ref C) "__contains__" = some (some (.ref f)))
    (hf : PySem.W.isFn X.K (.ref f) = true) (b : Binds X.K fd ps []) : OpR X (compareOp .In) (rInO C sp) := by
  intro pins s σ H x y v u Q I rx ry h
  obtain ⟨a, dx, fs, rfl, ho, h⟩ := h
  cases ry
  obtain ⟨mA, O, _⟩ := ins_get I.hok ho
  obtain ⟨od, J, _⟩ := O.look
  obtain ⟨m, fr⟩ := I.fr
  refine PySem.W.in_K fr I.ok.mod.kin J hs hf ?_
  refine wpAny_mono (run_fn (us := [.ref a, v]) (vs := [.ref a, x]) (E := E0) F hr b .nil pass0 I (.cons rfl (.cons rx .nil)) h) ?_ (fun _ _ z => z)
  rintro r s' ⟨w, H', I', rw', b', rfl, q⟩
  cases rw'
  exact wpAny_truthy_bool ⟨.bl b', H', I', rfl, q⟩
theorem op_notInO (F : FnOk X.prog X.w X.K X.mg X.base CX0 k f fd ps sp) (hr : Room k X.A) (hs : PySem.W.findIn X.K (.ref C) "__contains__" = some (some (.ref f)))
    (hf : PySem.W.isFn X.K (.ref f) = true) (b : Binds X.K fd ps []) : OpR X (compareOp .NotIn) (rNotInO C sp) := by
  intro pins s σ H x y v u Q I rx ry h
  obtain ⟨a, dx, fs, rfl, ho, h⟩ := h
  cases ry
  obtain ⟨mA, O, _⟩ := ins_get I.hok ho
  obtain ⟨od, J, _⟩ := O.look
  obtain ⟨m, fr⟩ := I.fr
  refine PySem.W.notIn_K fr I.ok.mod.kin J hs hf ?_
  refine wpAny_mono (run_fn (us := [.ref a, v]) (vs := [.ref a, x]) (E := E0) F hr b .nil pass0 I (.cons rfl (.cons rx .nil)) h) ?_ (fun _ _ z => z)
  rintro r s' ⟨w, H', I', rw', b', rfl, q⟩
  cases rw'
  exact wpAny_truthy_bool ⟨.bl (!b'), H', I', rfl, q⟩
end
end Ol

set_option Elab.async false
set_option linter.all false
set_option maxRecDepth 100000
set_option maxHeartbeats 4000000
namespace Ol
open PySem PySem.Spec PyProof.Rows L2

/-! ### enumerate(t), t a tuple -/
theorem meets_enumerate_new1 {v : Value} {o : Obj} {H : Heap → Prop} (B : Begins v o H) :
    Meets (Builtin.«enumerate.__new__» ⟨[.type "enumerate", v], []⟩) (fun _ R s => H s.heap ∧
      R (.ok (.ret (.ref (s.heap.push o).objs.size))) { s with heap := (s.heap.push o).push { cls := .type "enumerate", data := .fields #[.none, .bool false, .ref s.heap.objs.size, rawInt 0, .none, .none] } }) :=
  .of_wp fun prog w A R s h => by
    obtain ⟨hp, g, d, tk, os⟩ := s
    obtain ⟨h1, h⟩ := h
    have hsub := sub_enumerate
    have q1 : ∀ {A' : Around} {E : Value → Shared → Prop} {Q : Value → Shared → Prop}, Q (.ref hp.objs.size) ⟨hp.push o, g, d, tk, os⟩ → wpAny (model prog w) A' (pyIter v) Q E ⟨hp, g, d, tk, os⟩ :=
      fun q => B.iter prog w _ _ ⟨hp, g, d, tk, os⟩ _ h1 q
    wp_walk using q1
    refine wpAny_stack_any fun st => wpAny_pure ?_
    split
    · rename_i c _ _ _ _ _
      cases (c == Value.type "enumerate")
      · wp_walk using q1
        exact ⟨_, rfl, h⟩
      · wp_walk using q1
        exact ⟨_, rfl, h⟩
    · wp_walk using q1
      exact ⟨_, rfl, h⟩
section
variable {prog : Program} {w : World} {A : Around} {E : Value → Shared → Prop} {s : Shared}
theorem enum_begins1 {v : Value} {o : Obj} {H : Heap → Prop} {Q : Value → Shared → Prop} (B : Begins v o H) (h1 : H s.heap)
    (h : ∀ h', IsEnum h' (s.heap.objs.size + 1) s.heap.objs.size 0 .none → h'.get? s.heap.objs.size = some o → h'.objs.size = s.heap.objs.size + 2 →
      (∀ b o, s.heap.get? b = some o → h'.get? b = some o) → Q (.ref (s.heap.objs.size + 1)) { s with heap := h' }) :
    wpAny (model prog w) A (call (.type "enumerate") [v]) Q E s := by
  refine callType_new F.called_enumerate (by decide) (F.typeCall_enumerate_1 _) (F.newCall_enumerate_1 _) (fun obj => F.args_object_init_2 obj _) F.entry_enumerate_new
    (meets_enumerate_new1 B) ⟨h1, ?_⟩
  have hz : (s.heap.push o).objs.size = s.heap.objs.size + 1 := Heap.size_push ..
  show _ ∧ _
  rw [hz]
  have he : IsEnum ((s.heap.push o).push { cls := .type "enumerate", data := .fields #[.none, .bool false, .ref s.heap.objs.size, rawInt 0, .none, .none] }) (s.heap.objs.size + 1) s.heap.objs.size 0 .none := by
    have := Heap.get?_push_size (s.heap.push o) (o := { cls := .type "enumerate", data := .fields #[.none, .bool false, .ref s.heap.objs.size, rawInt 0, .none, .none] }) rfl
    rw [hz] at this; exact this
  refine ⟨⟨_, he, rfl⟩, h _ he (Heap.get?_push_of_some _ (Heap.get?_push_size _ B.free)) (by rw [Heap.size_push, hz]) fun b o x => Heap.get?_push_of_some _ (Heap.get?_push_of_some _ x)⟩
end
/-- the tuple at a as it stands, each item with its place in a new pair -/
def IteT (K : PySem.W.Frag) (a : Addr) : It :=
  ⟨fun i H => ∃ (xs : List V) (x : V), SqT K H a xs ∧ xs[i]? = some x, fun i H v H' => ∃ T x, v = .ref T ∧ H T = none ∧ H' = upd H T (.tup [.int (i : Nat), x]) ∧ ∀ xs, SqT K H a xs → xs[i]? = some x, fun i H => ∃ xs : List V, SqT K H a xs ∧ xs.length ≤ i⟩
theorem turn_enumT {P : Program} {w : World} {K : PySem.W.Frag} {elts : List Expr} {kk : Nat} {tpos : Pos} (a e it : Addr) :
    Turn P w K (.Tuple elts kk tpos) (IteT K a) [e, it] e (fun i h => (∃ old, IsEnum h e it ((i : Nat) : Int) old) ∧ h.IsTupleIter it a i ∧ e ≠ it ∧ a ≠ it ∧ e ≠ a) where
  mem := by simp
  obj := fun i h st b hb => by
    obtain ⟨⟨old, he⟩, ⟨o, ho, hc, hd⟩, _⟩ := st
    have e' : b = e ∨ b = it := by simpa using hb
    rcases e' with z | z
    · rw [z]; exact ⟨_, he, fun v q => nomatch q⟩
    · rw [z]; exact ⟨o, ho, fun v q => by rw [hd] at q; cases q⟩
  keep := fun i h h' st k => let ⟨⟨old, he⟩, hi, hne⟩ := st; ⟨⟨old, k e (by simp) _ he⟩, hi.at fun o q => k it (by simp) o q, hne⟩
  item := by
    intro X hP hw hK hc i pins s σ H E I hf st hg
    subst hP hw hK
    obtain ⟨⟨old, he⟩, hit, hne, hai, hea⟩ := st
    obtain ⟨xs, x, hq, hx⟩ := hg
    obtain ⟨its, rv, p, hz⟩ := I.tuple hq
    obtain ⟨u, hu, ru⟩ := rv.get hx
    have hel : e < s.heap.objs.size := Heap.lt_size he
    have hil : it < s.heap.objs.size := by obtain ⟨_, q, _⟩ := hit; exact Heap.lt_size q
    have hlt : i < its.toArray.size := by have := rv.length; have := (List.getElem?_eq_some_iff.mp hx).1; simp; omega
    refine wpAny_pyNext_enum_itemD (Draws.tuple (A := X.A.in1) (show X.A.in1.handled = none from I.ok.hd hc) it a hai its.toArray) he ⟨hit, p⟩ hlt hne (by simp [hne, hea]) fun u' h' tk hu' ho st' hT hsz hk => ?_
    have eu : u' = u := by
      have z : its.toArray[i]? = some u := by simpa using hu
      rw [z] at hu'
      exact (Option.some.inj hu').symm
    subst eu
    refine ⟨_, rfl, wpAny_letOwnedTupleGo_enum (s := { s with heap := h', toks := tk + 1 }) ho fun h'' he' sb => ?_⟩
    have hT2 : h''.get? s.heap.objs.size = some { cls := .type "tuple", data := .seq #[.int i tk, u'] } := (sb.2 _ (Nat.ne_of_gt hel)).trans hT
    have new : ObjOk X.prog X.w (upd H s.heap.objs.size (.tup [.int (i : Nat), x])) h'' s.heap.objs.size (.tup [.int (i : Nat), x]) :=
      ⟨by show 2 ≤ sizeLine; decide, [.int i tk, u'], .cons ⟨_, rfl⟩ (.cons ru .nil), ⟨_, hT2, rfl, _, rfl⟩⟩
    have I1 : Inv X pins σ (upd H s.heap.objs.size (.tup [.int (i : Nat), x])) { s with heap := h'', toks := tk + 1 } :=
      I.turnedNew (ch := [e, it]) (fun b ob hb q => (sb.2 b (fun z => hb (by simp [z]))).trans (hk b ob (fun z => hb (by simp [z])) (fun z => hb (by simp [z])) q)) hf (Nat.le_refl _) new
    refine ⟨.ref s.heap.objs.size, _, I1, rfl, ⟨_, x, rfl, I.hok.fresh (Nat.le_refl _), rfl, fun ys hy => by rw [I.tuple_inj hy hq]; exact hx⟩, ⟨⟨u', ?_⟩, st'.1.at fun o q => (sb.2 it (Ne.symm hne)).trans q, hne, hai, hea⟩, fun b hb => ?_⟩
    · have e1 : ((i + 1 : Nat) : Int) = (i : Int) + 1 := by omega
      rw [e1]; exact he'
    · have hb' : b < s.heap.objs.size := by
        have e' : b = e ∨ b = it := by simpa using hb
        rcases e' with z | z
        · rw [z]; exact hel
        · rw [z]; exact hil
      rw [upd_ne (Nat.ne_of_lt hb')]
      exact (hf b hb).1
  done := by
    intro X hP hw hK hc i pins s σ H E I hf st hg
    subst hP hw hK
    obtain ⟨⟨old, he⟩, hit, hne, hai, hea⟩ := st
    obtain ⟨xs, hq, hx⟩ := hg
    obtain ⟨its, rv, p, hz⟩ := I.tuple hq
    obtain ⟨f0, f1, f2, f3, f4, f5⟩ := hf it (by simp)
    have hl := rv.length
    have hT : s.TypeIs (.ref e) "enumerate" := ⟨_, he, rfl⟩
    unfold pyNext
    refine wpAny_bind (wpAny_attempt (wpAny_callSpecial?_slot (name := Str.ofString "__next__") hT F.slot_enumerate_next
      (wpAny_call_entry F.slot_enumerate_next hT F.entry_enumerate_next ?_ (F.args_enumerate_next_1 _))))
    show wpAny _ _ (field (.ref e) 2 >>= _) _ _ _
    refine wpAny_bind (wpAny_field he rfl (x := .ref it) rfl ?_)
    refine wpAny_bind (wpAny_nextOf_tuple_end (I.ok.hd hc) hit p (by simp; omega) fun h' x he' hx' => ?_)
    obtain ⟨o, ho, hcl⟩ := hx'
    refine wpAny_bind (wpAny_isInstance (T := "StopIteration") (b := true) ⟨o, ho, hcl⟩ isSubtype_stop ?_)
    exact wpAny_pure ⟨rfl, I.turned (t' := s.toks) (fun b o hb q => he' b o hb q) f0 f1 f3 f4 f5⟩
  self := fun A i s Q E st h => let ⟨⟨_, he⟩, _⟩ := st; wpAny_pyIter_enum he h
def iEnumT (K : PySem.W.Frag) (ta : TA) : TI := fun σ H R => ta σ H fun vs H1 => ∃ a xs, vs = [.ref a] ∧ SqT K H1 a xs ∧ R (IteT K a) H1
theorem pi_enumT {X : Cx} {e : Expr} {ta : TA} {p pos tpos : Pos} {elts : List Expr} {kk : Nat} (hg : Gl X "enumerate") (hm : X.mg "enumerate" = none) (ha : PA X [e] ta) (hs : starEach [e] X.env = [(false, eval e X.env)] := by rfl) :
    PI X (.Tuple elts kk tpos) (.Call (.Name "enumerate" p) [e] [] pos) (iEnumT X.K ta) := by
  refine ⟨fun pins s σ H R I h => ?_⟩
  refine Call_ (ld_blt I hg hm boot_enumerate (PyProof.Rows.callWith_type1 (thn (ha.run pos pins s σ H _ I h) fun us s1 ⟨vs, H1, I1, r1, q1⟩ => ?_) hs rfl))
  obtain ⟨a, xs, ex, hq, q⟩ := q1
  subst ex
  cases r1 with
  | cons r rr =>
    cases rr
    cases r
    obtain ⟨its, rv, p', hz⟩ := I1.tuple hq
    have hal : a < s1.heap.objs.size := by obtain ⟨_, q, _⟩ := p'; exact Heap.lt_size q
    refine enum_begins1 (begins_tuple a its.toArray) p' fun h' he hit hsz hk => wpAny_pyIter_enum he ?_
    have I2 : Inv X pins σ H1 { s1 with heap := h' } := I1.kept (t' := s1.toks) hk
    refine ⟨s1.heap.objs.size + 1, [s1.heap.objs.size + 1, s1.heap.objs.size], _, _, H1, rfl, I2, turn_enumT a (s1.heap.objs.size + 1) s1.heap.objs.size, ⟨⟨.none, he⟩, ⟨_, hit, rfl, rfl⟩, Nat.succ_ne_self _, Nat.ne_of_lt hal, Nat.ne_of_gt (Nat.lt_succ_of_lt hal)⟩, fun b hb => ?_, q⟩
    have e' : b = s1.heap.objs.size + 1 ∨ b = s1.heap.objs.size := by simpa using hb
    have hle : s1.heap.objs.size ≤ b := by
      rcases e' with z | z
      · rw [z]; exact Nat.le_add_right _ _
      · rw [z]; exact Nat.le_refl _
    exact I1.fpOk hle (I1.hok.fresh hle)
theorem walk_enumT {K : PySem.W.Frag} {a : Addr} {xs : List V} : Walk (IteT K a) xs.length (fun H => SqT K H a xs) (YPair (fun i => some (.int (i : Nat))) (fun i => xs[i]?)) := by
  refine ⟨fun i _ hi q => ⟨xs, xs[i], q, by simp [hi]⟩, fun _ q => ⟨xs, q, Nat.le_refl _⟩, fun i H v H' _ q y => ?_⟩
  obtain ⟨T, x, h1, h2, h3, h4⟩ := y
  exact ⟨T, .int (i : Nat), x, h1, h2, h3, rfl, h4 xs q⟩
end Ol

set_option Elab.async false
set_option linter.all false
set_option maxRecDepth 100000
set_option maxHeartbeats 4000000
namespace Ol
open PySem PySem.Spec PyProof.Rows L2

/-- a dict comprehension over any walk -/
theorem dc_it {J : It} {n : Nat} {G : Hp → Prop} {Y : Nat → Hp → V → Hp → Prop} (w : Walk J n G Y) {g : TG} {tt : TT} {tk tv : TE} {vs : List Nat} {σ : L2.St} {H1 : Hp} {D : Addr} {Qd : Hp → Prop} (Pv : Nat → Hp → Prop)
    (h0 : Pv 0 (upd H1 D (.dK []))) (hG : ∀ i H, i ≤ n → Pv i H → G H)
    (hs : ∀ i x H H', i < n → Pv i H → Y i H x H' → g x (wipe σ vs) H' fun σ2 H2 => wipe σ2 vs = wipe σ vs ∧ tt σ2 H2 fun b H3 =>
      if b = true then tk σ2 H3 fun y H4 => tv σ2 H4 fun z H5 => ∃ kvs k, y = kV k ∧ H5 D = some (.dK kvs) ∧ kvs.length < sizeLine ∧ Pv (i + 1) (upd H5 D (.dK (putK kvs k z))) else Pv (i + 1) H3) (hd : ∀ H, Pv n H → Qd H) :
    ∃ W : Nat → Nat → Hp → Prop, (∃ m, W 0 m (upd H1 D (.dK []))) ∧ ∀ i m H, W i m H →
      (J.stop i H ∧ Qd H) ∨ (J.go i H ∧ ∃ Nx : Hp → Prop, (∀ H', Nx H' → ∃ m', m' < m ∧ W (i + 1) m' H') ∧ ∀ x H', J.yld i H x H' → g x (wipe σ vs) H' fun σ2 H2 => wipe σ2 vs = wipe σ vs ∧ tt σ2 H2 fun b H3 =>
        if b = true then tk σ2 H3 fun y H4 => tv σ2 H4 fun z H5 => ∃ kvs k, y = kV k ∧ H5 D = some (.dK kvs) ∧ kvs.length < sizeLine ∧ Nx (upd H5 D (.dK (putK kvs k z))) else Nx H3) := by
  refine ⟨fun i m H => m = n - i ∧ i ≤ n ∧ Pv i H, ⟨n, by simp, Nat.zero_le _, h0⟩, ?_⟩
  rintro i m H ⟨rfl, hi, p⟩
  have q := hG i H hi p
  by_cases hlt : i < n
  · exact .inr ⟨w.goes i H hlt q, Pv (i + 1), fun H' p' => ⟨n - (i + 1), by omega, rfl, hlt, p'⟩, fun x H' y => hs i x H H' hlt p (w.yields i H x H' hlt q y)⟩
  · have e : i = n := by omega
    subst e
    exact .inl ⟨w.stops H q, hd H p⟩

/-- names and their places, as a dict holds them -/
def spots (ns : List Str) : List (Key × V) := ns.zipIdx.map fun p => (.inr p.1, .int (p.2 : Int))
theorem spots_len (ns : List Str) : (spots ns).length = ns.length := by unfold spots; rw [List.length_map, List.length_zipIdx]
theorem spots_snoc (ns : List Str) (x : Str) : spots (ns ++ [x]) = spots ns ++ [(.inr x, .int (ns.length : Int))] := by
  unfold spots
  rw [List.zipIdx_append, List.map_append]
  simp
theorem valV_none {kvs : List (Key × V)} {k : Key} (h : ∀ p ∈ kvs, p.1 ≠ k) : valV kvs k = none := by
  induction kvs with
  | nil => rfl
  | cons p r ih => rw [valV_neg (h p List.mem_cons_self), ih fun q hq => h q (List.mem_cons_of_mem _ hq)]
theorem putK_new {kvs : List (Key × V)} {k : Key} {v : V} (h : valV kvs k = none) : putK kvs k v = kvs ++ [(k, v)] := by
  unfold putK
  rw [valV_any, h]
  rfl
theorem spots_key (ns : List Str) : (spots ns).map (·.1) = ns.map Sum.inr := by
  unfold spots
  rw [List.map_map]
  have h : ∀ (l : List Str) (k : Nat), (l.zipIdx k).map ((fun p : Key × V => p.1) ∘ fun p => (Sum.inr p.1, V.int (p.2 : Int))) = l.map Sum.inr := by
    intro l
    induction l with
    | nil => intro k; rfl
    | cons a l ih =>
      intro k
      rw [List.zipIdx_cons, List.map_cons, ih]
      rfl
  exact h ns 0
theorem spots_none {ns : List Str} {x : Str} (h : x ∉ ns) : valV (spots ns) (.inr x) = none := by
  refine valV_none fun p hp e => h ?_
  have z : p.1 ∈ (spots ns).map (·.1) := List.mem_map_of_mem hp
  rw [spots_key, e] at z
  obtain ⟨y, hy, ey⟩ := List.mem_map.mp z
  cases ey
  exact hy
theorem spots_val {ns : List Str} (hd : ns.Nodup) {i : Nat} (hi : i < ns.length) : valV (spots ns) (.inr ns[i]) = some (.int (i : Int)) := by
  unfold spots
  have h : ∀ (l : List Str) (k i : Nat) (hi : i < l.length), l.Nodup → valV ((l.zipIdx k).map fun p => ((.inr p.1, .int (p.2 : Int)) : Key × V)) (.inr l[i]) = some (.int ((k + i : Nat) : Int)) := by
    intro l
    induction l with
    | nil => intro k i hi; cases hi
    | cons a l ih =>
      intro k i hi hn
      rw [List.zipIdx_cons, List.map_cons]
      cases i with
      | zero => exact valV_pos rfl
      | succ i =>
        rw [List.nodup_cons] at hn
        have hi' : i < l.length := by simpa using hi
        rw [valV_neg]
        · show valV _ (Sum.inr l[i]) = _
          rw [ih (k + 1) i hi' hn.2]
          rw [show k + 1 + i = k + (i + 1) by omega]
        · intro z
          have z' : a = l[i] := Sum.inr.inj z
          exact hn.1 (z' ▸ List.getElem_mem hi')
  have z := h ns 0 i hi hd
  rw [Nat.zero_add] at z
  exact z
end Ol

set_option Elab.async false
set_option linter.all false
set_option maxRecDepth 100000
set_option maxHeartbeats 4000000
namespace Ol
open PySem PySem.Spec PyProof.Rows L2

/-- a method of class C and its promise -/
structure Cm (P : Program) (w : World) (K : PySem.W.Frag) (mg : Str → Option Value) (base : Heap)
    (C : Addr) (k : Nat) (m : Str) (ps : List Str) (sp : Sp) : Prop where
  has : ∃ (f : Addr) (fd : FuncData), FnOk P w K mg base CX0 k f fd ps sp ∧ Meth K C m f ∧ Binds K fd ps []
section
variable {X : Cx} {k : Nat} {C : Addr} {ps : List Str} {sp : Sp} {m : Str} {o e : Expr} {es : List Expr} {ta : TE} {t : TA} {apos pos : Pos}
theorem pe_cm {pl : Sem Bool} (M : Cm X.prog X.w X.K X.mg X.base C k m ps sp) (c : Cls X.K C) (hr : Room k X.A) (he : PE X o ta) (ha : PA X (e :: es) t)
    (hst : starEach (e :: es) X.env = (false, eval e X.env) :: starEach es X.env := by rfl) (hpl : (backTo pos (starEach es X.env)).any (·.1) = false := by rfl)
    (ht : eval (.Call (.Attribute o m apos) (e :: es) [] pos) X.env = (do
      let ov ← eval o X.env
      standAt apos.atName
      let (f, first) ← holding [ov] (getMethod ov m pl)
      callWith pos f first (backTo pos (starEach (e :: es) X.env)) (backToKw pos (keywordEach [] X.env))) := by rfl) :
    PE X (.Call (.Attribute o m apos) (e :: es) [] pos) (tMeth C m sp [] E0 ta t) := by
  obtain ⟨f, fd, F, hm, b⟩ := M.has
  exact pe_meth he c hm F hr b .nil pass0 ha hst hpl ht
theorem op_notInM (M : Cm X.prog X.w X.K X.mg X.base C k "__contains__" ps sp) (hr : Room k X.A) : OpR X (compareOp .NotIn) (rNotInO C sp) := by
  obtain ⟨f, fd, F, hm, b⟩ := M.has
  exact op_notInO F hr hm.at_ hm.fn b
end

/-! ### t * 1 -/
theorem tuple_mul1 (l : Addr) (items : Array Value) (n : Nat) (dd : Option Addr) (sl : Array (Option Value)) (u : Tok) (hi : items.isEmpty = false) :
    Meets (Builtin.«tuple.__mul__» ⟨[.ref l, .int 1 u], []⟩) (fun _ R s => s.heap.get? l = some { cls := .type "tuple", dict := dd, data := .seq items n, slots := sl } ∧
      R (.ok (.ret (Value.ref l))) s) :=
  .of_wp fun prog w A R s h => by
    obtain ⟨hp, g, d, tk, os⟩ := s
    obtain ⟨hl, h⟩ := h
    have f1 := AutoSeq1.idx_int
    wp_walk using wpAny_loadPart' hl
    exact ⟨_, rfl, h⟩
/-- t * k, 1 ≤ k -/
def rRepA (K : PySem.W.Frag) : R2 := fun x y H Q => ∃ l k xs, x = .ref l ∧ y = .int k ∧ SqT K H l xs ∧ xs ≠ [] ∧ 1 ≤ k ∧ k ≤ 1000 ∧ xs.length ≤ 1000 ∧
  (k = 1 → Q (.ref l) H) ∧ (2 ≤ k → ∀ p, H p = none → Q (.ref p) (upd H p (.tup (List.replicate k.toNat xs).flatten)))
theorem op_repA {X : Cx} : OpR X (binaryOp .Mult) (rRepA X.K) := by
  intro pins s σ H x y v u Q I rx ry h
  obtain ⟨l, k, xs, ex, ey, hT, hne, h1, h2, hz, q1, q2⟩ := h
  by_cases hk : 2 ≤ k
  · exact op_repT pins s σ H x y v u Q I rx ry ⟨l, k, xs, ex, ey, hT, hne, hk, h2, hz, q2 hk⟩
  · have e1 : k = 1 := by omega
    subst ex ey e1
    cases rx
    obtain ⟨t, rfl⟩ := ry
    obtain ⟨its, r, ⟨⟨cls, dd, data, sl⟩, ho, hc, n, hd⟩, hs⟩ := I.tuple hT
    simp only at hc hd
    subst hc hd
    have hle : its.length = xs.length := r.length.symm
    have hn : its ≠ [] := fun e => hne (by
      rw [e] at hle
      exact List.eq_nil_of_length_eq_zero hle.symm)
    have hi : its.toArray.isEmpty = false := by
      cases its with
      | nil => exact absurd rfl hn
      | cons a b => rfl
    exact wpAny_binaryOp_repeat_ref (T := "tuple") (U := "int") (by decide) ⟨_, ho, rfl⟩ (fun s' => typeIs_int s' 1 t) noFill_tuple_mul F.fills_int_mul F.slot_int_rmul repeat_tuple F.slot_int_index.lookup
      (call_meets F.slot_int_rmul (typeIs_int s 1 t) F.entry_int_rmul (F.args_int_rmul_2 _ _) (int_rmul_tuple 1 t l its.toArray n dd sl)
        ⟨ho, rfl, ⟨_, ho, rfl⟩, call_meets F.slot_tuple_mul ⟨_, ho, rfl⟩ F.entry_tuple_mul (F.args_tuple_mul_2 _ _) (tuple_mul1 l its.toArray n dd sl t hi) ⟨ho, .ref l, H, I, rfl, q1 rfl⟩⟩)
end Ol

set_option Elab.async false
set_option linter.all false
set_option maxRecDepth 100000
set_option maxHeartbeats 4000000
namespace Ol
open PySem PySem.Spec PyProof.Rows L2

/-- a method that may raise, within a try -/
def tMethX (C : Addr) (m : Str) (sp : Sp) (E : L2.St → XK) (ta : TE) (t : TA) : TE := fun σ H Q => ta σ H fun x H1 => ∃ a dx fs, x = .ref a ∧ H1 a = some (.ins C dx fs) ∧ fs.lookup m = none ∧
  t σ H1 fun vs H2 => sp (x :: vs) H2 Q (E σ)
/-- a method that may raise, and its promise -/
structure CmX (P : Program) (w : World) (K : PySem.W.Frag) (mg : Str → Option Value) (base : Heap)
    (C : Addr) (k : Nat) (m : Str) (ps : List Str) (sp : Sp) : Prop where
  has : ∃ (f : Addr) (fd : FuncData), FnOk P w K mg base (L2.CX P w) k f fd ps sp ∧ Meth K C m f ∧ Binds K fd ps []
section
variable {X : Cx} {k : Nat} {C : Addr} {ps : List Str} {sp : Sp} {m : Str} {o e : Expr} {es : List Expr} {ta : TE} {t : TA} {apos pos : Pos} {E : L2.St → XK}
theorem pe_cmX {pl : Sem Bool} (M : CmX X.prog X.w X.K X.mg X.base C k m ps sp) (c : Cls X.K C) (hr : Room k X.A) (hx : ∀ σ, PassesAt (L2.CX X.prog X.w) X σ (E σ)) (he : PE X o ta) (ha : PA X (e :: es) t)
    (hst : starEach (e :: es) X.env = (false, eval e X.env) :: starEach es X.env := by rfl) (hpl : (backTo pos (starEach es X.env)).any (·.1) = false := by rfl)
    (ht : eval (.Call (.Attribute o m apos) (e :: es) [] pos) X.env = (do
      let ov ← eval o X.env
      standAt apos.atName
      let (f, first) ← holding [ov] (getMethod ov m pl)
      callWith pos f first (backTo pos (starEach (e :: es) X.env)) (backToKw pos (keywordEach [] X.env))) := by rfl) :
    PE X (.Call (.Attribute o m apos) (e :: es) [] pos) (tMethX C m sp E ta t) := by
  obtain ⟨f, fd, F, hm, b⟩ := M.has
  refine ⟨fun pins s σ H Q I h => ?_⟩
  refine PySem.W.methodCall_KW (pl := pl) (thn (he.run pins s σ H _ I h) fun u s1 ⟨x, H1, I1, rx, a, dx, fs, ex, ea, l, q⟩ => ?_) ht
  subst ex
  obtain rfl : u = Value.ref a := rx
  refine getmeth_ok I1 ea c hm l ?_
  refine PySem.W.callWith_K (first := [.ref a]) (h₀ := X.base) I.ok.mod.kin hm.kp (thn (ha.run pos pins s1 σ H1 _ I1 q) fun us s2 ⟨vs, H2, I2, r, q2⟩ => ⟨I2.kIn, ?_⟩) hst hpl
  exact run_fnS (us := .ref a :: us) (vs := .ref a :: vs) F hr b (hx σ) I2 (.cons rfl r) q2
end
end Ol

set_option Elab.async false
set_option linter.all false
set_option maxRecDepth 100000
set_option maxHeartbeats 4000000
namespace Ol
open PySem PySem.Spec PyProof.Rows L2 RZ

theorem walk_zipT {K : PySem.W.Frag} {a b : Addr} {xs ys : List V} {n : Nat} (hn : n = min xs.length ys.length) : Walk (ItzT K a b) n (fun H => SqT K H a xs ∧ SqT K H b ys) (YPair (fun i => xs[i]?) (fun i => ys[i]?)) := by
  subst hn
  refine ⟨fun i _ hi q => ?_, fun _ q => ⟨xs, ys, q.1, q.2, by omega⟩, fun i H v H' _ q y => ?_⟩
  · have h1 : i < xs.length := by omega
    have h2 : i < ys.length := by omega
    exact ⟨xs, ys, xs[i], ys[i], q.1, q.2, by simp [h1], by simp [h2]⟩
  · obtain ⟨T, x, z, h1, h2, h3, h4, h5⟩ := y
    exact ⟨T, x, z, h1, h2, h3, h4 xs q.1, h5 ys q.2⟩

theorem ext_del {H H' : Hp} {D : Addr} (e : Ext H H') : Ext (del H D) (del H' D) := fun b o z => by
  by_cases c : b = D
  · rw [c, del_same] at z; cases z
  · rw [del_ne c] at z ⊢
    exact e _ _ z
theorem del_ext {H : Hp} {D : Addr} : Ext (del H D) H := fun b o z => by
  by_cases c : b = D
  · rw [c, del_same] at z; cases z
  · rw [del_ne c] at z
    exact z
theorem ext_to {H H' : Hp} {D : Addr} (e : Ext H H') (h : H D = none) : Ext H (del H' D) := fun b o z => by
  rw [del_ne (fun c => by rw [c, h] at z; cases z)]
  exact e _ _ z
theorem del_upd {H : Hp} {D : Addr} {o : HO} : del (upd H D o) D = del H D := by
  funext b
  by_cases c : b = D
  · rw [c, del_same, del_same]
  · rw [del_ne c, del_ne c, upd_ne c]
theorem del_at {H : Hp} {D p : Addr} {o u : HO} (h : H p = none) (hD : H D = some u) {H' : Hp} (h' : H' p = some o) : del H' D p = some o := by
  rw [del_ne (fun c => by rw [c, hD] at h; cases h)]
  exact h'
/-- what the second clause is to do in turn i of the first one -/
def Inner (P : Nat → Nat → List V → Hp → Prop) (D : Addr) (H : Hp) (g1 : TG) (tt1 : TT) (te : TE) (vs1 : List Nat) (i : Nat) (σ2 : L2.St) (J1 : It) (H4 : Hp) : Prop :=
  Ext H H4 ∧ ∃ n1 G1 Y1, Walk J1 n1 G1 Y1 ∧
    (∀ Hz, Ext (del H4 D) Hz → G1 Hz) ∧
    (∀ ys Hz, P i n1 ys Hz → P (i + 1) 0 ys Hz) ∧
    ∀ j y Ha Hb ys, j < n1 → Ext (del H4 D) Ha → Ha D = some (.lst ys) → Y1 j Ha y Hb → P i j ys (del Ha D) →
      ∀ (QY : V → Hp → Prop) (QN : Hp → Prop),
        (∀ y H5, Ext Ha H5 → P i (j + 1) (ys ++ [y]) (del H5 D) → QY y H5) →
        (∀ H5, Ext Ha H5 → P i (j + 1) ys (del H5 D) → QN H5) →
        g1 y (wipe σ2 vs1) Hb fun σ3 H5 => wipe σ3 vs1 = wipe σ2 vs1 ∧ tt1 σ3 H5 fun b H6 => if b = true then te σ3 H6 QY else QN H6
/-- a comprehension of two clauses (a test in the second one alone): P holds of both turns, the list so far, and all that stands but the list -/
theorem lc2_acc {J : It} {n : Nat} {G : Hp → Prop} {Y : Nat → Hp → V → Hp → Prop} (w : Walk J n G Y) {g : TG} {wi1 : TI} {g1 : TG} {tt1 : TT} {te : TE} {vs vs1 : List Nat} {σ : L2.St} {H1 : Hp} {D : Addr} {Qd : Hp → Prop}
    (P : Nat → Nat → List V → Hp → Prop) (up : ∀ i j xs H H', Ext H H' → P i j xs H → P i j xs H') (h0 : P 0 0 [] H1) (hD : H1 D = none)
    (hlen : ∀ i j xs H, P i j xs H → xs.length < sizeLine) (hG : ∀ H, Ext H1 H → G H)
    (hs : ∀ i x H H' xs, i < n → Ext H1 H → H D = some (.lst xs) → Y i H x H' → P i 0 xs (del H D) →
      ∀ R : L2.St → It → Hp → Prop, (∀ σ2 J1 H4, Inner P D H g1 tt1 te vs1 i σ2 J1 H4 → R σ2 J1 H4) →
      g x (wipe σ vs) H' fun σ2 H2 => wipe σ2 vs = wipe σ vs ∧ wi1 σ2 H2 (R σ2))
    (hd : ∀ H xs, Ext H1 H → H D = some (.lst xs) → P n 0 xs H → Qd H) :
    ∃ W : Nat → Nat → Hp → Prop, (∃ m, W 0 m (upd H1 D (.lst []))) ∧ ∀ i m H, W i m H →
      (J.stop i H ∧ Qd H) ∨ (J.go i H ∧ ∃ Nx : Hp → Prop, (∀ H', Nx H' → ∃ m', m' < m ∧ W (i + 1) m' H') ∧ ∀ x H', J.yld i H x H' → g x (wipe σ vs) H' fun σ2 H2 => wipe σ2 vs = wipe σ vs ∧ tYes σ2 H2 fun b H3 =>
        if b = true then wi1 σ2 H3 fun J1 H4 => ∃ W1 : Nat → Nat → Hp → Prop, (∃ m, W1 0 m H4) ∧ ∀ j k H, W1 j k H →
          (J1.stop j H ∧ Nx H) ∨ (J1.go j H ∧ ∃ Nx1 : Hp → Prop, (∀ H', Nx1 H' → ∃ k', k' < k ∧ W1 (j + 1) k' H') ∧ ∀ x H', J1.yld j H x H' → g1 x (wipe σ2 vs1) H' fun σ3 H5 => wipe σ3 vs1 = wipe σ2 vs1 ∧ tt1 σ3 H5 fun b H6 =>
            if b = true then te σ3 H6 fun y H7 => ∃ acc, H7 D = some (.lst acc) ∧ acc.length < sizeLine ∧ Nx1 (upd H7 D (.lst (acc ++ [y]))) else Nx1 H6)
        else Nx H3) := by
  have e1 : Ext H1 (upd H1 D (.lst [])) := Ext.new hD
  let Pv : Nat → Hp → Prop := fun i H => ∃ xs, Ext H1 H ∧ H D = some (.lst xs) ∧ P i 0 xs (del H D)
  refine ⟨fun i m H => m = n - i ∧ i ≤ n ∧ Pv i H, ⟨n, by simp, Nat.zero_le _, [], e1, upd_same, up 0 0 [] _ _ (ext_to e1 hD) h0⟩, ?_⟩
  rintro i m H ⟨rfl, hi, xs, e, hx, hp⟩
  have q := hG H e
  by_cases hlt : i < n
  · refine .inr ⟨w.goes i H hlt q, Pv (i + 1), fun H' p' => ⟨n - (i + 1), by omega, rfl, hlt, p'⟩, fun x H' y => ?_⟩
    refine hs i x H H' xs hlt e hx (w.yields i H x H' hlt q y) hp (fun σ2 J1 H4 => ∃ W1 : Nat → Nat → Hp → Prop, (∃ m, W1 0 m H4) ∧ ∀ j k H, W1 j k H →
          (J1.stop j H ∧ Pv (i + 1) H) ∨ (J1.go j H ∧ ∃ Nx1 : Hp → Prop, (∀ H', Nx1 H' → ∃ k', k' < k ∧ W1 (j + 1) k' H') ∧ ∀ x H', J1.yld j H x H' → g1 x (wipe σ2 vs1) H' fun σ3 H5 => wipe σ3 vs1 = wipe σ2 vs1 ∧ tt1 σ3 H5 fun b H6 =>
            if b = true then te σ3 H6 fun y H7 => ∃ acc, H7 D = some (.lst acc) ∧ acc.length < sizeLine ∧ Nx1 (upd H7 D (.lst (acc ++ [y]))) else Nx1 H6)) ?_
    rintro σ2 J1 H4 ⟨e4, n1, G1, Y1, w1, hG1, hend, hst⟩
    have e14 : Ext H1 (del H4 D) := ext_to (e.trans e4) hD
    let Pj : Nat → Hp → Prop := fun j Ha => ∃ ys, Ext (del H4 D) (del Ha D) ∧ Ha D = some (.lst ys) ∧ P i j ys (del Ha D)
    refine ⟨fun j k Ha => k = n1 - j ∧ j ≤ n1 ∧ Pj j Ha, ⟨n1, by simp, Nat.zero_le _, xs, Ext.refl _, e4 _ _ hx, up _ _ _ _ _ (ext_del e4) hp⟩, ?_⟩
    rintro j k Ha ⟨rfl, hj, ys, ea, hy, hpj⟩
    have ea2 : Ext (del H4 D) Ha := ea.trans del_ext
    have q1 := hG1 Ha ea2
    by_cases hl1 : j < n1
    · refine .inr ⟨w1.goes j Ha hl1 q1, Pj (j + 1), fun H' p' => ⟨n1 - (j + 1), by omega, rfl, hl1, p'⟩, fun x1 Hb y1 => ?_⟩
      refine hst j x1 Ha Hb ys hl1 ea2 hy (w1.yields j Ha x1 Hb hl1 q1 y1) hpj _ _ ?_ ?_
      · intro v H5 e5 k
        exact ⟨ys, e5 _ _ hy, hlen _ _ _ _ hpj, ys ++ [v], by rw [del_upd]; exact ea.trans (ext_del e5), upd_same, by rw [del_upd]; exact k⟩
      · intro H5 e5 k
        exact ⟨ys, ea.trans (ext_del e5), e5 _ _ hy, k⟩
    · have ej : j = n1 := by omega
      subst ej
      exact .inl ⟨w1.stops Ha q1, ys, e14.trans ea2, hy, hend _ _ hpj⟩
  · have ei : i = n := by omega
    subst ei
    exact .inl ⟨w.stops H q, hd H xs e hx (up _ _ _ _ _ del_ext hp)⟩
/-- of one clause, in the same words -/
theorem lc1_acc {J : It} {n : Nat} {G : Hp → Prop} {Y : Nat → Hp → V → Hp → Prop} (w : Walk J n G Y) {g : TG} {tt : TT} {te : TE} {vs : List Nat} {σ : L2.St} {H1 : Hp} {D : Addr} {Qd : Hp → Prop}
    (P : Nat → List V → Hp → Prop) (up : ∀ i xs H H', Ext H H' → P i xs H → P i xs H') (h0 : P 0 [] H1) (hD : H1 D = none)
    (hlen : ∀ i xs H, P i xs H → xs.length < sizeLine) (hG : ∀ H, Ext H1 H → G H)
    (hs : ∀ i x H H' xs, i < n → Ext H1 H → H D = some (.lst xs) → Y i H x H' → P i xs (del H D) →
      ∀ (QY : V → Hp → Prop) (QN : Hp → Prop),
        (∀ y H4, Ext H H4 → P (i + 1) (xs ++ [y]) (del H4 D) → QY y H4) →
        (∀ H4, Ext H H4 → P (i + 1) xs (del H4 D) → QN H4) →
        g x (wipe σ vs) H' fun σ2 H2 => wipe σ2 vs = wipe σ vs ∧ tt σ2 H2 fun b H3 => if b = true then te σ2 H3 QY else QN H3)
    (hd : ∀ H xs, Ext H1 H → H D = some (.lst xs) → P n xs H → Qd H) :
    ∃ W : Nat → Nat → Hp → Prop, (∃ m, W 0 m (upd H1 D (.lst []))) ∧ ∀ i m H, W i m H →
      (J.stop i H ∧ Qd H) ∨ (J.go i H ∧ ∃ Nx : Hp → Prop, (∀ H', Nx H' → ∃ m', m' < m ∧ W (i + 1) m' H') ∧ ∀ x H', J.yld i H x H' → g x (wipe σ vs) H' fun σ2 H2 => wipe σ2 vs = wipe σ vs ∧ tt σ2 H2 fun b H3 =>
        if b = true then te σ2 H3 fun y H4 => ∃ acc, H4 D = some (.lst acc) ∧ acc.length < sizeLine ∧ Nx (upd H4 D (.lst (acc ++ [y]))) else Nx H3) := by
  have e1 : Ext H1 (upd H1 D (.lst [])) := Ext.new hD
  refine lc_it w (fun i H => ∃ xs, Ext H1 H ∧ H D = some (.lst xs) ∧ P i xs (del H D)) ⟨[], e1, upd_same, up 0 [] _ _ (ext_to e1 hD) h0⟩ (by rintro i H _ ⟨xs, e, _⟩; exact hG H e) ?_ ?_
  · rintro i x H H' hi ⟨xs, e, hx, hp⟩ y
    refine hs i x H H' xs hi e hx y hp _ _ ?_ ?_
    · intro v H4 e4 k
      exact ⟨xs, e4 _ _ hx, hlen _ _ _ hp, xs ++ [v], Ext.mut (e.trans e4) hD, upd_same, by rw [del_upd]; exact k⟩
    · intro H4 e4 k
      exact ⟨xs, e.trans e4, e4 _ _ hx, k⟩
  · rintro H ⟨xs, e, hx, hp⟩
    exact hd H xs e hx (up _ _ _ _ del_ext hp)
end Ol

set_option Elab.async false
set_option linter.all false
set_option maxRecDepth 100000
set_option maxHeartbeats 4000000
namespace Ol
open PySem PySem.Spec PyProof.Rows L2

theorem lt_anti : ∀ a b : List Nat, ltCps a b = false → ltCps b a = false → a = b
  | [], [], _, _ => rfl
  | [], _ :: _, h, _ => by cases h
  | _ :: _, [], _, h => by cases h
  | a :: r, b :: t, h1, h2 => by
    unfold ltCps at h1 h2
    simp only [Bool.or_eq_false_iff, decide_eq_false_iff_not, Bool.and_eq_false_iff, beq_eq_false_iff_ne] at h1 h2
    have e : a = b := by omega
    subst e
    have r1 : ltCps r t = false := h1.2.resolve_left (fun z => z rfl)
    have r2 : ltCps t r = false := h2.2.resolve_left (fun z => z rfl)
    rw [lt_anti r t r1 r2]
theorem lt_trans : ∀ x y z : List Nat, ltCps y x = false → ltCps z y = false → ltCps z x = false
  | [], _, [], _, _ => rfl
  | [], _, _ :: _, _, _ => rfl
  | _ :: _, [], _, h, _ => by cases h
  | _ :: _, _ :: _, [], _, h => by cases h
  | c :: r, b :: t, d :: u, h1, h2 => by
    unfold ltCps at h1 h2 ⊢
    simp only [Bool.or_eq_false_iff, decide_eq_false_iff_not, Bool.and_eq_false_iff, beq_eq_false_iff_ne] at h1 h2 ⊢
    refine ⟨by omega, ?_⟩
    by_cases e : d = c
    · right
      have e1 : b = c := by omega
      have e2 : d = b := by omega
      exact lt_trans r t u (h1.2.resolve_left (fun z => z e1)) (h2.2.resolve_left (fun z => z e2))
    · exact .inl e
theorem rising_pw : ∀ (p : Str) (l : List Str), risingS p l = true → (p :: l).Pairwise (fun a b => ltCps b.cps.toList a.cps.toList = false)
  | p, [], _ => by simp
  | p, x :: r, h => by
    unfold risingS at h
    rw [Bool.and_eq_true, Bool.not_eq_true'] at h
    have ih := rising_pw x r h.2
    refine List.pairwise_cons.mpr ⟨fun y hy => ?_, ih⟩
    rcases List.mem_cons.mp hy with rfl | hy
    · exact h.1
    · exact lt_trans _ _ _ h.1 (List.rel_of_pairwise_cons ih hy)
theorem sorted_pw : ∀ l : List Str, sortedS l = true → l.Pairwise (fun a b => ltCps b.cps.toList a.cps.toList = false)
  | [], _ => .nil
  | x :: r, h => rising_pw x r h
theorem sorted_one {xs ys : List Str} (h1 : sortedS xs = true) (h2 : sortedS ys = true) (hp : xs.Perm ys) : xs = ys :=
  List.Perm.eq_of_pairwise (fun a b _ _ q1 q2 => by
    have e : a.cps.toList = b.cps.toList := lt_anti _ _ q2 q1
    cases a with | mk a => cases b with | mk b => have e2 : a = b := Array.toList_inj.mp e; rw [e2]) (sorted_pw _ h1) (sorted_pw _ h2) hp

/-! ### data without dicts -/
mutual
inductive Nd : PyData → Prop
  | non : Nd .none
  | bl (b : Bool) : Nd (.bool b)
  | int (i : Int) : Nd (.int i)
  | str (x : Str) : Nd (.str x)
  | lst {ds : List PyData} : NdAll ds → Nd (.list ds)
  | tup {ds : List PyData} : NdAll ds → Nd (.tuple ds)
inductive NdAll : List PyData → Prop
  | nil : NdAll []
  | cons {d : PyData} {ds : List PyData} : Nd d → NdAll ds → NdAll (d :: ds)
end
theorem NdAll.of : ∀ {ds : List PyData}, (∀ d ∈ ds, Nd d) → NdAll ds
  | [], _ => .nil
  | d :: ds, h => .cons (h d List.mem_cons_self) (NdAll.of fun e he => h e (List.mem_cons_of_mem _ he))
mutual
theorem Dq.off {H : Hp} {p : Addr} {kv : List (Key × V)} (hp : H p = some (.dK kv)) : ∀ {v : V} {d : PyData}, Dq H v d → Nd d → Dq (del H p) v d
  | _, _, .non, _ => .non
  | _, _, .bl b, _ => .bl b
  | _, _, .int i, _ => .int i
  | _, _, .str x, _ => .str x
  | _, _, .lst h t, n => .lst (by rw [del_ne (fun z => by rw [z, hp] at h; cases h)]; exact h) (DqAll.off hp t (by cases n; assumption))
  | _, _, .tup h t, n => .tup (by rw [del_ne (fun z => by rw [z, hp] at h; cases h)]; exact h) (DqAll.off hp t (by cases n; assumption))
  | _, _, .dct h t, n => by cases n
theorem DqAll.off {H : Hp} {p : Addr} {kv : List (Key × V)} (hp : H p = some (.dK kv)) : ∀ {vs : List V} {ds : List PyData}, DqAll H vs ds → NdAll ds → DqAll (del H p) vs ds
  | _, _, .nil, _ => .nil
  | _, _, .cons h t, n => .cons (Dq.off hp h (by cases n; assumption)) (DqAll.off hp t (by cases n; assumption))
end
end Ol

set_option Elab.async false
set_option linter.all false
set_option maxRecDepth 100000
set_option maxHeartbeats 4000000
namespace Ol
open PySem PySem.Spec PyProof.Rows L2
/-- data not in a list of data -/
def rNotInQ : R2 := fun x y H Q => ∃ d ds, Sys H ∧ Dq H x d ∧ Dq H y (.list ds) ∧ SeqAt.shaped d = true ∧ SeqAt.shaped (.list ds) = true ∧ Q (.bl (!ds.any fun z => PyData.eqv z d)) H
theorem op_notInQ {X : Cx} (hu : X.A.units + 65 < cLine) : OpR X (compareOp .NotIn) rNotInQ := by
  intro pins s σ H x y v u Q I rx ry h
  obtain ⟨d, ds, S, hd, he, sd, se, q⟩ := h
  obtain ⟨as, r1, _⟩ := Dq.reads I S hd rx
  obtain ⟨bs, r2, _⟩ := Dq.reads I S he ry
  exact SeqAt.notIn_list_reads r2 r1 (SeqAt.canLay_of_shaped se) (SeqAt.canLay_of_shaped sd) (room_in_shaped sd hu) ⟨.bl _, H, I, rfl, q⟩
end Ol

set_option Elab.async false
set_option linter.all false
set_option maxRecDepth 100000
set_option maxHeartbeats 4000000
namespace Ol
open PySem PySem.Spec PyProof.Rows L2
/-- a class catches its own errors -/
theorem exm_same {K : PySem.W.Frag} {S : Addr} (q1 : PySem.W.subIn K (.ref S) (.type "BaseException") = some true) (q2 : PySem.W.isClsIn K S = true)
    (q3 : PySem.W.typeIn K (.ref S) = some (.type "type")) (q4 : PySem.W.subIn K (.ref S) (.ref S) = some true) : PySem.W.exmOne K (.ref S) (.ref S) = some true := by
  have q5 : (PySem.W.clsIn K S).isSome = true := q2
  unfold PySem.W.exmOne
  simp [PySem.W.kitCls, q1, q3, q4, q5]
end Ol

set_option Elab.async false
set_option linter.all false
set_option maxRecDepth 100000
set_option maxHeartbeats 4000000
namespace K17
open PySem PySem.Spec PyProof.Rows L2 Ol
open TL (tl)
def topS (i : Nat) : Stmt := PySem.Challenge.pw_openlanes_k17_whole_lanes_in_use.main.body.getD i (.Pass ⟨0, 0, 0, 0⟩)
section
variable {P : Program} {w : World} {K : PySem.W.Frag} {mg : Str → Option Value} {base : Heap}
def isBoundD : PyData → Bool
  | .int i => decide (1 ≤ i)
  | _ => false
abbrev s_is_bound : Stmt := (topS 17)
theorem sc_is_bound : FnScope ["thing"] ["thing"] (defScope s_is_bound) := ⟨rfl, rfl, rfl, by decide +kernel, rfl, by decide +kernel, by decide +kernel⟩
theorem ok_is_bound {f : Addr} {fd : FuncData} (F : Fun K "is_bound" "is_bound" s_is_bound f fd) (C1 : Ca P w K mg base 1 "is_integer" ["thing"] (spPred Any isIntD)) :
    FnOk P w K mg base CX0 2 f fd ["thing"] (spPred Any isBoundD) := by
  refine F.ok sc_is_bound (fun vs H Q E h => ?_) (fun cdv A outer s H vs Q E hr h => ?_)
  · obtain ⟨v, d, rfl, _⟩ := h
    rfl
  · obtain ⟨v, d, rfl, hd, hz, q⟩ := h
    refine ⟨_, (pss_one (ps_ret (pe_and (pe_ca C1 (hr.mono (by decide)) (by rfl) (pa_cons (pv 0) pa_nil)) (pe_one (pe_cmpR op_ge (pv 0) pe_int (nomark _)))))), ?_⟩
    refine ⟨_, rfl, v, d, rfl, hd, trivial, fun H1 e1 => ⟨_, rfl, ?_⟩⟩
    refine ite2 (fun h => ?_) (fun h => ?_)
    · obtain ⟨i, rfl, rfl⟩ := dq_int hd h
      refine ⟨_, rfl, _, _, rfl, rfl, ?_⟩
      exact q H1 e1
    · have e : isBoundD d = false := by
        cases d with
        | int i => exact absurd rfl h
        | _ => rfl
      have q' := q H1 e1
      rw [e] at q'
      exact q'
/-- names with whole numbers, as a dict holds them -/
def kvI (ps : List (Str × Int)) : List (Key × V) := ps.map fun p => (.inr p.1, .int p.2)
def spIsBounds : Sp := fun vs H Q _ => ∃ (a : Addr) (ps : List (Str × Int)), vs = [.ref a] ∧ H a = some (.dK (kvI ps)) ∧ ps ≠ [] ∧ ps.length ≤ 1000 ∧
  (∀ p ∈ ps, isNameS p.1 = true ∧ 1 ≤ p.2) ∧ ∀ H', Ext H H' → Q (.bl true) H'
abbrev s_is_bounds : Stmt := (topS 18)
theorem sc_is_bounds : FnScope ["thing", "name", "bound"] ["thing"] (defScope s_is_bounds) := ⟨rfl, rfl, rfl, by decide +kernel, rfl, by decide +kernel, by decide +kernel⟩
theorem ok_is_bounds {f : Addr} {fd : FuncData} (F : Fun K "is_bounds" "is_bounds" s_is_bounds f fd) (T : BT mg)
    (C3 : Ca P w K mg base 1 "is_name" ["thing"] (spPred Ok1 isNameD)) (C4 : Ca P w K mg base 2 "is_bound" ["thing"] (spPred Any isBoundD)) :
    FnOk P w K mg base CX0 3 f fd ["thing"] spIsBounds := by
  refine F.ok sc_is_bounds (fun vs H Q E h => ?_) (fun cdv A outer s H vs Q E hr h => ?_)
  · obtain ⟨a, ps, rfl, _⟩ := h
    rfl
  · obtain ⟨a, ps, rfl, ha, hne, hl, hps, q⟩ := h
    refine ⟨_, (pss_cons (ps_if (PW.pt (pw_or (pt_not (pt_val (pe_callB call_isi (by rfl) T.n_isinstance (by decide +kernel) (pa_cons (pv 0) (pa_cons (pe_bltn (v := .ty "dict") (by rfl) T.n_dict (by decide +kernel) rfl) pa_nil))))) (pw_or1 (pt_cmpR op_eq (pe_callB call_lenD (by rfl) T.n_len (by decide +kernel) (pa_cons (pv 0) pa_nil)) pe_int (nomark _)))))
      (pss_one (ps_ret pe_bl))
      pss_nil)
    (pss_one (ps_ret (pe_callB (cr_all rfl) (by rfl) T.n_all (by decide +kernel) (pa_cons (pe_lock (pe_lc (own := [("name", 1), ("bound", 2)]) (g := gTup K 2 (gCons (gName 1) (gCons (gName 2) gNil))) (tt := tYes) rfl sc_is_bounds.nd (pi_items (pv 0)) (blkOk_by (N := ["thing", "name", "bound"]) (sc := defScope s_is_bounds) (by decide +kernel)) (fun _ _ _ _ _ => (pg_tup (by rfl) (pgs_cons (pg_name (i := 1) sc_is_bounds.nd rfl (.inl rfl)) (pgs_cons (pg_name (i := 2) sc_is_bounds.nd rfl (.inl rfl)) pgs_nil)))) (fun _ _ _ _ _ => pts_nil) (fun _ _ _ _ _ => (pe_and (pe_ca C3 (hr.mono (by decide)) (by rfl) (pa_cons (pv 1) pa_nil)) (pe_one (pe_ca C4 (hr.mono (by decide)) (by rfl) (pa_cons (pv 2) pa_nil))))))) pa_nil))))), ?_⟩
    refine ⟨_, rfl, _, _, _, _, _, rfl, .ty "dict", .base (.dK ha), ki_dict (.dict []), _, rfl, ?_⟩
    refine iteF ?_
    refine ⟨_, rfl, a, _, rfl, ha, rfl, _, rfl, ?_⟩
    have hlen : (kvI ps).length = ps.length := by unfold kvI; rw [List.length_map]
    refine ite2 (fun g => ?_) (fun _ => ?_)
    · have z := of_decide_eq_true g
      injection z with z
      rw [hlen] at z
      cases ps with
      | nil => exact absurd rfl hne
      | cons p ps => simp at z; omega
    refine ⟨a, _, ha, trivial, fun od => ⟨_, rfl, a, od, _, rfl, upd_same, fun D hD => ?_⟩⟩
    have nD : D ≠ a := fun z => by rw [z, upd_same] at hD; cases hD
    refine lc_acc walk_items (fun i xs _ => xs = List.replicate i (V.bl true)) (fun _ _ _ _ _ h => h) rfl hD (fun i xs _ h => by rw [h, List.length_replicate]; exact Nat.le_refl _) (by rw [hlen]; exact Nat.le_trans hl (by decide)) (fun H' e => e _ _ upd_same) ?_ ?_
    · rintro i x H1 H2 xs hi e1 ⟨T', y1, y2, rfl, hT, rfl, g1, g2⟩ hp QY QN kY kN
      have hi' : i < ps.length := by rw [← hlen]; exact hi
      have hk : (kvI ps)[i]? = some (.inr ps[i].1, .int ps[i].2) := by
        unfold kvI
        rw [List.getElem?_map, List.getElem?_eq_getElem hi']
        rfl
      have k1 : y1 = .str ps[i].1 := by
        have z := g1
        dsimp only at z
        rw [hk] at z
        exact (Option.some.inj z).symm
      have k2 : y2 = .int ps[i].2 := by
        have z := g2
        dsimp only at z
        rw [hk] at z
        exact (Option.some.inj z).symm
      subst k1
      subst k2
      obtain ⟨b1, b2⟩ := hps _ (List.getElem_mem hi')
      have eT := Ext.new (o := .tup [.str ps[i].1, .int ps[i].2]) hT
      refine ⟨T', _, rfl, SqT.of upd_same, rfl, _, _, rfl, _, _, rfl, rfl, rfl, ?_⟩
      refine tyes ?_
      refine ⟨_, rfl, _, _, rfl, .str _, (fun x hx => by cases hx; exact name_tx b1), fun H3 e3 => ⟨_, rfl, ?_⟩⟩
      rw [if_pos (show isNameD (.str ps[i].1) = true from b1)]
      refine ⟨_, rfl, _, _, rfl, .int _, trivial, fun H4 e4 => ?_⟩
      rw [show isBoundD (.int ps[i].2) = true from decide_eq_true b2]
      refine kY _ H4 ((eT.trans e3).trans e4) fun Hz _ hh => ?_
      rw [hh, List.replicate_succ']
    · rintro H1 xs e1 hx hp
      subst hp
      refine ⟨e1 _ _ upd_same, D, List.replicate (kvI ps).length true, rfl, SqL.of ?_, ?_⟩
      · rw [upd_ne nD, hx, List.map_replicate]
      · have e2 : Ext H (upd H1 a (.dK (kvI ps))) := fun b o z => by
          by_cases c : b = a
          · rw [c] at z ⊢
            rw [upd_same, ← ha, z]
          · rw [upd_ne c]
            exact e1 _ _ (by rw [upd_ne c]; exact z)
        have ea : (List.replicate (kvI ps).length true).all id = true := by simp
        rw [ea]
        exact q _ e2
end
end K17

set_option Elab.async false
set_option linter.all false
set_option maxRecDepth 100000
set_option maxHeartbeats 4000000
namespace K17
open PySem PySem.Spec PyProof.Rows L2 Ol
open TL (tl)
section
variable {P : Program} {w : World} {K : PySem.W.Frag} {mg : Str → Option Value} {base : Heap}
/-- the state of a lane, as data -/
def stD (c : Nat) (b : Bool) : PyData := .tuple [.int (c : Int), .bool b]
def optD : Option (Nat × Bool) → PyData
  | none => .none
  | some s => stD s.1 s.2
theorem st_inv {H : Hp} {v : V} {c : Nat} {b : Bool} (h : Dq H v (stD c b)) : ∃ a, v = .ref a ∧ H a = some (.tup [.int (c : Int), .bl b]) := by
  generalize e : stD c b = d at h
  cases h with
  | tup h t =>
    unfold stD at e
    cases e
    cases t with
    | cons t1 t2 =>
      cases t1
      cases t2 with
      | cons t3 t4 =>
        cases t3
        cases t4
        exact ⟨_, rfl, h⟩
  | _ => cases e
theorem st_new {H : Hp} {p : Addr} {c : Nat} {b : Bool} : Dq (upd H p (.tup [.int (c : Int), .bl b])) (.ref p) (stD c b) :=
  .tup upd_same (.cons (.int _) (.cons (.bl _) .nil))
def beh4 (word : Str) (c : Nat) (b : Bool) : Option (Nat × Bool) := if word = "close" ∧ b = false then some (c, true) else none
def beh3 (word : Str) (c : Nat) (b : Bool) : Option (Nat × Bool) := if word = "ended" ∧ b = true ∧ c = 0 then some (c, b) else beh4 word c b
def beh2 (word : Str) (c : Nat) (b : Bool) : Option (Nat × Bool) := if word = "take" ∧ 0 < c then some (c - 1, b) else beh3 word c b
/-- the state that an arm leaves -/
def beh (word : Str) (c : Nat) (b : Bool) (bd : Int) : Option (Nat × Bool) := if word = "send" ∧ b = false ∧ (c : Int) < bd then some (c + 1, false) else beh2 word c b
def spBehind : Sp := fun vs H Q _ => ∃ (word : Str) (v : V) (c : Nat) (b : Bool) (bd : Int), vs = [.str word, v, .int bd] ∧ Dq H v (stD c b) ∧
  ∀ (r : V) (H' : Hp), Ext H H' → Dq H' r (optD (beh word c b bd)) → Q r H'
theorem dec_word {a b : Str} : decide (V.str a = V.str b) = true ↔ a = b := by
  rw [decide_eq_true_eq]
  exact ⟨fun h => by injection h, fun h => by rw [h]⟩
abbrev s_state_behind : Stmt := (topS 14)
theorem sc_state_behind : FnScope ["word", "state", "bound", "count", "closed"] ["word", "state", "bound"] (defScope s_state_behind) := ⟨rfl, rfl, rfl, by decide +kernel, rfl, by decide +kernel, by decide +kernel⟩
theorem ok_state_behind {f : Addr} {fd : FuncData} (F : Fun K "state_behind" "state_behind" s_state_behind f fd) :
    FnOk P w K mg base CX0 1 f fd ["word", "state", "bound"] spBehind := by
  refine F.ok sc_state_behind (fun vs H Q E h => ?_) (fun cdv A outer s H vs Q E hr h => ?_)
  · obtain ⟨word, v, c, b, bd, rfl, _⟩ := h
    rfl
  · obtain ⟨word, v, c, b, bd, rfl, hv, q⟩ := h
    obtain ⟨a, rfl, ha⟩ := st_inv hv
    refine cutB (fun σ H' => σ = [some (.str word), some (.ref a), some (.int bd), some (.int (c : Int)), some (.bl b)] ∧ H' = H) ?_ ⟨_, (ps_asg (pv 1) (pg_tup (by rfl) (pgs_cons (pg_name (i := 3) sc_state_behind.nd rfl (.inl rfl)) (pgs_cons (pg_name (i := 4) sc_state_behind.nd rfl (.inl rfl)) pgs_nil)))), fun nx hn => ?_⟩
    rotate_left
    · exact ⟨_, rfl, a, _, rfl, SqT.of ha, rfl, _, _, rfl, _, _, rfl, rfl, hn _ _ ⟨rfl, rfl⟩⟩
    refine cutW _ (fun σ H' => σ = [some (.str word), some (.ref a), some (.int bd), some (.int (c : Int)), some (.bl b)] ∧ H' = H ∧ beh word c b bd = beh2 word c b) ⟨_, (ps_if (PW.pt (pw_and (pt_cmpR op_eq (pv 0) pe_str (nomark _)) (pw_and (pt_not (pt_val (pv 4))) (pw_and1 (pt_cmpR op_lt (pv 3) (pv 2) (nomark _))))))
      (pss_one (ps_ret (pe_tup (pa_cons (pe_op op_add (pv 3) pe_int) (pa_cons pe_bl pa_nil)))))
      pss_nil), ?_⟩ ?_
    · rintro nx hn σ H' ⟨rfl, rfl⟩
      refine ⟨_, rfl, rfl, _, rfl, ?_⟩
      refine ite2 (fun g0 => ?_) (fun g0 => ?_)
      · have g0' := dec_word.mp g0
        refine ⟨_, rfl, _, rfl, ?_⟩
        refine ite2 (fun g1 => ?_) (fun g1 => ?_)
        · have g1' : b = false := by cases b with | true => cases g1 | false => rfl
          refine ⟨_, rfl, _, rfl, _, _, rfl, rfl, _, rfl, ?_⟩
          refine ite2 (fun g2 => ?_) (fun g2 => ?_)
          · have g2' := of_decide_eq_true g2
            refine ⟨_, rfl, _, _, rfl, rfl, by show 2 ≤ sizeLine; decide, fun p hp => ?_⟩
            refine q _ _ (Ext.new hp) ?_
            unfold beh
            rw [if_pos ⟨g0', g1', g2'⟩]
            have e : ((c : Int) + 1) = ((c + 1 : Nat) : Int) := by omega
            show Dq (upd H' p (.tup [.int ((c : Int) + 1), .bl false])) _ _
            rw [e]
            exact st_new
          · exact hn _ _ ⟨rfl, rfl, by unfold beh; rw [if_neg (fun z => g2 (decide_eq_true z.2.2))]⟩
        · refine iteF ?_
          refine hn _ _ ⟨rfl, rfl, ?_⟩
          unfold beh
          rw [if_neg (fun z => g1 (by rw [z.2.1]; rfl))]
      · refine iteF ?_
        refine hn _ _ ⟨rfl, rfl, ?_⟩
        unfold beh
        rw [if_neg (fun z => g0 (dec_word.mpr z.1))]
    refine cutW _ (fun σ H' => σ = [some (.str word), some (.ref a), some (.int bd), some (.int (c : Int)), some (.bl b)] ∧ H' = H ∧ beh word c b bd = beh3 word c b) ⟨_, (ps_if (PW.pt (pw_and (pt_cmpR op_eq (pv 0) pe_str (nomark _)) (pw_and1 (pt_cmpR op_gt (pv 3) pe_int (nomark _)))))
      (pss_one (ps_ret (pe_tup (pa_cons (pe_op op_sub (pv 3) pe_int) (pa_cons (pv 4) pa_nil)))))
      pss_nil), ?_⟩ ?_
    · rintro nx hn σ H' ⟨rfl, rfl, eb⟩
      refine ⟨_, rfl, rfl, _, rfl, ?_⟩
      refine ite2 (fun g0 => ?_) (fun g0 => ?_)
      · have g0' := dec_word.mp g0
        refine ⟨_, rfl, _, _, rfl, rfl, _, rfl, ?_⟩
        refine ite2 (fun g2 => ?_) (fun g2 => ?_)
        · have g2' : (0 : Int) < c := of_decide_eq_true g2
          refine ⟨_, rfl, _, _, rfl, rfl, _, rfl, by show 2 ≤ sizeLine; decide, fun p hp => ?_⟩
          refine q _ _ (Ext.new hp) ?_
          rw [eb]
          unfold beh2
          rw [if_pos ⟨g0', by omega⟩]
          have e : ((c : Int) - 1) = ((c - 1 : Nat) : Int) := by omega
          show Dq (upd H' p (.tup [.int ((c : Int) - 1), .bl b])) _ _
          rw [e]
          exact st_new
        · refine hn _ _ ⟨rfl, rfl, ?_⟩
          rw [eb]
          unfold beh2
          rw [if_neg (fun z => g2 (decide_eq_true (by have := z.2; omega)))]
      · refine iteF ?_
        refine hn _ _ ⟨rfl, rfl, ?_⟩
        rw [eb]
        unfold beh2
        rw [if_neg (fun z => g0 (dec_word.mpr z.1))]
    refine cutW _ (fun σ H' => σ = [some (.str word), some (.ref a), some (.int bd), some (.int (c : Int)), some (.bl b)] ∧ H' = H ∧ beh word c b bd = beh4 word c b) ⟨_, (ps_if (PW.pt (pw_and (pt_cmpR op_eq (pv 0) pe_str (nomark _)) (pw_and (pt_val (pv 4)) (pw_and1 (pt_cmpR op_eq (pv 3) pe_int (nomark _))))))
      (pss_one (ps_ret (pv 1)))
      pss_nil), ?_⟩ ?_
    · rintro nx hn σ H' ⟨rfl, rfl, eb⟩
      refine ⟨_, rfl, rfl, _, rfl, ?_⟩
      refine ite2 (fun g0 => ?_) (fun g0 => ?_)
      · have g0' := dec_word.mp g0
        refine ⟨_, rfl, _, rfl, ?_⟩
        refine ite2 (fun g1 => ?_) (fun g1 => ?_)
        · refine ⟨_, rfl, rfl, _, rfl, ?_⟩
          refine ite2 (fun g2 => ?_) (fun g2 => ?_)
          · have g2' : c = 0 := by
              have z := of_decide_eq_true g2
              injection z with z
              omega
            refine ⟨_, rfl, q _ _ (Ext.refl _) ?_⟩
            rw [eb]
            unfold beh3
            rw [if_pos ⟨g0', g1, g2'⟩]
            exact hv
          · refine hn _ _ ⟨rfl, rfl, ?_⟩
            rw [eb]
            unfold beh3
            rw [if_neg (fun z => g2 (decide_eq_true (by rw [z.2.2]; rfl)))]
        · refine iteF ?_
          refine hn _ _ ⟨rfl, rfl, ?_⟩
          rw [eb]
          unfold beh3
          rw [if_neg (fun z => g1 z.2.1)]
      · refine iteF ?_
        refine hn _ _ ⟨rfl, rfl, ?_⟩
        rw [eb]
        unfold beh3
        rw [if_neg (fun z => g0 (dec_word.mpr z.1))]
    refine ⟨_, pss_cons (ps_if (PW.pt (pw_and (pt_cmpR op_eq (pv 0) pe_str (nomark _)) (pw_and1 (pt_not (pt_val (pv 4))))))
      (pss_one (ps_ret (pe_tup (pa_cons (pv 3) (pa_cons pe_bl pa_nil)))))
      pss_nil) (pss_one (ps_ret pe_non)), ?_⟩
    rintro σ H' ⟨rfl, rfl, eb⟩
    refine ⟨_, rfl, rfl, _, rfl, ?_⟩
    refine ite2 (fun g0 => ?_) (fun g0 => ?_)
    · have g0' := dec_word.mp g0
      refine ⟨_, rfl, _, rfl, ?_⟩
      refine ite2 (fun g1 => ?_) (fun g1 => ?_)
      · have g1' : b = false := by cases b with | true => cases g1 | false => rfl
        refine ⟨_, rfl, by show 2 ≤ sizeLine; decide, fun p hp => ?_⟩
        refine q _ _ (Ext.new hp) ?_
        rw [eb]
        unfold beh4
        rw [if_pos ⟨g0', g1'⟩]
        exact st_new
      · refine q _ _ (Ext.refl _) ?_
        rw [eb]
        unfold beh4
        rw [if_neg (fun z => g1 (by rw [z.2]; rfl))]
        exact .non
    · refine iteF ?_
      refine q _ _ (Ext.refl _) ?_
      rw [eb]
      unfold beh4
      rw [if_neg (fun z => g0 (dec_word.mpr z.1))]
      exact .non
end
end K17

set_option Elab.async false
set_option linter.all false
set_option maxRecDepth 100000
set_option maxHeartbeats 4000000
namespace K17
open PySem PySem.Spec PyProof.Rows L2 Ol
open TL (tl)
section
variable {P : Program} {w : World} {K : PySem.W.Frag} {mg : Str → Option Value} {base : Heap}
def spReplaced : Sp := fun vs H Q _ => ∃ (a : Addr) (xs : List V) (n : Nat) (v : V), vs = [.ref a, .int n, v] ∧ H a = some (.tup xs) ∧ n < xs.length ∧ xs.length ≤ 1000 ∧
  ∀ p H', Ext H H' → H' p = some (.tup (xs.set n v)) → Q (.ref p) H'
abbrev s_replaced : Stmt := (topS 15)
theorem sc_replaced : FnScope ["row", "index", "item"] ["row", "index", "item"] (defScope s_replaced) := ⟨rfl, rfl, rfl, by decide +kernel, rfl, by decide +kernel, by decide +kernel⟩
theorem sl_any {K' : PySem.W.Frag} {H : Hp} {a : Addr} {xs : List V} {lo hi : Option Int} {Q : V → Hp → Prop} (h : H a = some (.tup xs))
    (k : ∀ p H', Ext H H' → H' p = some (.tup (cutV xs lo hi)) → Q (.ref p) H') : rSlA K' (.ref a) lo hi H Q := by
  refine ⟨a, xs, rfl, SqT.of h, fun z => k _ _ (Ext.refl _) ?_, fun _ p hp => k _ _ (Ext.new hp) upd_same⟩
  rw [h]
  unfold cutV
  rw [z.1, z.2]
  simp
theorem cat_any {K' : PySem.W.Frag} {H : Hp} {a b : Addr} {xs ys : List V} {Q : V → Hp → Prop} (h : H a = some (.tup xs)) (h2 : H b = some (.tup ys)) (hl : xs.length + ys.length ≤ sizeLine)
    (k : ∀ p H', Ext H H' → H' p = some (.tup (xs ++ ys)) → Q (.ref p) H') : rCatA K' (.ref a) (.ref b) H Q := by
  refine ⟨a, b, xs, ys, rfl, rfl, SqT.of h, SqT.of h2, hl, fun z => k _ _ (Ext.refl _) ?_, fun _ z => k _ _ (Ext.refl _) ?_, fun _ _ p hp => k _ _ (Ext.new hp) upd_same⟩
  · rw [h2, z]
    rfl
  · rw [h, z, List.append_nil]
theorem ok_replaced {f : Addr} {fd : FuncData} (F : Fun K "replaced" "replaced" s_replaced f fd) :
    FnOk P w K mg base CX0 1 f fd ["row", "index", "item"] spReplaced := by
  refine F.ok sc_replaced (fun vs H Q E h => ?_) (fun cdv A outer s H vs Q E hr h => ?_)
  · obtain ⟨a, xs, n, v, rfl, _⟩ := h
    rfl
  · obtain ⟨a, xs, n, v, rfl, ha, hn, hl, q⟩ := h
    refine ⟨_, (pss_one (ps_ret (pe_op op_catA (pe_op op_catA (pe_slice sl_tupA (pv 0) po_none (po_some (pv 1))) (pe_tup (pa_cons (pv 2) pa_nil))) (pe_slice sl_tupA (pv 0) (po_some (pe_op op_add (pv 1) pe_int)) po_none)))), ?_⟩
    refine ⟨_, rfl, _, rfl, _, rfl, sl_any ha fun p1 H1 e1 h1 => ?_⟩
    refine ⟨_, rfl, by show 1 ≤ sizeLine; decide, fun p2 hp2 => ?_⟩
    have e2 := Ext.new (o := .tup [v]) hp2
    have c1 : (cutV xs none (some (n : Int))) = xs.take n := by
      unfold cutV
      rw [HT.sIx_none, HT.sIx_nat, Nat.min_eq_left (Nat.le_of_lt hn)]
      simp
    rw [c1] at h1
    refine cat_any (e2 _ _ h1) upd_same (by rw [List.length_take]; exact Nat.le_trans (show _ ≤ 1000 + 1 by simp; omega) (by decide)) fun p3 H3 e3 h3 => ?_
    have e03 := (e1.trans e2).trans e3
    refine ⟨_, rfl, _, rfl, _, _, rfl, rfl, _, rfl, ?_⟩
    dsimp only [tNoPart]

    refine sl_any (e03 _ _ ha) fun p4 H4 e4 h4 => ?_
    have c2 : (cutV xs (some ((n : Int) + 1)) none) = xs.drop (n + 1) := by
      unfold cutV
      rw [HT.sIx_none, show ((n : Int) + 1) = ((n + 1 : Nat) : Int) by omega, HT.sIx_nat, Nat.min_eq_left hn]
      rw [List.take_of_length_le (by rw [List.length_drop]; omega)]
    rw [c2] at h4
    refine cat_any (e4 _ _ h3) h4 (by rw [List.length_append, List.length_take, List.length_drop]; exact Nat.le_trans (show _ ≤ 1000 + 1 + 1000 by simp; omega) (by decide)) fun p5 H5 e5 h5 => ?_
    refine q _ _ ((e03.trans e4).trans e5) ?_
    rw [h5, List.set_eq_take_append_cons_drop, if_pos hn, List.append_assoc]
    rfl
def isStD (bd : Int) : PyData → Bool
  | .tuple [.int i, .bool _] => decide (0 ≤ i) && decide (i ≤ bd)
  | _ => false
def spIsState : Sp := fun vs H Q _ => ∃ (v : V) (c : Nat) (b : Bool) (bd : Int), vs = [v, .int bd] ∧ Dq H v (stD c b) ∧ (c : Int) ≤ bd ∧ ∀ H', Ext H H' → Q (.bl true) H'
abbrev s_is_state : Stmt := (topS 19)
theorem sc_is_state : FnScope ["thing", "bound"] ["thing", "bound"] (defScope s_is_state) := ⟨rfl, rfl, rfl, by decide +kernel, rfl, by decide +kernel, by decide +kernel⟩
theorem ok_is_state {f : Addr} {fd : FuncData} (F : Fun K "is_state" "is_state" s_is_state f fd) (T : BT mg) (C2 : Ca P w K mg base 2 "is_number" ["thing"] (spPred Any isNumD)) :
    FnOk P w K mg base CX0 3 f fd ["thing", "bound"] spIsState := by
  refine F.ok sc_is_state (fun vs H Q E h => ?_) (fun cdv A outer s H vs Q E hr h => ?_)
  · obtain ⟨v, c, b, bd, rfl, _⟩ := h
    rfl
  · obtain ⟨v, c, b, bd, rfl, hv, hb, q⟩ := h
    obtain ⟨a, rfl, ha⟩ := st_inv hv
    refine ⟨_, (pss_cons (ps_if (PW.pt (pw_or (pt_not (pt_val (pe_callB call_isi (by rfl) T.n_isinstance (by decide +kernel) (pa_cons (pv 0) (pa_cons (pe_bltn (v := .ty "tuple") (by rfl) T.n_tuple (by decide +kernel) rfl) pa_nil))))) (pw_or1 (pt_cmpR op_ne (pe_callB call_len_seq (by rfl) T.n_len (by decide +kernel) (pa_cons (pv 0) pa_nil)) pe_int (nomark _)))))
      (pss_one (ps_ret pe_bl))
      pss_nil)
    (pss_one (ps_ret (pe_and (pe_ca C2 (hr.mono (by decide)) (by rfl) (pa_cons (pe_ix ix_tup (pv 0) pe_int (fun _ _ => rfl)) pa_nil)) (pe_and (pe_cmpR op_le (pe_ix ix_tup (pv 0) pe_int (fun _ _ => rfl)) (pv 1) (nomark _)) (pe_one (pe_callB call_isi (by rfl) T.n_isinstance (by decide +kernel) (pa_cons (pe_ix ix_tup (pv 0) pe_int (fun _ _ => rfl)) (pa_cons (pe_bltn (v := .ty "bool") (by rfl) T.n_bool (by decide +kernel) rfl) pa_nil))))))))), ?_⟩
    refine ⟨_, rfl, _, _, _, _, _, rfl, .ty "tuple", ty_of hv, ki_tuple (stD c b), _, rfl, ?_⟩
    refine iteF ?_
    refine ⟨_, rfl, a, _, rfl, .inr (SqT.of ha), rfl, _, rfl, ?_⟩
    refine iteF ?_
    refine ⟨_, rfl, _, _, 0, _, rfl, rfl, SqT.of ha, atI_nat (by rfl), .int (c : Int), _, rfl, .int _, trivial, fun H1 e1 => ⟨_, rfl, ?_⟩⟩
    have z : isNumD (.int (c : Int)) = true := by unfold isNumD; exact decide_eq_true (by omega)
    rw [if_pos z]
    refine ⟨_, rfl, _, _, 0, _, rfl, rfl, SqT.of (e1 _ _ ha), atI_nat (by rfl), _, rfl, _, _, rfl, rfl, _, rfl, ?_⟩
    refine ite2 (fun _ => ?_) (fun g => absurd (decide_eq_true hb) g)
    refine ⟨_, rfl, _, _, 1, _, rfl, rfl, SqT.of (e1 _ _ ha), atI_nat (by rfl), _, _, _, _, _, rfl, .ty "bool", .base (.bl b), ki_bool (.bool b), ?_⟩
    exact q _ e1
end
end K17

set_option Elab.async false
set_option linter.all false
set_option maxRecDepth 100000
set_option maxHeartbeats 4000000
namespace K17
open PySem PySem.Spec PyProof.Rows L2 Ol
open TL (tl)
/-- the fields -/
def lf (n b s : Addr) : List (Str × V) := [("_names", .ref n), ("_bounds", .ref b), ("_spots", .ref s)]
theorem n_b : ¬ (("_names" : Str) = "_bounds") := by decide +kernel
theorem n_s : ¬ (("_names" : Str) = "_spots") := by decide +kernel
theorem b_s : ¬ (("_bounds" : Str) = "_spots") := by decide +kernel
theorem b_n : ¬ (("_bounds" : Str) = "_names") := by decide +kernel
theorem s_n : ¬ (("_spots" : Str) = "_names") := by decide +kernel
theorem s_b : ¬ (("_spots" : Str) = "_bounds") := by decide +kernel
theorem lf_n (n b s : Addr) : (lf n b s).lookup ("_names" : Str) = some (.ref n) := by
  unfold lf
  rw [List.lookup_cons_self]
theorem lf_b (n b s : Addr) : (lf n b s).lookup ("_bounds" : Str) = some (.ref b) := by
  unfold lf
  rw [List.lookup_cons, beq_eq_false_iff_ne.mpr b_n]
  dsimp only
  rw [List.lookup_cons_self]
theorem lf_s (n b s : Addr) : (lf n b s).lookup ("_spots" : Str) = some (.ref s) := by
  unfold lf
  rw [List.lookup_cons, beq_eq_false_iff_ne.mpr s_n]
  dsimp only
  rw [List.lookup_cons, beq_eq_false_iff_ne.mpr s_b]
  dsimp only
  rw [List.lookup_cons_self]
theorem lf_no (n b s : Addr) {m : Str} (h1 : ¬ m = "_names") (h2 : ¬ m = "_bounds") (h3 : ¬ m = "_spots") : (lf n b s).lookup m = none := by
  unfold lf
  rw [List.lookup_cons, beq_eq_false_iff_ne.mpr h1]
  dsimp only
  rw [List.lookup_cons, beq_eq_false_iff_ne.mpr h2]
  dsimp only
  rw [List.lookup_cons, beq_eq_false_iff_ne.mpr h3]
  rfl
theorem put1 (n : Addr) : putF "_names" (.ref n) [] = ([("_names", V.ref n)] : List (Str × V)) := rfl
theorem put2 (n b : Addr) : putF "_bounds" (.ref b) [("_names", V.ref n)] = ([("_names", V.ref n), ("_bounds", V.ref b)] : List (Str × V)) := by
  show (if ("_names" : Str) = "_bounds" then _ else (("_names" : Str), V.ref n) :: putF "_bounds" (V.ref b) []) = _
  rw [if_neg n_b]
  rfl
theorem put3 (n b s : Addr) : putF "_spots" (.ref s) [("_names", V.ref n), ("_bounds", V.ref b)] = lf n b s := by
  show (if ("_names" : Str) = "_spots" then _ else (("_names" : Str), V.ref n) :: (if ("_bounds" : Str) = "_spots" then _ else (("_bounds" : Str), V.ref b) :: putF "_spots" (V.ref s) [])) = _
  rw [if_neg n_s, if_neg b_s]
  rfl
/-- Lanes with these names and bounds stand at p -/
def LanesAt (C : Addr) (H : Hp) (p : Addr) (ns : List Str) (bs : List Int) : Prop :=
  ∃ dx n b s, H p = some (.ins C dx (lf n b s)) ∧ H n = some (.tup (ns.map V.str)) ∧ H b = some (.tup (bs.map V.int)) ∧ H s = some (.dK (spots ns)) ∧
    bs.length = ns.length ∧ ns.Nodup ∧ ns.length ≤ 60 ∧ (∀ x ∈ ns, isNameS x = true) ∧ (∀ i ∈ bs, 1 ≤ i)
theorem LanesAt.up {C : Addr} {H H' : Hp} {p : Addr} {ns : List Str} {bs : List Int} (e : Ext H H') : LanesAt C H p ns bs → LanesAt C H' p ns bs
  | ⟨dx, n, b, s, h1, h2, h3, h4, r⟩ => ⟨dx, n, b, s, e _ _ h1, e _ _ h2, e _ _ h3, e _ _ h4, r⟩
/-- what the text says of the class -/
structure LT (K : PySem.W.Frag) (mg : Str → Option Value) (C : Addr) : Prop where
  cl : Cls K C
  nN : NoAttr K C "_names"
  nB : NoAttr K C "_bounds"
  nS : NoAttr K C "_spots"
  gC : mg "Lanes" = some (.ref C)
  n_enum : mg "enumerate" = none
  n_zip : mg "zip" = none
abbrev cL (i : Nat) : Stmt := inClass (topS 20) i
section
variable {P : Program} {w : World} {K : PySem.W.Frag} {mg : Str → Option Value} {base : Heap} {C : Addr}
def bdOf (ps : List (Str × Int)) (x : Str) : Int := ((ps.find? fun p => decide (p.1 = x)).map (·.2)).getD 0
def spInit (C : Addr) : Sp := fun vs H Q _ => ∃ (H0 : Hp) (p dx a : Addr) (ps : List (Str × Int)), vs = [.ref p, .ref a] ∧ H0 p = none ∧ Ext H0 H ∧ H p = some (.ins C dx []) ∧ H0 a = some (.dK (kvI ps)) ∧
  ps ≠ [] ∧ ps.length ≤ 60 ∧ (∀ q ∈ ps, isNameS q.1 = true ∧ 1 ≤ q.2) ∧ (ps.map (·.1)).Nodup ∧
  ∀ H' ns, Ext H0 H' → ns.Perm (ps.map (·.1)) → sortedS ns = true → LanesAt C H' p ns (ns.map (bdOf ps)) → Q .non H'
theorem sc_init : FnScope ["self", "bounds", "name", "spot"] ["self", "bounds"] (defScope (cL 0)) := ⟨rfl, rfl, rfl, by decide +kernel, rfl, by decide +kernel, by decide +kernel⟩
theorem tyes' {σ : L2.St} {H : Hp} {Q : Bool → Hp → Prop} (h : Q true H) : tYes σ H Q := h
theorem range_getD {α β : Type} (h : α → β) (d : α) : ∀ l : List α, (List.range l.length).map (fun i => h (l.getD i d)) = l.map h
  | [] => rfl
  | a :: l => by
    rw [List.length_cons, List.range_succ_eq_map, List.map_cons, List.map_map, List.map_cons]
    congr 1
    exact range_getD h d l
theorem kvI_val {ps : List (Str × Int)} {x : Str} (h : x ∈ ps.map (·.1)) : valV (kvI ps) (.inr x) = some (.int (bdOf ps x)) := by
  induction ps with
  | nil => cases h
  | cons p ps ih =>
    unfold kvI bdOf
    rw [List.map_cons, List.find?_cons]
    by_cases c : p.1 = x
    · rw [valV_pos (by rw [c]), decide_eq_true c]
      rfl
    · rw [valV_neg (fun z => c (Sum.inr.inj z)), decide_eq_false c]
      rw [List.map_cons, List.mem_cons] at h
      exact ih (h.resolve_left fun z => c z.symm)
theorem bd_mem {ps : List (Str × Int)} {x : Str} (h : x ∈ ps.map (·.1)) : ∃ p ∈ ps, p.1 = x ∧ p.2 = bdOf ps x := by
  induction ps with
  | nil => cases h
  | cons p ps ih =>
    unfold bdOf
    rw [List.find?_cons]
    by_cases c : p.1 = x
    · rw [decide_eq_true c]
      exact ⟨p, List.mem_cons_self, c, rfl⟩
    · rw [decide_eq_false c]
      rw [List.map_cons, List.mem_cons] at h
      obtain ⟨r, h1, h2, h3⟩ := ih (h.resolve_left fun z => c z.symm)
      exact ⟨r, List.mem_cons_of_mem _ h1, h2, h3⟩
theorem ok_init {f : Addr} {fd : FuncData} (F : Fun K "__init__" "Lanes.__init__" (cL 0) f fd) (T : BT mg) (L : LT K mg C)
    (C5 : Ca P w K mg base 3 "is_bounds" ["thing"] spIsBounds) :
    FnOk P w K mg base CX0 4 f fd ["self", "bounds"] (spInit C) := by
  refine F.ok sc_init (fun vs H Q E h => ?_) (fun cdv A outer s H vs Q E hr h => ?_)
  · obtain ⟨H0, p, dx, a, ps, rfl, _⟩ := h
    rfl
  · obtain ⟨H0, p, dx, a, ps, rfl, hp0, e0, hp, ha, hne, hl, hps, hnd, q⟩ := h
    refine ⟨_, (pss_cons (ps_if (pt_not (pt_val (pe_ca C5 (hr.mono (by decide)) (by rfl) (pa_cons (pv 1) pa_nil)))) (pss_one ps_never) pss_nil)
      (pss_cons (ps_fld (pv 0) (pe_callTy call_tuple_of (by rfl) T.n_tuple (by decide +kernel) (pa_cons (pe_callB (call_sortedD rfl) (by rfl) T.n_sorted (by decide +kernel) (pa_cons (pv 1) pa_nil)) pa_nil)) rfl)
      (pss_cons (ps_fld (pv 0) (pe_callTy call_tuple_of (by rfl) T.n_tuple (by decide +kernel) (pa_cons (pe_lc (own := [("name", 2)]) (g := gName 2) (tt := tYes) rfl sc_init.nd (pi_tup (pe_fld (pv 0) rfl)) (blkOk_by (N := ["self", "bounds", "name", "spot"]) (sc := defScope (cL 0)) (by decide +kernel)) (fun _ _ _ _ _ => pg_name (i := 2) sc_init.nd rfl (.inl rfl)) (fun _ _ _ _ _ => pts_nil) (fun _ _ _ _ _ => pe_dget (hu_of hr) (pv 1) (pv 2) (fun _ _ => rfl))) pa_nil)) rfl)
      (pss_one (ps_fld (pv 0) (pe_dc (own := [("name", 2), ("spot", 3)]) (g := gTup K 2 (gCons (gName 3) (gCons (gName 2) gNil))) (tt := tYes) rfl sc_init.nd (pi_enumT (by rfl) L.n_enum (pa_cons (pe_fld (pv 0) rfl) pa_nil)) (blkOk_by (N := ["self", "bounds", "name", "spot"]) (sc := defScope (cL 0)) (by decide +kernel)) (fun _ _ _ _ _ => pg_tup (by rfl) (pgs_cons (pg_name (i := 3) sc_init.nd rfl (.inl rfl)) (pgs_cons (pg_name (i := 2) sc_init.nd rfl (.inl rfl)) pgs_nil))) (fun _ _ _ _ _ => pts_nil) (fun _ _ _ _ _ => pv 2) (fun _ _ _ _ _ => pv 3)) rfl))))), ?_⟩
    have kl : (kvI ps).map (·.1) = (ps.map (·.1)).map Sum.inr := by
      unfold kvI
      rw [List.map_map, List.map_map]
      rfl
    refine ⟨_, rfl, a, ps, rfl, e0 _ _ ha, hne, Nat.le_trans hl (by decide), hps, fun H1 e1 => ⟨_, rfl, ?_⟩⟩
    refine iteF ?_
    have e01 := e0.trans e1
    refine ⟨_, rfl, a, _, _, rfl, Rd.of (e01 _ _ ha), kl, (by rw [List.length_map]; omega), fun ns l hperm hso hl1 => ?_⟩
    have hx2 : H1 a = some (.dK (kvI ps)) := e01 _ _ ha
    have hpH : H1 p = some (.ins C dx []) := e1 _ _ hp
    have nd : ns.Nodup := hperm.nodup_iff.mpr hnd
    have len : ns.length = ps.length := by rw [hperm.length_eq, List.length_map]
    have el := Ext.new (o := .lst (ns.map V.str)) hl1
    refine ⟨l, _, rfl, .inl ⟨SqL.of upd_same, fun n hn => ?_⟩⟩
    have en := Ext.new (o := .tup (ns.map V.str)) hn
    refine ⟨_, rfl, p, C, dx, [], rfl, (el.trans en) _ _ hpH, L.cl, L.nN, (by show 0 < 1000; decide), ?_⟩
    rw [put1]
    have e4 : Ext H0 (upd (upd (upd H1 l (.lst (ns.map V.str))) n (.tup (ns.map V.str))) p (.ins C dx [("_names", .ref n)])) := Ext.mut (e01.trans (el.trans en)) hp0
    have npn : p ≠ n := fun z => by
      have := (el _ _ hpH)
      rw [z, hn] at this
      cases this
    have h4n : (upd (upd (upd H1 l (.lst (ns.map V.str))) n (.tup (ns.map V.str))) p (.ins C dx [("_names", .ref n)])) n = some (.tup (ns.map V.str)) := by
      rw [upd_ne (Ne.symm npn)]
      exact upd_same
    have h4p : (upd (upd (upd H1 l (.lst (ns.map V.str))) n (.tup (ns.map V.str))) p (.ins C dx [("_names", .ref n)])) p = some (.ins C dx [("_names", .ref n)]) := upd_same
    generalize hH4 : upd (upd (upd H1 l (.lst (ns.map V.str))) n (.tup (ns.map V.str))) p (.ins C dx [("_names", .ref n)]) = H4 at *
    refine ⟨_, rfl, p, C, dx, _, _, rfl, h4p, L.cl, L.nN, rfl, n, rfl, ⟨_, SqT.of h4n⟩, fun D hD => ?_⟩
    have nm : ∀ i, i < ns.length → ns.getD i Str.empty ∈ ps.map (·.1) := fun i hi => by
      rw [List.getD_eq_getElem?_getD, List.getElem?_eq_getElem hi]
      exact hperm.mem_iff.mp (List.getElem_mem hi)
    have ml : (ns.map V.str).length = ns.length := List.length_map ..
    refine lc_det (w := walk_tup (xs := ns.map V.str)) (fun i => V.str (ns.getD i Str.empty)) (fun _ => true) (fun i => V.int (bdOf ps (ns.getD i Str.empty))) hD (by rw [ml]; exact Nat.le_trans (by omega) (show 60 ≤ sizeLine by decide)) ?_ (fun H' e => SqT.of (e _ _ h4n)) (fun _ _ _ _ _ h => tyes' h) ?_ ?_
    · rintro i Hi x H' hi ⟨rfl, hx⟩
      refine ⟨rfl, ?_⟩
      rw [List.getElem?_map] at hx
      rw [ml] at hi
      rw [List.getElem?_eq_getElem hi] at hx
      rw [List.getD_eq_getElem?_getD, List.getElem?_eq_getElem hi]
      exact (Option.some.inj hx).symm
    · intro i Hi hi _ e Q' q'
      rw [ml] at hi
      have hai : Hi a = some (.dK (kvI ps)) := (e4.trans e) _ _ ha
      have g := DGet.k (k := .inr (ns.getD i Str.empty)) hai
      rw [kvI_val (nm i hi)] at g
      exact ⟨_, rfl, _, rfl, a, _, rfl, g, q'⟩
    have e5 := Ext.new (o := .lst ((ns.map (bdOf ps)).map V.int)) hD
    have mm : (((List.range (ns.map V.str).length).filter fun _ => true).map fun i => V.int (bdOf ps (ns.getD i Str.empty))) = (ns.map (bdOf ps)).map V.int := by
      rw [ml, List.filter_eq_self.mpr (fun _ _ => rfl), List.map_map]
      exact range_getD (V.int ∘ bdOf ps) Str.empty ns
    rw [mm]
    refine ⟨D, _, rfl, .inl ⟨SqL.of upd_same, fun b hb => ?_⟩⟩
    have e6 := Ext.new (o := .tup ((ns.map (bdOf ps)).map V.int)) hb
    have e46 := e5.trans e6
    refine ⟨_, rfl, p, C, dx, _, rfl, e46 _ _ h4p, L.cl, L.nB, (by show 1 < 1000; decide), ?_⟩
    rw [put2]
    have e7 := Ext.mut (o := .ins C dx [("_names", .ref n), ("_bounds", .ref b)]) (e4.trans e46) hp0
    have npb : p ≠ b := fun z => by
      have := e5 _ _ h4p
      rw [z, hb] at this
      cases this
    have h7n : (upd (upd (upd H4 D (.lst ((ns.map (bdOf ps)).map V.int))) b (.tup ((ns.map (bdOf ps)).map V.int))) p (.ins C dx [("_names", .ref n), ("_bounds", .ref b)])) n = some (.tup (ns.map V.str)) := by
      rw [upd_ne (Ne.symm npn)]
      exact e46 _ _ h4n
    have h7b : (upd (upd (upd H4 D (.lst ((ns.map (bdOf ps)).map V.int))) b (.tup ((ns.map (bdOf ps)).map V.int))) p (.ins C dx [("_names", .ref n), ("_bounds", .ref b)])) b = some (.tup ((ns.map (bdOf ps)).map V.int)) := by
      rw [upd_ne (Ne.symm npb)]
      exact upd_same
    have h7p : (upd (upd (upd H4 D (.lst ((ns.map (bdOf ps)).map V.int))) b (.tup ((ns.map (bdOf ps)).map V.int))) p (.ins C dx [("_names", .ref n), ("_bounds", .ref b)])) p = some (.ins C dx [("_names", .ref n), ("_bounds", .ref b)]) := upd_same
    generalize upd (upd (upd H4 D (.lst ((ns.map (bdOf ps)).map V.int))) b (.tup ((ns.map (bdOf ps)).map V.int))) p (.ins C dx [("_names", .ref n), ("_bounds", .ref b)]) = H7 at *
    refine ⟨_, rfl, p, C, dx, _, _, rfl, h7p, L.cl, L.nN, rfl, n, _, rfl, SqT.of h7n, fun D2 hD2 => ?_⟩
    refine dc_it (w := walk_enumT (xs := ns.map V.str)) (fun i Hi => Ext H7 Hi ∧ Hi D2 = some (.dK (spots (ns.take i)))) ⟨Ext.new hD2, upd_same⟩ (fun i Hi _ h => SqT.of (h.1 _ _ h7n)) ?_ ?_
    · rintro i v Hi H' hi ⟨ei, hdi⟩ ⟨T', y1, y2, rfl, hT, rfl, g1, g2⟩
      rw [ml] at hi
      cases g1
      dsimp only at g2
      rw [List.getElem?_map, List.getElem?_eq_getElem hi] at g2
      cases g2
      have eT := Ext.new (o := .tup [.int (i : Int), .str ns[i]]) hT
      refine ⟨T', _, rfl, SqT.of upd_same, rfl, _, _, rfl, _, _, rfl, rfl, rfl, ?_⟩
      refine tyes ?_
      have hns : ns[i] ∉ ns.take i := fun z => by
        obtain ⟨j, hj, ej⟩ := List.getElem_of_mem z
        rw [List.length_take] at hj
        rw [List.getElem_take] at ej
        exact List.pairwise_iff_getElem.mp nd j i (by omega) hi (by omega) ej
      refine ⟨_, rfl, _, rfl, spots (ns.take i), .inr ns[i], rfl, eT _ _ hdi, ?_, Ext.mut (ei.trans eT) hD2, ?_⟩
      · rw [spots_len, List.length_take]
        exact Nat.lt_of_le_of_lt (show _ ≤ 60 by omega) (by decide)
      · rw [upd_same, putK_new (spots_none hns), List.take_add_one, List.getElem?_eq_getElem hi]
        show _ = some (HO.dK (spots (ns.take i ++ [ns[i]])))
        rw [spots_snoc, List.length_take, Nat.min_eq_left (Nat.le_of_lt hi)]
    · rintro H8 ⟨e8, h8d⟩
      rw [ml, List.take_length] at h8d
      refine ⟨_, rfl, p, C, dx, _, rfl, e8 _ _ h7p, L.cl, L.nS, (by show 2 < 1000; decide), ?_⟩
      rw [put3]
      have npD : p ≠ D2 := fun z => by rw [← z, h7p] at hD2; cases hD2
      refine q _ ns (Ext.mut (e7.trans e8) hp0) hperm hso ⟨dx, n, b, D2, upd_same, ?_, ?_, ?_, List.length_map .., nd, by omega, ?_, ?_⟩
      · rw [upd_ne (Ne.symm npn)]; exact e8 _ _ h7n
      · rw [upd_ne (Ne.symm npb)]; exact e8 _ _ h7b
      · rw [upd_ne (Ne.symm npD)]; exact h8d
      · intro x hx
        obtain ⟨r, hr1, hr2, _⟩ := bd_mem (hperm.mem_iff.mp hx)
        rw [← hr2]
        exact (hps r hr1).1
      · intro i hi
        obtain ⟨x, hx, rfl⟩ := List.mem_map.mp hi
        obtain ⟨r, hr1, _, hr3⟩ := bd_mem (hperm.mem_iff.mp hx)
        rw [← hr3]
        exact (hps r hr1).2
end
end K17

set_option Elab.async false
set_option linter.all false
set_option maxRecDepth 100000
set_option maxHeartbeats 4000000
namespace K17
open PySem PySem.Spec PyProof.Rows L2 Ol
open TL (tl)
theorem DqAll_get {H : Hp} : ∀ {xs : List V} {ds : List PyData}, DqAll H xs ds → ∀ (i : Nat) (d : PyData), ds[i]? = some d → ∃ v, xs[i]? = some v ∧ Dq H v d
  | _, _, .nil, i, d, h => by simp at h
  | _, _, .cons a t, 0, d, h => by
    cases h
    exact ⟨_, rfl, a⟩
  | _, _, .cons a t, i + 1, d, h => DqAll_get t i d h
theorem DqAll_set {H : Hp} : ∀ {xs : List V} {ds : List PyData}, DqAll H xs ds → ∀ (i : Nat) (v : V) (d : PyData), Dq H v d → DqAll H (xs.set i v) (ds.set i d)
  | _, _, .nil, i, v, d, h => .nil
  | _, _, .cons a t, 0, v, d, h => .cons h t
  | _, _, .cons a t, i + 1, v, d, h => .cons a (DqAll_set t i v d h)
/-- a content, as data -/
def ctL (cs : List (Nat × Bool)) : List PyData := cs.map fun s => stD s.1 s.2
def ctD (cs : List (Nat × Bool)) : PyData := .tuple (ctL cs)
theorem ct_inv {H : Hp} {v : V} {cs : List (Nat × Bool)} (h : Dq H v (ctD cs)) : ∃ a xs, v = .ref a ∧ H a = some (.tup xs) ∧ DqAll H xs (ctL cs) ∧ xs.length = cs.length := by
  obtain ⟨a, xs, ds, rfl, e, h1, h2⟩ := dq_tup h rfl
  unfold ctD at e
  cases e
  exact ⟨a, xs, rfl, h1, h2, by rw [h2.len]; unfold ctL; rw [List.length_map]⟩
section
variable {P : Program} {w : World} {K : PySem.W.Frag} {mg : Str → Option Value} {base : Heap} {C : Addr}
/-! ### thing in lanes -/
def spHas (C : Addr) : Sp := fun vs H Q _ => ∃ (p : Addr) (ns : List Str) (bs : List Int) (x : Str), vs = [.ref p, .str x] ∧ LanesAt C H p ns bs ∧ isNameS x = true ∧
  ∀ H', Ext H H' → Q (.bl (decide (x ∈ ns))) H'
theorem sc_has : FnScope ["self", "thing"] ["self", "thing"] (defScope (cL 4)) := ⟨rfl, rfl, rfl, by decide +kernel, rfl, by decide +kernel, by decide +kernel⟩
theorem spots_mem {ns : List Str} (hd : ns.Nodup) (x : Str) : (valV (spots ns) (.inr x)).isSome = decide (x ∈ ns) := by
  by_cases h : x ∈ ns
  · obtain ⟨i, hi, e⟩ := List.getElem_of_mem h
    rw [decide_eq_true h, ← e, spots_val hd hi]
    rfl
  · rw [decide_eq_false h, spots_none h]
    rfl
theorem ok_has {f : Addr} {fd : FuncData} (F : Fun K "__contains__" "Lanes.__contains__" (cL 4) f fd) (T : BT mg) (L : LT K mg C) :
    FnOk P w K mg base CX0 2 f fd ["self", "thing"] (spHas C) := by
  refine F.ok sc_has (fun vs H Q E h => ?_) (fun cdv A outer s H vs Q E hr h => ?_)
  · obtain ⟨p, ns, bs, x, rfl, _⟩ := h
    rfl
  · obtain ⟨p, ns, bs, x, rfl, hL, hx, q⟩ := h
    refine ⟨_, (pss_one (ps_ret (pe_and (pe_callB call_isi (by rfl) T.n_isinstance (by decide +kernel) (pa_cons (pv 1) (pa_cons (pe_bltn (v := .ty "str") (by rfl) T.n_str (by decide +kernel) rfl) pa_nil))) (pe_one (pe_cmp (pc_din (hu_of hr) (pv 1) (pe_fld (pv 0) rfl)) rfl))))), ?_⟩
    obtain ⟨dx, n, b, sp, h1, h2, h3, h4, _, hnd, _⟩ := id hL
    refine ⟨_, rfl, _, _, _, _, _, rfl, .ty "str", ty_of (.str x), ki_str (.str x), _, rfl, ?_⟩
    refine ite2 (fun _ => ?_) (fun g => absurd rfl g)
    refine ⟨_, rfl, _, rfl, p, C, dx, _, _, rfl, h1, L.cl, L.nS, lf_s _ _ _, sp, _, rfl, DGet.k (k := Sum.inr x) h4, ?_⟩
    rw [spots_mem hnd]
    exact q _ (Ext.refl H)
/-! ### the index of a lane -/
def spSpot (C : Addr) : Sp := fun vs H Q _ => ∃ (p : Addr) (ns : List Str) (bs : List Int) (i : Nat) (hi : i < ns.length), vs = [.ref p, .str ns[i]] ∧ LanesAt C H p ns bs ∧
  ∀ H', Ext H H' → Q (.int (i : Int)) H'
theorem sc_spot : FnScope ["self", "lane"] ["self", "lane"] (defScope (cL 7)) := ⟨rfl, rfl, rfl, by decide +kernel, rfl, by decide +kernel, by decide +kernel⟩
theorem ok_spot {f : Addr} {fd : FuncData} (F : Fun K "_spot" "Lanes._spot" (cL 7) f fd) (L : LT K mg C)
    (M : Cm P w K mg base C 2 "__contains__" ["self", "thing"] (spHas C)) :
    FnOk P w K mg base CX0 3 f fd ["self", "lane"] (spSpot C) := by
  refine F.ok sc_spot (fun vs H Q E h => ?_) (fun cdv A outer s H vs Q E hr h => ?_)
  · obtain ⟨p, ns, bs, i, hi, rfl, _⟩ := h
    rfl
  · obtain ⟨p, ns, bs, i, hi, rfl, hL, q⟩ := h
    refine ⟨_, (pss_cons (ps_if (pt_cmpR (op_notInM M (hr.mono (by decide))) (pv 1) (pv 0) (by rfl)) (pss_one ps_never) pss_nil)
      (pss_one (ps_ret (pe_dget (hu_of hr) (pe_fld (pv 0) rfl) (pv 1) (fun _ _ => rfl))))), ?_⟩
    have hm : ns[i] ∈ ns := List.getElem_mem hi
    obtain ⟨dx, n, b, sp, h1, h2, h3, h4, hl, hnd, hl2, hns, hbs⟩ := id hL
    refine ⟨_, rfl, _, rfl, p, dx, _, rfl, h1, p, ns, bs, _, rfl, hL, hns _ hm, fun H1 e1 => ⟨_, rfl, ?_⟩⟩
    rw [decide_eq_true hm]
    refine ⟨_, rfl, ?_⟩
    refine iteF ?_
    refine ⟨_, rfl, p, C, dx, _, _, rfl, e1 _ _ h1, L.cl, L.nS, lf_s _ _ _, _, rfl, sp, _, rfl, ?_, q _ e1⟩
    have g := DGet.k (k := Sum.inr ns[i]) (e1 _ _ h4)
    rw [spots_val hnd hi] at g
    exact g
/-! ### the state behind an arm -/
def spBeh (C : Addr) : Sp := fun vs H Q _ => ∃ (p : Addr) (ns : List Str) (bs : List Int) (v : V) (cs : List (Nat × Bool)) (word : Str) (i : Nat) (hi : i < ns.length) (st : Nat × Bool) (bd : Int), vs = [.ref p, v, .str word, .int (i : Int)] ∧ LanesAt C H p ns bs ∧ Dq H v (ctD cs) ∧
  cs[i]? = some st ∧ bs[i]? = some bd ∧ ∀ (r : V) (H' : Hp), Ext H H' → Dq H' r (optD (beh word st.1 st.2 bd)) → Q r H'
theorem sc_beh : FnScope ["self", "content", "word", "spot"] ["self", "content", "word", "spot"] (defScope (cL 8)) := ⟨rfl, rfl, rfl, by decide +kernel, rfl, by decide +kernel, by decide +kernel⟩
theorem ok_beh {f : Addr} {fd : FuncData} (F : Fun K "_behind" "Lanes._behind" (cL 8) f fd) (L : LT K mg C)
    (C7 : Ca P w K mg base 1 "state_behind" ["word", "state", "bound"] spBehind) :
    FnOk P w K mg base CX0 2 f fd ["self", "content", "word", "spot"] (spBeh C) := by
  refine F.ok sc_beh (fun vs H Q E h => ?_) (fun cdv A outer s H vs Q E hr h => ?_)
  · obtain ⟨p, ns, bs, v, cs, word, i, hi, st, bd, rfl, _⟩ := h
    rfl
  · obtain ⟨p, ns, bs, v, cs, word, i, hi, st, bd, rfl, hL, hv, hcs, hb, q⟩ := h
    refine ⟨_, (pss_one (ps_ret (pe_ca C7 (hr.mono (by decide)) (by rfl) (pa_cons (pv 2) (pa_cons (pe_ix ix_tup (pv 1) (pv 3) (fun _ _ => rfl)) (pa_cons (pe_ix ix_tup (pe_fld (pv 0) rfl) (pv 3) (fun _ _ => rfl)) pa_nil)))))), ?_⟩
    obtain ⟨dx, n, b, sp, h1, h2, h3, h4, hl, hnd, hl2, hns, hbs⟩ := id hL
    obtain ⟨a, xs, rfl, ha, hxs, hxl⟩ := ct_inv hv
    obtain ⟨u, hu, du⟩ := DqAll_get hxs i (stD st.1 st.2) (by unfold ctL; rw [List.getElem?_map, hcs]; rfl)
    refine ⟨_, rfl, _, rfl, _, rfl, a, _, _, _, rfl, rfl, SqT.of ha, atI_nat hu, _, rfl, p, C, dx, _, _, rfl, h1, L.cl, L.nB, lf_b _ _ _, _, rfl, b, _, _, _, rfl, rfl, SqT.of h3, atI_nat (by rw [List.getElem?_map, hb]; rfl), word, u, st.1, st.2, bd, rfl, du, q⟩
/-! ### the first content -/
def firstL (ns : List Str) : List (Nat × Bool) := ns.map fun _ => (0, false)
def spFirst (C : Addr) : Sp := fun vs H Q _ => ∃ (p : Addr) (ns : List Str) (bs : List Int), vs = [.ref p] ∧ LanesAt C H p ns bs ∧ ns ≠ [] ∧
  ∀ (r : V) (H' : Hp), Ext H H' → Dq H' r (ctD (firstL ns)) → Q r H'
theorem sc_first : FnScope ["self"] ["self"] (defScope (cL 6)) := ⟨rfl, rfl, rfl, by decide +kernel, rfl, by decide +kernel, by decide +kernel⟩
theorem first_all {H : Hp} {t : Addr} (ht : H t = some (.tup [.int 0, .bl false])) : ∀ ns : List Str, DqAll H (List.replicate ns.length (V.ref t)) (ctL (firstL ns))
  | [] => .nil
  | _ :: ns => .cons (.tup ht (.cons (.int 0) (.cons (.bl false) .nil))) (first_all ht ns)
theorem ok_first {f : Addr} {fd : FuncData} (F : Fun K "first" "Lanes.first" (cL 6) f fd) (T : BT mg) (L : LT K mg C) :
    FnOk P w K mg base CX0 1 f fd ["self"] (spFirst C) := by
  refine F.ok sc_first (fun vs H Q E h => ?_) (fun cdv A outer s H vs Q E hr h => ?_)
  · obtain ⟨p, ns, bs, rfl, _⟩ := h
    rfl
  · obtain ⟨p, ns, bs, rfl, hL, hne, q⟩ := h
    refine ⟨_, (pss_one (ps_ret (pe_op op_repA (pe_tup (pa_cons (pe_tup (pa_cons pe_int (pa_cons pe_bl pa_nil))) pa_nil)) (pe_callB call_len_seq (by rfl) T.n_len (by decide +kernel) (pa_cons (pe_fld (pv 0) rfl) pa_nil))))), ?_⟩
    refine ⟨by show 2 ≤ sizeLine; decide, fun t ht => ⟨by show 1 ≤ sizeLine; decide, fun t2 ht2 => ?_⟩⟩
    have e1 := Ext.new (o := .tup [.int 0, .bl false]) ht
    have e2 := Ext.new (o := .tup [.ref t]) ht2
    obtain ⟨dx, n, b, sp, h1, h2, h3, h4, hl, hnd, hl2, hns, hbs⟩ := hL.up (e1.trans e2)
    have lp : 0 < ns.length := List.length_pos_iff.mpr hne
    refine ⟨_, rfl, p, C, dx, _, _, rfl, h1, L.cl, L.nN, lf_n _ _ _, n, _, rfl, .inr (SqT.of h2), t2, _, _, rfl, rfl, SqT.of upd_same, by simp, ?_, ?_, by simp, fun hk => ?_, fun hk p2 hp2 => ?_⟩
    · rw [List.length_map]; omega
    · rw [List.length_map]; omega
    · refine q _ _ (e1.trans e2) (.tup upd_same ?_)
      have z : ns.length = 1 := by rw [List.length_map] at hk; omega
      have r := first_all (H := upd (upd H t (.tup [.int 0, .bl false])) t2 (.tup [.ref t])) (t := t) (e2 _ _ upd_same) ns
      rw [z] at r
      exact r
    · have e3 := Ext.new (o := .tup (List.replicate ((ns.map V.str).length : Int).toNat [V.ref t]).flatten) hp2
      refine q _ _ ((e1.trans e2).trans e3) (.tup upd_same ?_)
      have r := first_all (H := upd (upd (upd H t (.tup [.int 0, .bl false])) t2 (.tup [.ref t])) p2 (.tup (List.replicate ((ns.map V.str).length : Int).toNat [V.ref t]).flatten)) (t := t) (e3 _ _ (e2 _ _ upd_same)) ns
      have z : (List.replicate ((ns.map V.str).length : Int).toNat [V.ref t]).flatten = List.replicate ns.length (V.ref t) := by
        rw [List.length_map, Int.toNat_natCast]
        simp
      rw [z] at r ⊢
      exact r
end
end K17

set_option Elab.async false
set_option linter.all false
set_option maxRecDepth 100000
set_option maxHeartbeats 4000000
namespace K17
open PySem PySem.Spec PyProof.Rows L2 Ol
open TL (tl)
section
variable {P : Program} {w : World} {K : PySem.W.Frag} {mg : Str → Option Value} {base : Heap} {C S : Addr}
/-! ### is_open -/
def spOpen (C : Addr) : Sp := fun vs H Q _ => ∃ (p : Addr) (ns : List Str) (bs : List Int) (v : V) (cs : List (Nat × Bool)) (word : Str) (i : Nat) (hi : i < ns.length) (st : Nat × Bool) (bd : Int), vs = [.ref p, v, .str word, .str ns[i]] ∧ LanesAt C H p ns bs ∧ Dq H v (ctD cs) ∧
  cs[i]? = some st ∧ bs[i]? = some bd ∧ ∀ (H' : Hp), Ext H H' → Q (.bl (beh word st.1 st.2 bd).isSome) H'
theorem sc_open : FnScope ["self", "content", "word", "lane"] ["self", "content", "word", "lane"] (defScope (cL 13)) := ⟨rfl, rfl, rfl, by decide +kernel, rfl, by decide +kernel, by decide +kernel⟩
theorem opt_non {H : Hp} {r : V} {o : Option (Nat × Bool)} (h : Dq H r (optD o)) : (!decide (r = V.non)) = o.isSome := by
  cases o with
  | none =>
    have h' : Dq H r .none := h
    cases h'
    rfl
  | some s =>
    obtain ⟨a, rfl, _⟩ := st_inv (show Dq H r (stD s.1 s.2) from h)
    rfl
theorem ok_open {f : Addr} {fd : FuncData} (F : Fun K "is_open" "Lanes.is_open" (cL 13) f fd) (L : LT K mg C)
    (MS : Cm P w K mg base C 3 "_spot" ["self", "lane"] (spSpot C)) (MB : Cm P w K mg base C 2 "_behind" ["self", "content", "word", "spot"] (spBeh C)) :
    FnOk P w K mg base CX0 4 f fd ["self", "content", "word", "lane"] (spOpen C) := by
  refine F.ok sc_open (fun vs H Q E h => ?_) (fun cdv A outer s H vs Q E hr h => ?_)
  · obtain ⟨p, ns, bs, v, cs, word, i, hi, st, bd, rfl, _⟩ := h
    rfl
  · obtain ⟨p, ns, bs, v, cs, word, i, hi, st, bd, rfl, hL, hv, hcs, hb, q⟩ := h
    refine ⟨_, (pss_one (ps_ret (pe_cmpR op_notN (pe_cm MB L.cl (hr.mono (by decide)) (pv 0) (pa_cons (pv 1) (pa_cons (pv 2) (pa_cons (pe_cm MS L.cl (hr.mono (by decide)) (pv 0) (pa_cons (pv 3) pa_nil)) pa_nil)))) pe_non (nomark _)))), ?_⟩
    obtain ⟨dx, n, b, sp, h1, h2, h3, h4, hl, hnd, hl2, hns, hbs⟩ := id hL
    refine ⟨_, rfl, p, dx, _, rfl, h1, lf_no _ _ _ (by decide +kernel) (by decide +kernel) (by decide +kernel), _, rfl, _, rfl, _, rfl, p, dx, _, rfl, h1, lf_no _ _ _ (by decide +kernel) (by decide +kernel) (by decide +kernel), _, rfl, p, ns, bs, i, hi, rfl, hL, fun H1 e1 => ?_⟩
    refine ⟨p, ns, bs, v, cs, word, i, hi, st, bd, rfl, hL.up e1, hv.up e1, hcs, hb, fun r H2 e2 hr2 => ⟨rfl, ?_⟩⟩
    rw [opt_non hr2]
    exact q _ (e1.trans e2)
/-! ### Shut -/
abbrev s_shutInit : Stmt := inClass (topS 5) 0
structure ST (K : PySem.W.Frag) (mg : Str → Option Value) (S : Addr) : Prop where
  gS : mg "Shut" = some (.ref S)
  ox : OexC K S
  xf : XfC K S
  nW : PySem.W.findIn K (.ref S) "word" = some none
  nL : PySem.W.findIn K (.ref S) "lane" = some none
  te : PySem.W.exmOne K (.ref S) (.ref S) = some true
def sh2 (w l : V) : List (Str × V) := [("lane", l), ("word", w)]
def spShutI (S : Addr) : Sp := fun vs H Q _ => ∃ (a : Addr) (x y : V), vs = [.ref a, x, y] ∧ H a = some (exo a S none) ∧
  ∀ (dx : Addr) (H' : Hp), H dx = none → dx ≠ a → (∀ b, b ≠ a → b ≠ dx → H' b = H b) → H' a = some (exo a S (some dx)) → H' dx = some (exd dx (sh2 x y)) → Q .non H'
theorem sc_shutI : FnScope ["self", "word", "lane"] ["self", "word", "lane"] (defScope s_shutInit) := ⟨rfl, rfl, rfl, by decide +kernel, rfl, by decide +kernel, by decide +kernel⟩
theorem ok_shutI {f : Addr} {fd : FuncData} (F : Fun K "__init__" "Shut.__init__" s_shutInit f fd) (T : ST K mg S) :
    FnOk P w K mg base CX0 1 f fd ["self", "word", "lane"] (spShutI S) := by
  refine F.ok sc_shutI (fun vs H Q E h => ?_) (fun cdv A outer s H vs Q E hr h => ?_)
  · obtain ⟨a, x, y, rfl, _⟩ := h
    rfl
  · obtain ⟨a, x, y, rfl, ha, q⟩ := h
    refine ⟨_, (pss_cons (ps_ost (pv 0) (pv 1)) (pss_one (ps_ost (pv 0) (pv 2)))), ?_⟩
    refine ⟨_, rfl, _, rfl, a, S, rfl, T.ox, T.nW, .inl ⟨ha, fun dx hdx nda => ?_⟩⟩
    refine ⟨_, rfl, _, rfl, a, S, rfl, T.ox, T.nL, .inr ⟨dx, [("word", x)], upd_same, ?_, by show 1 ≤ 900; decide, ?_⟩⟩
    · rw [upd_ne nda, upd_same]
    · refine q dx _ hdx nda (fun b h1 h2 => ?_) ?_ upd_same
      · rw [upd_ne h2, upd_ne h1, upd_ne h2]
      · rw [upd_ne (Ne.symm nda), upd_same]
/-! ### done -/
def spDone (C S : Addr) : Sp := fun vs H Q E => ∃ (p : Addr) (ns : List Str) (bs : List Int) (v : V) (cs : List (Nat × Bool)) (word : Str) (i : Nat) (hi : i < ns.length) (st : Nat × Bool) (bd : Int), vs = [.ref p, v, .str word, .str ns[i]] ∧ LanesAt C H p ns bs ∧ Dq H v (ctD cs) ∧
  cs[i]? = some st ∧ bs[i]? = some bd ∧ cs.length ≤ 1000 ∧
  (∀ st', beh word st.1 st.2 bd = some st' → ∀ (r : V) (H' : Hp), Ext H H' → Dq H' r (ctD (cs.set i st')) → Q r H') ∧
  (beh word st.1 st.2 bd = none → ∀ (d : Addr) (H' : Hp), Ext H H' → H' d = some (.xd (sh2 (.str word) (.str ns[i]))) → E (.ref S) (some d) H')
theorem sc_done : FnScope ["self", "content", "word", "lane", "spot", "state"] ["self", "content", "word", "lane"] (defScope (cL 14)) := ⟨rfl, rfl, rfl, by decide +kernel, rfl, by decide +kernel, by decide +kernel⟩
structure SI (P : Program) (w : World) (K : PySem.W.Frag) (mg : Str → Option Value) (base : Heap) (S : Addr) : Prop where
  has : ∃ (f : Addr) (fd : FuncData), FnOk P w K mg base CX0 1 f fd ["self", "word", "lane"] (spShutI S) ∧ PySem.W.findIn K (.ref S) "__init__" = some (some (.ref f)) ∧
    PySem.W.typeIn K (.ref f) = some (.type "function") ∧ Binds K fd ["self", "word", "lane"] []
theorem ok_done {f : Addr} {fd : FuncData} (F : Fun K "done" "Lanes.done" (cL 14) f fd) (L : LT K mg C) (T : ST K mg S) (I : SI P w K mg base S)
    (MS : Cm P w K mg base C 3 "_spot" ["self", "lane"] (spSpot C)) (MB : Cm P w K mg base C 2 "_behind" ["self", "content", "word", "spot"] (spBeh C))
    (C8 : Ca P w K mg base 1 "replaced" ["row", "index", "item"] spReplaced) :
    FnOk P w K mg base (L2.CX P w) 4 f fd ["self", "content", "word", "lane"] (spDone C S) := by
  obtain ⟨fI, fdI, FI, iC, tI, bI⟩ := I.has
  refine F.okX sc_done (fun vs H Q E h => ?_) (fun cdv A outer s H vs Q E hr h => ?_)
  · obtain ⟨p, ns, bs, v, cs, word, i, hi, st, bd, rfl, _⟩ := h
    rfl
  · obtain ⟨p, ns, bs, v, cs, word, i, hi, st, bd, rfl, hL, hv, hcs, hb, hz, q1, q2⟩ := h
    refine ⟨_, (pss_cons (ps_set (i := 4) sc_done.nd rfl (.inl rfl) (pe_cm MS L.cl (hr.mono (by decide)) (pv 0) (pa_cons (pv 3) pa_nil)))
      (pss_cons (ps_set (i := 5) sc_done.nd rfl (.inl rfl) (pe_cm MB L.cl (hr.mono (by decide)) (pv 0) (pa_cons (pv 1) (pa_cons (pv 2) (pa_cons (pv 4) pa_nil)))))
      (pss_cons (ps_if (pt_cmpR op_isN (pv 5) pe_non (nomark _)) (pss_one (ps_raise rfl (takes_of rfl rfl rfl rfl) (pmk_oex T.ox iC tI FI (hr.mono (by decide)) bI .nil pass0 (by rfl) T.gS (pa_cons (pv 2) (pa_cons (pv 3) pa_nil))))) pss_nil)
      (pss_one (ps_ret (pe_ca C8 (hr.mono (by decide)) (by rfl) (pa_cons (pv 1) (pa_cons (pv 4) (pa_cons (pv 5) pa_nil))))))))), ?_⟩
    obtain ⟨dx, n, b, sp, h1, h2, h3, h4, hl, hnd, hl2, hns, hbs⟩ := id hL
    refine ⟨_, rfl, p, dx, _, rfl, h1, lf_no _ _ _ (by decide +kernel) (by decide +kernel) (by decide +kernel), _, rfl, p, ns, bs, i, hi, rfl, hL, fun H1 e1 => ?_⟩
    refine ⟨_, rfl, p, dx, _, rfl, e1 _ _ h1, lf_no _ _ _ (by decide +kernel) (by decide +kernel) (by decide +kernel), _, rfl, _, rfl, _, rfl, p, ns, bs, v, cs, word, i, hi, st, bd, rfl, hL.up e1, hv.up e1, hcs, hb, fun r H2 e2 hr2 => ?_⟩
    have e12 := e1.trans e2
    refine ⟨_, rfl, rfl, _, rfl, ?_⟩
    cases hbe : beh word st.1 st.2 bd with
    | none =>
      rw [hbe] at hr2
      have hr3 : Dq H2 r .none := hr2
      cases hr3
      refine iteT ?_
      refine ⟨_, rfl, _, rfl, by show 2 ≤ 1000; decide, fun ax hax => ?_⟩
      refine ⟨ax, .str word, .str ns[i], rfl, upd_same, fun dx' H3 hdx nda hk hA hD => ?_⟩
      rw [upd_ne nda] at hdx
      refine ⟨rfl, dx', _, hA, hD, hdx, q2 hbe dx' _ (fun b o z => ?_) upd_same⟩
      have z2 := e12 b o z
      have nb1 : b ≠ ax := fun y => by rw [y, hax] at z2; cases z2
      have nb2 : b ≠ dx' := fun y => by rw [y, hdx] at z2; cases z2
      rw [upd_ne nb2, del_ne nb1, hk b nb1 nb2, upd_ne nb1]
      exact z2
    | some s' =>
      rw [hbe] at hr2
      obtain ⟨a', rfl, _⟩ := st_inv (show Dq H2 r (stD s'.1 s'.2) from hr2)
      refine iteF ?_
      obtain ⟨a, xs, rfl, ha, hxs, hxl⟩ := ct_inv hv
      have hi2 : i < cs.length := (List.getElem?_eq_some_iff.mp hcs).1
      refine ⟨_, rfl, _, rfl, _, rfl, a, xs, i, _, rfl, e12 _ _ ha, by omega, by omega, fun p' H3 e3 h3 => ?_⟩
      refine q1 s' hbe _ _ (e12.trans e3) (.tup h3 ?_)
      have z := DqAll_set (DqAll.up (e12.trans e3) hxs) i (.ref a') (stD s'.1 s'.2) (Dq.up e3 hr2)
      unfold ctL at z ⊢
      rw [List.map_set]
      exact z
end
end K17

set_option Elab.async false
set_option linter.all false
set_option maxRecDepth 100000
set_option maxHeartbeats 4000000
namespace K17
open PySem PySem.Spec PyProof.Rows L2 Ol
open TL (tl)
section
variable {P : Program} {w : World} {K : PySem.W.Frag} {mg : Str → Option Value} {base : Heap} {C S : Addr}
def triedD (word lane : Str) (cs : List (Nat × Bool)) (i : Nat) : Option (Nat × Bool) → PyData
  | some s => .tuple [.bool true, ctD (cs.set i s)]
  | none => .tuple [.bool false, .tuple [.str word, .str lane]]
def spTried (C : Addr) : Sp := fun vs H Q _ => ∃ (p : Addr) (ns : List Str) (bs : List Int) (v : V) (cs : List (Nat × Bool)) (word : Str) (i : Nat) (hi : i < ns.length) (st : Nat × Bool) (bd : Int), vs = [.ref p, v, .str word, .str ns[i]] ∧ LanesAt C H p ns bs ∧ Dq H v (ctD cs) ∧
  cs[i]? = some st ∧ bs[i]? = some bd ∧ cs.length ≤ 1000 ∧ ∀ (r : V) (H' : Hp), Ext H H' → Dq H' r (triedD word ns[i] cs i (beh word st.1 st.2 bd)) → Q r H'
abbrev s_tried : Stmt := (topS 29)
theorem sc_tried : FnScope ["_law_lanes", "_law_content", "_law_word", "_law_lane", "e"] ["_law_lanes", "_law_content", "_law_word", "_law_lane"] (defScope s_tried) := ⟨rfl, rfl, rfl, by decide +kernel, rfl, by decide +kernel, by decide +kernel⟩
theorem sh_w (x y : V) : (sh2 x y).lookup ("word" : Str) = some x := by
  unfold sh2
  rw [List.lookup_cons, beq_eq_false_iff_ne.mpr (by decide +kernel)]
  dsimp only
  rw [List.lookup_cons_self]
theorem sh_l (x y : V) : (sh2 x y).lookup ("lane" : Str) = some y := by
  unfold sh2
  rw [List.lookup_cons_self]
theorem ok_tried {f : Addr} {fd : FuncData} (F : Fun K "_law_tried" "_law_tried" s_tried f fd) (L : LT K mg C) (T : ST K mg S)
    (MD : CmX P w K mg base C 4 "done" ["self", "content", "word", "lane"] (spDone C S)) :
    FnOk P w K mg base CX0 5 f fd ["_law_lanes", "_law_content", "_law_word", "_law_lane"] (spTried C) := by
  refine F.ok sc_tried (fun vs H Q E h => ?_) (fun cdv A outer s H vs Q E hr h => ?_)
  · obtain ⟨p, ns, bs, v, cs, word, i, hi, st, bd, rfl, _⟩ := h
    rfl
  · obtain ⟨p, ns, bs, v, cs, word, i, hi, st, bd, rfl, hL, hv, hcs, hb, hz, q⟩ := h
    refine ⟨_, (pss_one (ps_try_as (i := 4) (tb := fun W => tRet (tTup (tCons (tC (.bl true)) (tCons (tMethX C "done" (spDone C S) (WE W) (tVar 0) (tCons (tVar 1) (tCons (tVar 2) (tCons (tVar 3) tNil)))) tNil))))
        (ts := fun a cls d => tRet (tTup (tCons (tC (.bl false)) (tCons (tTup (tCons (tXf a cls d S "word" (tVar 4)) (tCons (tXf a cls d S "lane" (tVar 4)) tNil))) tNil)))) (Wout := fun _ _ _ _ => False) rfl rfl sc_tried.nd rfl rfl ⟨rfl, by decide, Or.inl T.gS⟩ takes0
      (fun W pn xe tk _ => pss_one (ps_ret (pe_tup (pa_cons pe_bl (pa_cons (by exact (pe_cmX MD L.cl (hr.mono (by decide)) (fun σ => passAt tk σ) (pv 0) (pa_cons (pv 1) (pa_cons (pv 2) (pa_cons (pv 3) pa_nil))))) pa_nil)))))
      (fun a oe cls d pn hz hf => pss_one (ps_ret (pe_tup (pa_cons pe_bl (pa_cons (pe_tup (pa_cons (by exact (pe_xf T.xf T.nW hz hf (pv 4))) (pa_cons (by exact (pe_xf T.xf T.nL hz hf (pv 4))) pa_nil))) pa_nil))))))), ?_⟩
    obtain ⟨dx, n, b, sp, h1, h2, h3, h4, hl, hnd, hl2, hns, hbs⟩ := id hL
    refine ⟨_, rfl, p, dx, _, rfl, h1, lf_no _ _ _ (by decide +kernel) (by decide +kernel) (by decide +kernel), _, rfl, _, rfl, _, rfl, p, ns, bs, v, cs, word, i, hi, st, bd, rfl, hL, hv, hcs, hb, hz, ?_, ?_⟩
    · intro s' hs r H1 e1 hr1
      refine ⟨by show 2 ≤ sizeLine; decide, fun t ht => ?_⟩
      have e2 := Ext.new (o := .tup [.bl true, r]) ht
      refine q _ _ (e1.trans e2) ?_
      rw [hs]
      exact .tup upd_same (.cons (.bl _) (.cons (hr1.up e2) .nil))
    · intro hs d H1 e1 hd
      refine ⟨true, T.te, fun _ a ha => ?_, fun z => Bool.noConfusion z⟩
      refine ⟨_, rfl, rfl, rfl, d, _, _, rfl, hd, sh_w _ _, _, rfl, rfl, rfl, d, _, _, rfl, hd, sh_l _ _, by show 2 ≤ sizeLine; decide, fun t ht => ⟨by show 2 ≤ sizeLine; decide, fun t2 ht2 => ?_⟩⟩
      have e2 := Ext.new (o := .tup [.str word, .str ns[i]]) ht
      have e3 := Ext.new (o := .tup [.bl false, .ref t]) ht2
      refine q _ _ ((e1.trans e2).trans e3) ?_
      rw [hs]
      exact .tup upd_same (.cons (.bl _) (.cons (.tup (e3 _ _ upd_same) (.cons (.str _) (.cons (.str _) .nil))) .nil))
end
end K17

set_option Elab.async false
set_option linter.all false
set_option maxRecDepth 100000
set_option maxHeartbeats 4000000
namespace K17
open PySem PySem.Spec PyProof.Rows L2 Ol RZ
open TL (tl)
section
variable {P : Program} {w : World} {K : PySem.W.Frag} {mg : Str → Option Value} {base : Heap} {C S : Addr}
/-! ### is_content -/
structure OkCt (cs : List (Nat × Bool)) (bs : List Int) : Prop where
  len : cs.length = bs.length
  le : ∀ (i : Nat) (s : Nat × Bool) (bd : Int), cs[i]? = some s → bs[i]? = some bd → (s.1 : Int) ≤ bd
def spIsCt (C : Addr) : Sp := fun vs H Q _ => ∃ (p : Addr) (ns : List Str) (bs : List Int) (v : V) (cs : List (Nat × Bool)), vs = [.ref p, v] ∧ LanesAt C H p ns bs ∧ Dq H v (ctD cs) ∧ OkCt cs bs ∧
  ∀ H', Ext H H' → Q (.bl true) H'
theorem sc_isCt : FnScope ["self", "thing", "state", "bound"] ["self", "thing"] (defScope (cL 10)) := ⟨rfl, rfl, rfl, by decide +kernel, rfl, by decide +kernel, by decide +kernel⟩
theorem ok_isCt {f : Addr} {fd : FuncData} (F : Fun K "is_content" "Lanes.is_content" (cL 10) f fd) (T : BT mg) (L : LT K mg C)
    (C6 : Ca P w K mg base 3 "is_state" ["thing", "bound"] spIsState) :
    FnOk P w K mg base CX0 4 f fd ["self", "thing"] (spIsCt C) := by
  refine F.ok sc_isCt (fun vs H Q E h => ?_) (fun cdv A outer s H vs Q E hr h => ?_)
  · obtain ⟨p, ns, bs, v, cs, rfl, _⟩ := h
    rfl
  · obtain ⟨p, ns, bs, v, cs, rfl, hL, hv, hc, q⟩ := h
    refine ⟨_, (pss_cons (ps_if (PW.pt (pw_or (pt_not (pt_val (pe_callB call_isi (by rfl) T.n_isinstance (by decide +kernel) (pa_cons (pv 1) (pa_cons (pe_bltn (v := .ty "tuple") (by rfl) T.n_tuple (by decide +kernel) rfl) pa_nil))))) (pw_or1 (pt_cmpR op_ne (pe_callB call_len_seq (by rfl) T.n_len (by decide +kernel) (pa_cons (pv 1) pa_nil)) (pe_callB call_len_seq (by rfl) T.n_len (by decide +kernel) (pa_cons (pe_fld (pv 0) rfl) pa_nil)) (nomark _)))))
      (pss_one (ps_ret pe_bl))
      pss_nil)
    (pss_one (ps_ret (pe_callB (cr_all rfl) (by rfl) T.n_all (by decide +kernel) (pa_cons (pe_lc (own := [("state", 2), ("bound", 3)]) (g := gTup K 2 (gCons (gName 2) (gCons (gName 3) gNil))) (tt := tYes) rfl sc_isCt.nd (pi_zipA (by rfl) L.n_zip (pa_cons (pv 1) (pa_cons (pe_fld (pv 0) rfl) pa_nil))) (blkOk_by (N := ["self", "thing", "state", "bound"]) (sc := defScope (cL 10)) (by decide +kernel)) (fun _ _ _ _ _ => (pg_tup (by rfl) (pgs_cons (pg_name (i := 2) sc_isCt.nd rfl (.inl rfl)) (pgs_cons (pg_name (i := 3) sc_isCt.nd rfl (.inl rfl)) pgs_nil)))) (fun _ _ _ _ _ => pts_nil) (fun _ _ _ _ _ => (pe_ca C6 (hr.mono (by decide)) (by rfl) (pa_cons (pv 2) (pa_cons (pv 3) pa_nil))))) pa_nil))))), ?_⟩
    obtain ⟨a, xs, rfl, ha, hxs, hxl⟩ := ct_inv hv
    obtain ⟨dx, n, b, sp, h1, h2, h3, h4, hl, hnd, hl2, hns, hbs⟩ := id hL
    have bl : (bs.map V.int).length = bs.length := List.length_map ..
    have eq1 : xs.length = (bs.map V.int).length := by rw [bl, hxl, hc.len]
    refine ⟨_, rfl, _, _, _, _, _, rfl, .ty "tuple", ty_of hv, ki_tuple (ctD cs), _, rfl, ?_⟩
    refine iteF ?_
    refine ⟨_, rfl, a, _, rfl, .inr (SqT.of ha), _, rfl, p, C, dx, _, _, rfl, h1, L.cl, L.nB, lf_b _ _ _, b, _, rfl, .inr (SqT.of h3), rfl, _, rfl, ?_⟩
    rw [eq1]
    refine ite2 (fun g => absurd g (by simp)) (fun _ => ?_)
    refine ⟨_, rfl, _, rfl, p, C, dx, _, _, rfl, h1, L.cl, L.nB, lf_b _ _ _, a, b, xs, _, rfl, .inr ⟨SqT.of ha, SqT.of h3, fun D hD => ?_⟩⟩
    refine lc1_acc (walk_zipT (n := bs.length) (by rw [eq1, bl, Nat.min_self])) (fun i ys _ => ys = List.replicate i (V.bl true) ∧ i ≤ 1000) (fun _ _ _ _ _ h => h) ⟨rfl, by decide⟩ hD (fun i ys _ h => by rw [h.1, List.length_replicate]; exact Nat.lt_of_le_of_lt h.2 (by decide)) (fun H' e => ⟨SqT.of (e _ _ ha), SqT.of (e _ _ h3)⟩) ?_ ?_
    · rintro i x Hi H' ys hi e hy ⟨T', y1, y2, rfl, hT, rfl, g1, g2⟩ ⟨hp, _⟩ QY QN kY kN
      have hi2 : i < cs.length := by rw [hc.len]; exact hi
      dsimp only at g1 g2
      rw [List.getElem?_map, List.getElem?_eq_getElem hi] at g2
      cases g2
      obtain ⟨u, hu, du⟩ := DqAll_get hxs i (stD cs[i].1 cs[i].2) (by unfold ctL; rw [List.getElem?_map, List.getElem?_eq_getElem hi2]; rfl)
      rw [hu] at g1
      obtain rfl : u = y1 := Option.some.inj g1
      have eT := Ext.new (o := .tup [u, .int bs[i]]) hT
      refine ⟨T', _, rfl, SqT.of upd_same, rfl, _, _, rfl, _, _, rfl, rfl, rfl, ?_⟩
      refine tyes ?_
      refine ⟨_, rfl, _, rfl, u, cs[i].1, cs[i].2, bs[i], rfl, du.up (e.trans eT), hc.le i _ _ (List.getElem?_eq_getElem hi2) (List.getElem?_eq_getElem hi), fun H4 e4 => ?_⟩
      exact kY _ H4 (eT.trans e4) ⟨by rw [hp, List.replicate_succ'], by omega⟩
    · rintro H4 ys e4 hy ⟨hp, _⟩
      refine ⟨D, List.replicate bs.length true, rfl, SqL.of (by rw [hy, hp, List.map_replicate]), ?_⟩
      rw [show (List.replicate bs.length true).all id = true by simp]
      exact q _ e4
end
end K17

set_option Elab.async false
set_option linter.all false
set_option maxRecDepth 100000
set_option maxHeartbeats 4000000
namespace K17
open PySem PySem.Spec PyProof.Rows L2 Ol RZ
open TL (tl)
section
variable {P : Program} {w : World} {K : PySem.W.Frag} {mg : Str → Option Value} {base : Heap} {C S : Addr}
/-! ### contents -/
def two (c : Nat) : List (Nat × Bool) := [(c, false), (c, true)]
def stsN (m : Nat) : List (Nat × Bool) := (List.range m).flatMap two
def sts (bd : Int) : List (Nat × Bool) := stsN (bd + 1).toNat
theorem stsN_len (m : Nat) : (stsN m).length = 2 * m := by
  unfold stsN
  induction m with
  | zero => rfl
  | succ m ih => rw [List.range_succ, List.flatMap_append, List.length_append, ih]; simp [two]; omega
theorem stsN_succ (m : Nat) : stsN (m + 1) = stsN m ++ two m := by
  unfold stsN
  rw [List.range_succ, List.flatMap_append]
  simp
def stL (ss : List (Nat × Bool)) : List PyData := ss.map fun s => stD s.1 s.2
theorem DqAll_snoc {H : Hp} : ∀ {xs : List V} {ds : List PyData} {v : V} {d : PyData}, DqAll H xs ds → Dq H v d → DqAll H (xs ++ [v]) (ds ++ [d])
  | _, _, _, _, .nil, h => .cons h .nil
  | _, _, _, _, .cons a t, h => .cons a (DqAll_snoc t h)
/-- the first i of one list, each with all of another one, then j with the next one -/
def pre (f : List (List (Nat × Bool))) (ss : List (Nat × Bool)) (i j : Nat) : List (List (Nat × Bool)) :=
  ((f.take i).flatMap fun c => ss.map fun s => c ++ [s]) ++ ((f[i]?.map fun c => (ss.take j).map fun s => c ++ [s]).getD [])
def grow (f : List (List (Nat × Bool))) (bd : Int) : List (List (Nat × Bool)) := f.flatMap fun c => (sts bd).map fun s => c ++ [s]
theorem pre_zero (f : List (List (Nat × Bool))) (ss : List (Nat × Bool)) (i : Nat) : pre f ss i 0 = (f.take i).flatMap fun c => ss.map fun s => c ++ [s] := by
  unfold pre
  cases f[i]? <;> simp
theorem pre_step (f : List (List (Nat × Bool))) (ss : List (Nat × Bool)) (i j : Nat) (hi : i < f.length) (hj : j < ss.length) : pre f ss i (j + 1) = pre f ss i j ++ [f[i] ++ [ss[j]]] := by
  have h2 : ss.take (j + 1) = ss.take j ++ [ss[j]] := by
    rw [List.take_add_one, List.getElem?_eq_getElem hj]
    rfl
  unfold pre
  rw [List.getElem?_eq_getElem hi, h2, List.append_assoc]
  congr 1
  show (ss.take j ++ [ss[j]]).map _ = (ss.take j).map _ ++ _
  rw [List.map_append]
  rfl
theorem pre_end (f : List (List (Nat × Bool))) (ss : List (Nat × Bool)) (i : Nat) (hi : i < f.length) : pre f ss i ss.length = pre f ss (i + 1) 0 := by
  have h1 : pre f ss i ss.length = ((f.take i).flatMap fun c => ss.map fun s => c ++ [s]) ++ ss.map fun s => f[i] ++ [s] := by
    unfold pre
    rw [List.getElem?_eq_getElem hi, List.take_length]
    rfl
  have h2 : f.take (i + 1) = f.take i ++ [f[i]] := by
    rw [List.take_add_one, List.getElem?_eq_getElem hi]
    rfl
  rw [pre_zero, h2, List.flatMap_append, h1, List.flatMap_cons, List.flatMap_nil, List.append_nil]
theorem pre_all (f : List (List (Nat × Bool))) (bd : Int) : pre f (sts bd) f.length 0 = grow f bd := by
  rw [pre_zero, List.take_length]
  rfl
def allCt (bs : List Int) : List (List (Nat × Bool)) := bs.foldl grow [[]]
def spCts (C : Addr) : Sp := fun vs H Q _ => ∃ (p : Addr) (ns : List Str) (bs : List Int), vs = [.ref p] ∧ LanesAt C H p ns bs ∧ bs.length ≤ 3 ∧ (∀ b ∈ bs, b ≤ 3) ∧
  ∀ (r : V) (H' : Hp), Ext H H' → Dq H' r (.list ((allCt bs).map ctD)) → Q r H'
theorem grow_len (f : List (List (Nat × Bool))) (bd : Int) : (grow f bd).length = f.length * (2 * (bd + 1).toNat) := by
  unfold grow
  induction f with
  | nil => simp
  | cons c f ih => rw [List.flatMap_cons, List.length_append, ih, List.length_map]; unfold sts; rw [stsN_len, List.length_cons]; generalize 2 * (bd + 1).toNat = z; rw [Nat.succ_mul, Nat.add_comm]
theorem lst_inv {H : Hp} {v : V} {ds : List PyData} (h : Dq H v (.list ds)) : ∃ a xs, v = .ref a ∧ H a = some (.lst xs) ∧ DqAll H xs ds := by
  generalize e : PyData.list ds = d at h
  cases h with
  | lst h t =>
    cases e
    exact ⟨_, _, rfl, h, t⟩
  | _ => cases e
theorem stL_app (a b : List (Nat × Bool)) : stL (a ++ b) = stL a ++ stL b := List.map_append ..
theorem allCt_snoc (bs : List Int) (b : Int) : allCt (bs ++ [b]) = grow (allCt bs) b := by
  unfold allCt
  rw [List.foldl_append]
  rfl
theorem ctL_app (a : List (Nat × Bool)) (s : Nat × Bool) : ctL (a ++ [s]) = ctL a ++ [stD s.1 s.2] := List.map_append ..
theorem grow_mem {f : List (List (Nat × Bool))} {bd : Int} {c : List (Nat × Bool)} : c ∈ grow f bd ↔ ∃ c0 ∈ f, ∃ s ∈ sts bd, c = c0 ++ [s] := by
  unfold grow
  rw [List.mem_flatMap]
  constructor
  · rintro ⟨c0, h0, h⟩
    obtain ⟨s, hs, rfl⟩ := List.mem_map.mp h
    exact ⟨c0, h0, s, hs, rfl⟩
  · rintro ⟨c0, h0, s, hs, rfl⟩
    exact ⟨c0, h0, List.mem_map.mpr ⟨s, hs, rfl⟩⟩
theorem fold_len : ∀ (bs : List Int) (f : List (List (Nat × Bool))) (n : Nat), (∀ c ∈ f, c.length = n) → ∀ c ∈ bs.foldl grow f, c.length = n + bs.length
  | [], f, n, h, c, hc => h c hc
  | b :: bs, f, n, h, c, hc => by
    have := fold_len bs (grow f b) (n + 1) (fun c hc => by
      obtain ⟨c0, h0, s, hs, rfl⟩ := grow_mem.mp hc
      rw [List.length_append, h c0 h0]
      rfl) c hc
    rw [this, List.length_cons]
    omega
theorem allCt_len (bs : List Int) : ∀ c ∈ allCt bs, c.length = bs.length := fun c hc => by
  have := fold_len bs [[]] 0 (fun c hc => by rw [List.mem_singleton.mp hc]; rfl) c hc
  omega
theorem sc_cts : FnScope ["self", "found", "bound", "states", "count", "closed", "content", "state"] ["self"] (defScope (cL 11)) := ⟨rfl, rfl, rfl, by decide +kernel, rfl, by decide +kernel, by decide +kernel⟩
theorem ok_cts {f : Addr} {fd : FuncData} (F : Fun K "contents" "Lanes.contents" (cL 11) f fd) (T : BT mg) (L : LT K mg C) :
    FnOk P w K mg base CX0 1 f fd ["self"] (spCts C) := by
  refine F.ok sc_cts (fun vs H Q E h => ?_) (fun cdv A outer s H vs Q E hr h => ?_)
  · obtain ⟨p, ns, bs, rfl, _⟩ := h
    rfl
  · obtain ⟨p, ns, bs, rfl, hL, hb3, hb, q⟩ := h
    refine ⟨_, (pss_cons (ps_set (i := 1) sc_cts.nd rfl (.inl rfl) (pe_lst (pa_cons (pe_tup pa_nil) pa_nil)))
      (pss_cons (ps_for PassesOwn.never rfl (pi_tup (pe_fld (pv 0) rfl)) (pg_name (i := 2) sc_cts.nd rfl (.inl rfl))
        (pss_cons (ps_set (i := 3) sc_cts.nd rfl (.inr rfl) (pe_lc2 (own := [("count", 4), ("closed", 5)]) (vs1 := [5]) (wi1 := iTup K (tTup (tCons (tC (.bl false)) (tCons (tC (.bl true)) tNil)))) (g := gName 4) (g1 := gName 5) (tt := tYes) (tt1 := tYes) rfl sc_cts.nd (pi_range1 (by rfl) T.n_range (pa_cons (pe_op op_add (pv 2) pe_int) pa_nil)) (blkOk_by (N := ["self", "found", "bound", "states", "count", "closed", "content", "state"]) (sc := defScope (cL 11)) (by decide +kernel)) (by decide) (fun _ _ _ _ _ => pg_name (i := 4) sc_cts.nd rfl (.inl rfl)) (fun _ _ _ _ _ => pts_nil)
            (fun _ _ _ _ _ => pi_tup (pe_tup (pa_cons pe_bl (pa_cons pe_bl pa_nil)))) (fun _ _ _ _ _ => pg_name (i := 5) sc_cts.nd rfl (.inl rfl)) (fun _ _ _ _ _ => pts_nil) (fun _ _ _ _ _ => pe_tup (pa_cons (pv 4) (pa_cons (pv 5) pa_nil)))))
        (pss_one (ps_setLc2 (i := 1) (own := [("content", 6), ("state", 7)]) (vs1 := [7]) (wi1 := iList K (tVar 3)) (te := tOp (rCatA K) (tVar 6) (tTup (tCons (tVar 7) tNil))) (g := gName 6) (g1 := gName 7) (tt := tYes) (tt1 := tYes) rfl sc_cts.nd rfl rfl (sw_true rfl rfl rfl (by decide +kernel)) (pi_list (pv 1)) (blkOk_by (N := ["self", "found", "bound", "states", "count", "closed", "content", "state"]) (sc := defScope (cL 11)) (by decide +kernel)) (by decide) (fun _ _ _ _ _ => pg_name (i := 6) sc_cts.nd rfl (.inl rfl)) (fun _ _ _ _ _ => pts_nil)
            (fun _ _ _ _ _ => pi_list (pv 3)) (fun _ _ _ _ _ => pg_name (i := 7) sc_cts.nd rfl (.inl rfl)) (fun _ _ _ _ _ => pts_nil) (fun _ _ _ _ _ => pe_op op_catA (pv 6) (pe_tup (pa_cons (pv 7) pa_nil)))))))
      (pss_one (ps_ret (pv 1))))), ?_⟩
    refine ⟨by show 0 ≤ sizeLine; decide, fun t0 ht0 => ⟨by show 1 ≤ sizeLine; decide, fun l0 hl0 => ?_⟩⟩
    have e1 := Ext.new (o := .tup []) ht0
    have e2 := Ext.new (o := .lst [.ref t0]) hl0
    have e12 := e1.trans e2
    obtain ⟨dx, n, b, sp, h1, h2, h3, h4, hlen, hnd, hl2, hns, hbs⟩ := id hL
    have ml : (bs.map V.int).length = bs.length := List.length_map ..
    refine ⟨_, rfl, p, C, dx, _, _, rfl, e12 _ _ h1, L.cl, L.nB, lf_b _ _ _, b, rfl, ⟨_, SqT.of (e12 _ _ h3)⟩, ?_⟩
    refine for_tup (xs := bs.map V.int) (fun i σ H' => ∃ v s2 s3, σ = [some (.ref p), some v, s2, s3, none, none, none, none] ∧ Ext H H' ∧ Dq H' v (.list ((allCt (bs.take i)).map ctD)) ∧ (allCt (bs.take i)).length ≤ 8 ^ i)
      ⟨.ref l0, none, none, rfl, e12, .lst upd_same (.cons (.tup (e2 _ _ upd_same) .nil) .nil), by show 1 ≤ 8 ^ 0; decide⟩ (fun i σ H' _ ⟨_, _, _, _, e, _⟩ => SqT.of (e _ _ h3)) ?_ ?_
    · rintro i x σ H1 hx ⟨v, s2, s3, rfl, e, hv, hf8⟩
      have hi : i < bs.length := by have := (List.getElem?_eq_some_iff.mp hx).1; rw [ml] at this; exact this
      rw [List.getElem?_map, List.getElem?_eq_getElem hi] at hx
      cases hx
      have hbi := hb _ (List.getElem_mem hi)
      have hbi1 := hbs _ (List.getElem_mem hi)
      have hi3 : i ≤ 2 := by omega
      have hf64 : (allCt (bs.take i)).length ≤ 64 := Nat.le_trans hf8 (Nat.le_trans (Nat.pow_le_pow_right (by decide) hi3) (by decide))
      have ebt : bs.take (i + 1) = bs.take i ++ [bs[i]] := by rw [List.take_add_one, List.getElem?_eq_getElem hi]; rfl
      have hfl3 : ∀ c ∈ allCt (bs.take i), c.length ≤ 3 := fun c hc => by rw [allCt_len _ c hc, List.length_take]; omega
      generalize hfe : allCt (bs.take i) = f at *
      generalize hbe : bs[i] = bd at *
      refine ⟨_, rfl, _, _, rfl, rfl, _, rfl, by omega, by omega, fun D hD => ?_⟩
      refine lc2_acc walk_range (fun i j xs Hz => DqAll Hz xs (stL (stsN i ++ (two i).take j)) ∧ xs.length ≤ 2 * i + j ∧ i ≤ 4 ∧ j ≤ 2) (fun _ _ _ _ _ e h => ⟨DqAll.up e h.1, h.2⟩) ⟨.nil, by simp, by decide, by decide⟩ hD
        (fun i j xs Hz h => Nat.lt_of_le_of_lt (show xs.length ≤ 10 by have := h.2; omega) (by decide)) (fun _ _ => trivial) ?_ ?_
      · rintro k y Hi H' ys hk ei hy ⟨rfl, rfl⟩ ⟨hp, hpl, hp4, hp2⟩ R kR
        refine ⟨rfl, ?_⟩
        refine ⟨by show 2 ≤ sizeLine; decide, fun t ht => ⟨t, rfl, ⟨_, SqT.of upd_same⟩, kR _ _ _ ⟨Ext.new ht, 2, _, _, walk_tup (xs := [.bl false, .bl true]), fun Hz ez => SqT.of (ez _ _ (del_at ht hy upd_same)), ?_, ?_⟩⟩⟩
        · rintro ys' Hz ⟨q1, q2, q3, q4⟩
          refine ⟨?_, by omega, by omega, by omega⟩
          rw [stsN_succ]
          simpa [two] using q1
        · rintro j y' Ha Hb ys' hj ea hya ⟨rfl, hyj⟩ ⟨q1, q2, q3, q4⟩ QY QN kY kN
          have hbl : ∃ bb, y' = .bl bb ∧ (two k)[j]? = some (k, bb) := by
            have : j = 0 ∨ j = 1 := by omega
            rcases this with rfl | rfl
            · cases hyj; exact ⟨_, rfl, rfl⟩
            · cases hyj; exact ⟨_, rfl, rfl⟩
          obtain ⟨bb, rfl, hbb⟩ := hbl
          refine ⟨rfl, ?_⟩
          refine tyes ?_
          refine ⟨_, rfl, _, rfl, by show 2 ≤ sizeLine; decide, fun p2 hp2 => ?_⟩
          have en := Ext.new (o := .tup [.int (0 + (k : Int)), .bl bb]) hp2
          refine kY (.ref p2) _ en ⟨?_, by rw [List.length_append]; simp; omega, q3, by omega⟩
          have z : (two k).take (j + 1) = (two k).take j ++ [(k, bb)] := by rw [List.take_add_one, hbb]; rfl
          rw [z, ← List.append_assoc, stL_app]
          refine DqAll_snoc (DqAll.up (ext_del en) q1) ?_
          show Dq _ _ (stD k bb)
          unfold stD
          rw [show ((k : Nat) : Int) = 0 + (k : Int) by omega]
          exact .tup (del_at hp2 hya upd_same) (.cons (.int _) (.cons (.bl _) .nil))
      · rintro H4 ss0 e4 hss ⟨hp, hpl, _, _⟩
        have hsts : DqAll H4 ss0 (stL (sts bd)) := by
          unfold sts
          simpa using hp
        have hssl : (sts bd).length ≤ 8 := by unfold sts; rw [stsN_len]; omega
        have hfin : allCt (bs.take (i + 1)) = pre f (sts bd) f.length 0 := by rw [ebt, allCt_snoc, hfe, pre_all]
        have hfl : (allCt (bs.take (i + 1))).length ≤ 8 ^ (i + 1) := by
          rw [ebt, allCt_snoc, hfe, grow_len, Nat.pow_succ]
          have : 2 * (bd + 1).toNat ≤ 8 := by omega
          exact Nat.mul_le_mul hf8 this
        rw [hfin] at hfl ⊢
        generalize sts bd = ss at hsts hssl hfl ⊢
        obtain ⟨f0, xs0, rfl, hf0, hxs0⟩ := lst_inv hv
        have hf04 := e4 _ _ hf0
        have hxf : xs0.length = f.length := by rw [hxs0.len, List.length_map]
        have hsl : ss0.length = ss.length := by rw [hsts.len]; unfold stL; rw [List.length_map]
        refine ⟨_, rfl, f0, rfl, ⟨_, SqL.of hf04⟩, fun D2 hD2 => ?_⟩
        refine lc2_acc (walk_list (xs := xs0)) (fun i j xs Hz => DqAll Hz xs ((pre f ss i j).map ctD) ∧ xs.length ≤ 9 * i + j ∧ i ≤ 64 ∧ j ≤ 8) (fun _ _ _ _ _ e h => ⟨DqAll.up e h.1, h.2⟩) ⟨by rw [pre_zero]; exact .nil, by simp, by decide, by decide⟩ hD2
          (fun i j xs Hz h => Nat.lt_of_le_of_lt (show xs.length ≤ 600 by have := h.2; omega) (by decide)) (fun Hz ez => SqL.of (ez _ _ hf04)) ?_ ?_
        · rintro k y Hi H' ys hk ei hy ⟨rfl, hyk⟩ ⟨hp, hpl, hp4, hp2⟩ R kR
          rw [hxf] at hk
          obtain ⟨u, hu, du⟩ := DqAll_get hxs0 k (ctD f[k]) (by rw [List.getElem?_map, List.getElem?_eq_getElem hk]; rfl)
          rw [hu] at hyk
          obtain rfl : u = y := Option.some.inj hyk
          have du4 := du.up e4
          have e4d : Ext H4 (del H' D2) := ext_to ei hD2
          refine ⟨rfl, ?_⟩
          refine ⟨_, rfl, D, rfl, ⟨_, SqL.of (ei _ _ hss)⟩, kR _ _ _ ⟨Ext.refl _, ss0.length, _, _, walk_list (xs := ss0), fun Hz ez => SqL.of (ez _ _ (e4d _ _ hss)), ?_, ?_⟩⟩
          · rintro ys' Hz ⟨q1, q2, q3, q4⟩
            refine ⟨?_, by omega, by omega, by omega⟩
            rw [← pre_end f ss k hk, ← hsl]
            exact q1
          · rintro j y' Ha Hb ys' hj ea hya ⟨rfl, hyj⟩ ⟨q1, q2, q3, q4⟩ QY QN kY kN
            rw [hsl] at hj
            obtain ⟨sv, hsv, dsv⟩ := DqAll_get hsts j (stD ss[j].1 ss[j].2) (by unfold stL; rw [List.getElem?_map, List.getElem?_eq_getElem hj]; rfl)
            rw [hsv] at hyj
            obtain rfl : sv = y' := Option.some.inj hyj
            have e4a : Ext H4 Hb := e4d.trans ea
            obtain ⟨ac, xc, rfl, hac, hxc, hxcl⟩ := ct_inv du4
            refine ⟨rfl, ?_⟩
            refine tyes ?_
            refine ⟨_, rfl, _, rfl, by show 1 ≤ sizeLine; decide, fun p1 hp1 => ?_⟩
            have en := Ext.new (o := .tup [sv]) hp1
            refine cat_any (en _ _ (e4a _ _ hac)) upd_same ?_ fun p3 H3 e3 h3 => ?_
            · rw [hxcl]
              exact Nat.le_trans (Nat.succ_le_succ (hfl3 _ (List.getElem_mem hk))) (by decide)
            · have eb3 := en.trans e3
              have hD3 := eb3 _ _ hya
              have n3 : p3 ≠ D2 := fun z => by rw [z, hD3] at h3; cases h3
              have e43 : Ext H4 (del H3 D2) := ext_to (e4a.trans eb3) hD2
              refine kY (.ref p3) _ eb3 ⟨?_, by rw [List.length_append]; simp; omega, q3, by omega⟩
              rw [pre_step f ss k j hk hj, List.map_append]
              refine DqAll_snoc (DqAll.up (ext_del eb3) q1) (.tup (by rw [del_ne n3]; exact h3) ?_)
              rw [ctL_app]
              exact DqAll_snoc (DqAll.up e43 hxc) (dsv.up e43)
        · rintro H5 xs5 e5 hx5 ⟨hp, _, _, _⟩
          rw [hxf] at hp
          exact ⟨.ref D2, some (.int bd), some (.ref D), rfl, e.trans (e4.trans e5), .lst hx5 hp, hfl⟩
    · rintro σ H' ⟨v, s2, s3, rfl, e, hv, _⟩
      rw [ml, List.take_length] at hv
      exact ⟨_, rfl, q _ _ e hv⟩
end
end K17

set_option Elab.async false
set_option linter.all false
set_option maxRecDepth 100000
set_option maxHeartbeats 4000000
namespace K17
open PySem PySem.Spec PyProof.Rows L2 Ol RZ
open TL (tl)
section
variable {P : Program} {w : World} {K : PySem.W.Frag} {mg : Str → Option Value} {base : Heap} {C S : Addr}
/-! ### shut -/
def words4 : List Str := ["close", "ended", "send", "take"]
def wordsV : List V := words4.map V.str
def rowD (p : Str → Str → Bool) (ns : List Str) (x : Str) : List PyData := (ns.filter (p x)).map fun y => .tuple [.str x, .str y]
/-- the first i words, each with all names, then j names with the next one -/
def prS (p : Str → Str → Bool) (ns : List Str) (i j : Nat) : List PyData :=
  ((words4.take i).flatMap (rowD p ns)) ++ ((words4[i]?.map (rowD p (ns.take j))).getD [])
theorem prS_zero (p : Str → Str → Bool) (ns : List Str) (i : Nat) : prS p ns i 0 = (words4.take i).flatMap (rowD p ns) := by
  unfold prS
  cases words4[i]? with
  | none => simp
  | some x => simp [rowD]
theorem prS_step (p : Str → Str → Bool) (ns : List Str) (i j : Nat) (hi : i < words4.length) (hj : j < ns.length) :
    prS p ns i (j + 1) = prS p ns i j ++ (if p words4[i] ns[j] = true then [.tuple [.str words4[i], .str ns[j]]] else []) := by
  have h2 : ns.take (j + 1) = ns.take j ++ [ns[j]] := by
    rw [List.take_add_one, List.getElem?_eq_getElem hj]
    rfl
  unfold prS
  rw [List.getElem?_eq_getElem hi, h2, List.append_assoc]
  congr 1
  show rowD p (ns.take j ++ [ns[j]]) words4[i] = rowD p (ns.take j) words4[i] ++ _
  unfold rowD
  rw [List.filter_append, List.map_append]
  congr 1
  by_cases c : p words4[i] ns[j] = true
  · rw [if_pos c, List.filter_cons, if_pos c]
    rfl
  · rw [if_neg c, List.filter_cons, if_neg c]
    rfl
theorem prS_end (p : Str → Str → Bool) (ns : List Str) (i : Nat) (hi : i < words4.length) : prS p ns i ns.length = prS p ns (i + 1) 0 := by
  have h2 : words4.take (i + 1) = words4.take i ++ [words4[i]] := by
    rw [List.take_add_one, List.getElem?_eq_getElem hi]
    rfl
  rw [prS_zero, h2, List.flatMap_append, List.flatMap_cons, List.flatMap_nil, List.append_nil]
  unfold prS
  rw [List.getElem?_eq_getElem hi, List.take_length]
  rfl
def shutP (st : Str → Nat × Bool) (bd : Str → Int) (x y : Str) : Bool := !(beh x (st y).1 (st y).2 (bd y)).isSome
def shutD (ns : List Str) (st : Str → Nat × Bool) (bd : Str → Int) : PyData := .list (words4.flatMap (rowD (shutP st bd) ns))
def spShut (C : Addr) : Sp := fun vs H Q _ => ∃ (p : Addr) (ns : List Str) (st : Str → Nat × Bool) (bd : Str → Int) (v : V), vs = [.ref p, v] ∧ LanesAt C H p ns (ns.map bd) ∧ Dq H v (ctD (ns.map st)) ∧ ns.length ≤ 3 ∧
  ∀ (r : V) (H' : Hp), Ext H H' → Dq H' r (shutD ns st bd) → Q r H'
theorem sc_shut : FnScope ["self", "content", "word", "lane"] ["self", "content"] (defScope (cL 16)) := ⟨rfl, rfl, rfl, by decide +kernel, rfl, by decide +kernel, by decide +kernel⟩
theorem ok_shut {f : Addr} {fd : FuncData} (F : Fun K "shut" "Lanes.shut" (cL 16) f fd) (L : LT K mg C) {aW : Addr} (gW : mg "WORDS" = some (.ref aW)) (hW : ∀ H, SqT K H aW wordsV)
    (MO : Cm P w K mg base C 4 "is_open" ["self", "content", "word", "lane"] (spOpen C)) :
    FnOk P w K mg base CX0 5 f fd ["self", "content"] (spShut C) := by
  refine F.ok sc_shut (fun vs H Q E h => ?_) (fun cdv A outer s H vs Q E hr h => ?_)
  · obtain ⟨p, ns, st, bd, v, rfl, _⟩ := h
    rfl
  · obtain ⟨p, ns, st, bd, v, rfl, hL, hv, hn3, q⟩ := h
    refine ⟨_, (pss_one (ps_ret (pe_lc2 (own := [("word", 2), ("lane", 3)]) (vs1 := [3]) (wi1 := iTup K (tFld K (tVar 0) "_names")) (g := gName 2) (g1 := gName 3) (tt := tYes) rfl sc_shut.nd (pi_tup (pe_glob (v := .ref aW) rfl gW rfl)) (blkOk_by (N := ["self", "content", "word", "lane"]) (sc := defScope (cL 16)) (by decide +kernel)) (by decide) (fun _ _ _ _ _ => pg_name (i := 2) sc_shut.nd rfl (.inl rfl)) (fun _ _ _ _ _ => pts_nil)
      (fun _ _ _ _ _ => pi_tup (pe_fld (pv 0) rfl)) (fun _ _ _ _ _ => pg_name (i := 3) sc_shut.nd rfl (.inl rfl)) (fun _ _ _ _ _ => pts_one (pt_not (pt_val (pe_cm MO L.cl (hr.mono (by decide)) (pv 0) (pa_cons (pv 1) (pa_cons (pv 2) (pa_cons (pv 3) pa_nil))))))) (fun _ _ _ _ _ => pe_tup (pa_cons (pv 2) (pa_cons (pv 3) pa_nil)))))), ?_⟩
    obtain ⟨dx, n, b, sp, h1, h2, h3, h4, hlen, hnd, hl2, hns, hbs⟩ := id hL
    have w1 : Walk (Itt K n) ns.length (fun H => SqT K H n (ns.map V.str)) (YAt (ns.map V.str)) := by
      have w := walk_tup (K := K) (a := n) (xs := ns.map V.str)
      rw [List.length_map] at w
      exact w
    refine ⟨aW, rfl, ⟨_, hW _⟩, fun D hD => ?_⟩
    refine lc2_acc (walk_tup (xs := wordsV)) (fun i j xs Hz => DqAll Hz xs (prS (shutP st bd) ns i j) ∧ xs.length ≤ 3 * i + j ∧ i ≤ 4 ∧ j ≤ 3) (fun _ _ _ _ _ e h => ⟨DqAll.up e h.1, h.2⟩) ⟨by rw [prS_zero]; exact .nil, by simp, by decide, by decide⟩ hD
      (fun i j xs Hz h => Nat.lt_of_le_of_lt (show xs.length ≤ 20 by have := h.2; omega) (by decide)) (fun Hz _ => hW Hz) ?_ ?_
    · rintro i y Hi H' ys hi ei hy ⟨rfl, hyi⟩ ⟨hp, hpl, hp4, hp2⟩ R kR
      have hi4 : i < words4.length := hi
      have hyi' : some (V.str words4[i]) = some y := by
        rw [← hyi]
        unfold wordsV
        rw [List.getElem?_map, List.getElem?_eq_getElem hi4]
        rfl
      obtain rfl : V.str words4[i] = y := Option.some.inj hyi'
      have hi4' : i < 4 := hi4
      refine ⟨rfl, ?_⟩
      have ed : Ext H (del H' D) := ext_to ei hD
      refine ⟨_, rfl, p, C, dx, _, _, rfl, ei _ _ h1, L.cl, L.nN, lf_n _ _ _, n, rfl, ⟨_, SqT.of (ei _ _ h2)⟩, kR _ _ _ ⟨Ext.refl _, ns.length, _, _, w1, fun Hz ez => SqT.of (ez _ _ (ed _ _ h2)), ?_, ?_⟩⟩
      · rintro ys' Hz ⟨q1, q2, q3, q4⟩
        refine ⟨?_, by omega, by omega, by omega⟩
        rw [← prS_end _ ns i hi4]
        exact q1
      · rintro j y' Ha Hb ys' hj ea hya ⟨rfl, hyj⟩ ⟨q1, q2, q3, q4⟩ QY QN kY kN
        rw [List.getElem?_map, List.getElem?_eq_getElem hj] at hyj
        cases hyj
        have e0 : Ext H Hb := ed.trans ea
        refine ⟨rfl, ?_⟩
        refine ⟨_, rfl, p, dx, _, rfl, e0 _ _ h1, lf_no _ _ _ (by decide +kernel) (by decide +kernel) (by decide +kernel), _, rfl, _, rfl, _, rfl, p, ns, ns.map bd, v, ns.map st, words4[i], j, hj, st ns[j], bd ns[j], rfl, hL.up e0, hv.up e0, by rw [List.getElem?_map, List.getElem?_eq_getElem hj]; rfl, by rw [List.getElem?_map, List.getElem?_eq_getElem hj]; rfl, fun H2 e2 => ⟨_, rfl, ?_⟩⟩
        have hstep := prS_step (shutP st bd) ns i j hi4 hj
        cases hso : (beh words4[i] (st ns[j]).1 (st ns[j]).2 (bd ns[j])).isSome with
        | true =>
          refine iteF ?_
          refine kN _ e2 ⟨?_, by omega, q3, by omega⟩
          have hz : shutP st bd (words4[i]'hi4) ns[j] = false := congrArg Bool.not hso
          rw [hstep, if_neg (by rw [hz]; decide), List.append_nil]
          exact DqAll.up (ext_del e2) q1
        | false =>
          refine iteT ?_
          refine ⟨_, rfl, _, rfl, by show 2 ≤ sizeLine; decide, fun p2 hp2 => ?_⟩
          have en := Ext.new (o := .tup [.str words4[i], .str ns[j]]) hp2
          refine kY (.ref p2) _ (e2.trans en) ⟨?_, by rw [List.length_append]; simp; omega, q3, by omega⟩
          have hz : shutP st bd (words4[i]'hi4) ns[j] = true := congrArg Bool.not hso
          rw [hstep, if_pos hz]
          exact DqAll_snoc (DqAll.up (ext_del (e2.trans en)) q1) (.tup (del_at hp2 (e2 _ _ hya) upd_same) (.cons (.str _) (.cons (.str _) .nil)))
    · rintro H5 xs5 e5 hx5 ⟨hp, _, _, _⟩
      refine q _ _ e5 (.lst hx5 ?_)
      rw [prS_zero] at hp
      exact hp
end
end K17

set_option Elab.async false
set_option linter.all false
set_option maxRecDepth 100000
set_option maxHeartbeats 4000000
namespace K17
open PySem PySem.Spec PyProof.Rows L2 Ol
open TL (tl)
-- a
section
variable {P : Program} {w : World} {K : PySem.W.Frag} {mg : Str → Option Value} {base : Heap}
abbrev s__law_take : Stmt := (topS 23)
theorem sc__law_take : FnScope ["_law_bag_here", "_law_many", "_law_cell", "_law_mixed", "_law_value", "_law_begin", "_law_second"] ["_law_bag_here", "_law_many"] (defScope s__law_take) := ⟨rfl, rfl, rfl, by decide +kernel, rfl, by decide +kernel, by decide +kernel⟩

theorem pos_of {j : Int} (h : 0 < j) : 0 < j := h
theorem upd_self {H : Hp} {a : Addr} {o : HO} (h : H a = some o) : upd H a o = H := by
  funext b
  by_cases z : b = a
  · rw [z, upd_same, h]
  · rw [upd_ne z]
theorem ok_take {f : Addr} {fd : FuncData} (F : Fun K "_law_take" "_law_take" s__law_take f fd) (T : BT mg) :
    FnOk P w K mg base CX0 1 f fd ["_law_bag_here", "_law_many"] spTake0 := by
  refine F.ok sc__law_take (fun vs H Q E h => ?_) (fun cdv A outer s H vs Q E hr h => ?_)
  · obtain ⟨a, c, b0, b1, b2, ns, m, rfl, _⟩ := h
    rfl
  · obtain ⟨a, c, b0, b1, b2, ns, m, rfl, ha, hc, hns, bi, hm, hm2, q⟩ := h
    have hca : c ≠ a := by
      intro z
      rw [z, ha] at hc
      have e : bagL b0 b1 b2 c = ns.map V.int := by
        injection hc with hc
        injection hc
      have e3 : (bagL b0 b1 b2 c)[3]? = (ns.map V.int)[3]? := by rw [e]
      rw [List.getElem?_map] at e3
      have e4 : some (V.ref c) = (ns[3]?).map V.int := e3
      cases q3 : ns[3]? with
      | none =>
        rw [q3] at e4
        cases e4
      | some z3 =>
        rw [q3] at e4
        cases e4
    refine cutB (fun σ H' => ∃ x0 x1 x2 v2 v3, BagI x0 x1 x2 ∧ σ = [some (.ref a), some (.int m), v2, v3, none, none, none] ∧ H' = upd H a (.lst (bagL x0 x1 x2 c)))
      ⟨_, (pss_cons (ps_if (pt_cmpR op_gt (pe_ix ix_list (pv 0) pe_int (fun _ _ => rfl)) pe_int (nomark _))
      (pss_cons (ps_set (i := 4) sc__law_take.nd rfl (.inl rfl) (pe_op op_mod (pe_callTy call_int1 (by rfl) T.n_int (by decide +kernel) (pa_cons (pe_ix ix_list (pv 0) pe_int (fun _ _ => rfl)) pa_nil)) (pv 1)))
      (pss_cons (ps_asg (pe_op op_fdiv (pe_ix ix_list (pv 0) pe_int (fun _ _ => rfl)) (pv 1)) (pg_sub (pv 0) pe_int set_list))
      (pss_one (ps_ret (pv 4)))))
      pss_nil)
    (pss_cons (ps_set (i := 5) sc__law_take.nd rfl (.inl rfl) (pe_op op_mod (pe_callTy call_int1 (by rfl) T.n_int (by decide +kernel) (pa_cons (pe_op op_mul (pe_op op_add (pe_ix ix_list (pv 0) pe_int (fun _ _ => rfl)) pe_int) pe_int) pa_nil)) pe_int))
    (pss_cons (ps_set (i := 6) sc__law_take.nd rfl (.inl rfl) (pe_op op_mod (pe_callTy call_int1 (by rfl) T.n_int (by decide +kernel) (pa_cons (pe_op op_mul (pe_op op_mod (pe_callTy call_int1 (by rfl) T.n_int (by decide +kernel) (pa_cons (pe_op op_mul (pv 5) (pv 5)) pa_nil)) pe_int) pe_int) pa_nil)) pe_int))
    (pss_cons (ps_if (pt_cmpR op_gt (pv 1) pe_int (nomark _))
      (pss_one (ps_ret (pe_op op_mod (pe_callTy call_int1 (by rfl) T.n_int (by decide +kernel) (pa_cons (pe_op op_add (pe_op op_mul (pv 6) pe_int) (pv 5)) pa_nil)) (pv 1))))
      pss_nil)
    (pss_one (ps_ret (pe_op op_mod (pe_callTy call_int1 (by rfl) T.n_int (by decide +kernel) (pa_cons (pe_op op_fdiv (pv 6) pe_int) pa_nil)) (pv 1)))))))), ?_⟩
      ⟨_, (ps_if (pt_cmpR op_eq (pe_ix ix_list (pv 0) pe_int (fun _ _ => rfl)) pe_int (nomark _))
      (pss_cons (ps_set (i := 2) sc__law_take.nd rfl (.inl rfl) pe_int)
      (pss_cons (ps_if (pt_cmpR op_lt (pe_ix ix_list (pv 0) pe_int (fun _ _ => rfl)) (pe_callB call_len_seq (by rfl) T.n_len (by decide +kernel) (pa_cons (pe_ix ix_list (pv 0) pe_int (fun _ _ => rfl)) pa_nil)) (nomark _))
        (pss_one (ps_set (i := 2) sc__law_take.nd rfl (.inl rfl) (pe_ix ix_list (pe_ix ix_list (pv 0) pe_int (fun _ _ => rfl)) (pe_ix ix_list (pv 0) pe_int (fun _ _ => rfl)) (fun _ _ => rfl))))
        pss_nil)
      (pss_cons (ps_augS (pv 0) pe_int get_list pe_int ip_add set_list)
      (pss_cons (ps_if (pt_cmpR op_ge (pv 2) pe_int (nomark _))
        (pss_one (ps_asg (pv 2) (pg_sub (pv 0) pe_int set_list)))
        pss_nil)
      (pss_cons (ps_set (i := 3) sc__law_take.nd rfl (.inl rfl) (pe_op op_add (pe_op op_add (pe_op op_mul (pe_ix ix_list (pv 0) pe_int (fun _ _ => rfl)) pe_int) (pe_op op_mod (pe_callTy call_int1 (by rfl) T.n_int (by decide +kernel) (pa_cons (pv 2) pa_nil)) pe_int)) (pe_op op_mul pe_int (pe_ix ix_list (pv 0) pe_int (fun _ _ => rfl)))))
      (pss_one (ps_asg (pe_op op_mod (pe_callTy call_int1 (by rfl) T.n_int (by decide +kernel) (pa_cons (pv 3) pa_nil)) pe_int) (pg_sub (pv 0) pe_int set_list))))))))
      pss_nil), fun nx hn => ?_⟩
    · rintro σ H' ⟨x0, x1, x2, v2, v3, xi, rfl, rfl⟩
      have hL : SqL K (upd H a (.lst (bagL x0 x1 x2 c))) a (bagL x0 x1 x2 c) := SqL.of upd_same
      have p0 := xi.h0
      have p1 := xi.h1
      have p1' := xi.h1'
      -- if bag[0] > 0
      refine ⟨_, rfl, a, _, _, _, rfl, rfl, hL, rfl, _, _, rfl, rfl, _, rfl, ?_⟩
      refine ite2 (fun h0 => ?_) (fun h0 => ?_)
      · refine ⟨_, rfl, a, _, _, _, rfl, rfl, hL, rfl, .inl ⟨_, rfl, _, rfl, _, _, rfl, rfl, hm, ?_⟩⟩
        refine ⟨_, rfl, a, _, _, _, rfl, rfl, hL, rfl, _, rfl, _, _, rfl, rfl, ⟨hm, hm2⟩, _, rfl, a, _, _, 0, rfl, rfl, upd_same, rfl, ?_⟩
        refine ⟨_, rfl, ?_⟩
        have z := q (x0 % m) (x0 / m) x1 x2 (Int.emod_nonneg _ (by omega)) (Int.emod_lt_of_pos _ hm) ⟨Int.ediv_nonneg p0 (by omega), xi.h1, xi.h1', xi.h2⟩
        have e : upd (upd H a (.lst (bagL x0 x1 x2 c))) a (.lst ((bagL x0 x1 x2 c).set 0 (.int (x0 / m)))) = upd H a (.lst (bagL (x0 / m) x1 x2 c)) := upd_upd
        rw [e]
        exact z
      · -- begin, second
        refine ⟨_, rfl, a, _, _, _, rfl, rfl, hL, rfl, _, _, rfl, rfl, _, _, rfl, rfl, .inl ⟨by omega, by omega⟩, .inl ⟨_, rfl, _, _, rfl, rfl, pos_of (by decide), ?_⟩⟩
        have g1 : 0 ≤ ((x1 + 1) * 39373) % 1000000007 := Int.emod_nonneg _ (by decide)
        have g2 : ((x1 + 1) * 39373) % 1000000007 < 1000000007 := Int.emod_lt_of_pos _ (by decide)
        generalize ((x1 + 1) * 39373) % 1000000007 = bg at g1 g2 ⊢
        refine ⟨_, rfl, _, rfl, _, _, rfl, rfl, .inl ⟨by omega, by omega⟩, .inl ⟨_, rfl, _, _, rfl, rfl, pos_of (by decide), ?_⟩⟩
        have g3 : 0 ≤ (bg * bg) % 998244353 := Int.emod_nonneg _ (by decide)
        have g4 : (bg * bg) % 998244353 < 998244353 := Int.emod_lt_of_pos _ (by decide)
        generalize (bg * bg) % 998244353 = sq at g3 g4 ⊢
        refine ⟨_, _, rfl, rfl, .inl ⟨by omega, by omega⟩, .inl ⟨_, rfl, _, _, rfl, rfl, pos_of (by decide), ?_⟩⟩
        have g5 : 0 ≤ (sq * 30011) % 998244353 := Int.emod_nonneg _ (by decide)
        have g6 : (sq * 30011) % 998244353 < 998244353 := Int.emod_lt_of_pos _ (by decide)
        generalize (sq * 30011) % 998244353 = sc at g5 g6 ⊢
        refine ⟨_, rfl, _, _, rfl, rfl, _, rfl, ?_⟩
        refine ite2 (fun h1 => ?_) (fun h1 => ?_)
        · refine ⟨_, rfl, _, _, rfl, rfl, .inl ⟨by omega, by omega⟩, _, rfl, _, _, rfl, rfl, .inl ⟨_, rfl, _, rfl, _, _, rfl, rfl, hm, ?_⟩⟩
          exact q _ x0 x1 x2 (Int.emod_nonneg _ (by omega)) (Int.emod_lt_of_pos _ hm) xi
        · refine ⟨_, rfl, _, _, rfl, rfl, ⟨by decide, by decide⟩, .inl ⟨_, rfl, _, rfl, _, _, rfl, rfl, hm, ?_⟩⟩
          exact q _ x0 x1 x2 (Int.emod_nonneg _ (by omega)) (Int.emod_lt_of_pos _ hm) xi
    · -- the cell
      have sa : SqL K H a (bagL b0 b1 b2 c) := SqL.of ha
      have p1 := bi.h1
      have p1' := bi.h1'
      have p2 := bi.h2
      refine ⟨_, rfl, a, _, _, _, rfl, rfl, sa, rfl, rfl, _, rfl, ?_⟩
      refine ite2 (fun h0 => ?_) (fun h0 => ?_)
      · refine ⟨_, rfl, a, _, _, _, rfl, rfl, sa, rfl, _, rfl, a, _, _, _, rfl, rfl, sa, rfl, c, _, rfl, .inl (SqL.of hc), _, _, rfl, rfl, _, rfl, ?_⟩
        refine ite2 (fun h1 => ?_) (fun h1 => ?_)
        · have h1' : b2 < (ns.length : Int) := by
            have z := of_decide_eq_true h1
            rwa [List.length_map] at z
          obtain ⟨j, ej⟩ : ∃ j : Nat, b2 = (j : Int) := ⟨b2.toNat, by omega⟩
          have hj : j < ns.length := by omega
          have hz : 0 ≤ ns[j] := hns _ (List.getElem_mem hj)
          refine ⟨_, rfl, a, _, _, _, rfl, rfl, sa, rfl, _, rfl, a, _, _, _, rfl, rfl, sa, rfl, c, _, _, V.int ns[j], rfl, rfl, SqL.of hc, at_of (j := j) ej (by rw [List.getElem?_map, List.getElem?_eq_getElem hj]; rfl), ?_⟩
          refine ⟨_, rfl, a, _, 2, _, rfl, rfl, sa, rfl, _, _, rfl, rfl, a, _, _, 2, rfl, rfl, ha, rfl, ?_⟩
          refine ⟨_, rfl, _, _, rfl, rfl, _, rfl, ?_⟩
          refine ite2 (fun h2 => ?_) (fun h2 => ?_)
          · refine ⟨_, rfl, _, rfl, a, _, _, 0, rfl, rfl, upd_same, rfl, ?_⟩
            refine ⟨_, rfl, a, _, _, _, rfl, rfl, SqL.of upd_same, rfl, _, _, rfl, rfl, .inl ⟨by omega, by omega⟩, _, rfl, .inl ⟨_, rfl, _, _, rfl, rfl, pos_of (by decide), _, _, rfl, rfl, _, rfl, a, _, _, _, rfl, rfl, SqL.of upd_same, rfl, _, _, rfl, rfl, .inl ⟨by decide, by decide⟩, _, _, rfl, rfl, ?_⟩⟩
            refine ⟨_, rfl, .inl ⟨_, rfl, _, _, rfl, rfl, pos_of (by decide), _, rfl, a, _, _, 1, rfl, rfl, upd_same, rfl, ?_⟩⟩
            exact hn _ _ ⟨_, _, b2 + 1, _, _, ⟨hz, Int.emod_nonneg _ (by decide), Int.emod_lt_of_pos _ (by decide), by omega⟩, rfl, by rw [upd_upd, upd_upd]; rfl⟩
          · refine ⟨_, rfl, a, _, _, _, rfl, rfl, SqL.of upd_same, rfl, _, _, rfl, rfl, .inl ⟨by omega, by omega⟩, _, rfl, .inl ⟨_, rfl, _, _, rfl, rfl, pos_of (by decide), _, _, rfl, rfl, _, rfl, a, _, _, _, rfl, rfl, SqL.of upd_same, rfl, _, _, rfl, rfl, .inl ⟨by decide, by decide⟩, _, _, rfl, rfl, ?_⟩⟩
            refine ⟨_, rfl, .inl ⟨_, rfl, _, _, rfl, rfl, pos_of (by decide), _, rfl, a, _, _, 1, rfl, rfl, upd_same, rfl, ?_⟩⟩
            exact hn _ _ ⟨_, _, b2 + 1, _, _, ⟨bi.h0, Int.emod_nonneg _ (by decide), Int.emod_lt_of_pos _ (by decide), by omega⟩, rfl, by rw [upd_upd]; rfl⟩
        · refine ⟨_, rfl, a, _, 2, _, rfl, rfl, sa, rfl, _, _, rfl, rfl, a, _, _, 2, rfl, rfl, ha, rfl, ?_⟩
          refine ⟨_, rfl, _, _, rfl, rfl, _, rfl, ?_⟩
          refine ite2 (fun h2 => ?_) (fun h2 => ?_)
          · exact absurd (of_decide_eq_true h2) (by decide)
          · refine ⟨_, rfl, a, _, _, _, rfl, rfl, SqL.of upd_same, rfl, _, _, rfl, rfl, .inl ⟨by omega, by omega⟩, _, rfl, .inl ⟨_, rfl, _, _, rfl, rfl, pos_of (by decide), _, _, rfl, rfl, _, rfl, a, _, _, _, rfl, rfl, SqL.of upd_same, rfl, _, _, rfl, rfl, .inl ⟨by decide, by decide⟩, _, _, rfl, rfl, ?_⟩⟩
            refine ⟨_, rfl, .inl ⟨_, rfl, _, _, rfl, rfl, pos_of (by decide), _, rfl, a, _, _, 1, rfl, rfl, upd_same, rfl, ?_⟩⟩
            exact hn _ _ ⟨_, _, b2 + 1, _, _, ⟨bi.h0, Int.emod_nonneg _ (by decide), Int.emod_lt_of_pos _ (by decide), by omega⟩, rfl, by rw [upd_upd]; rfl⟩
      · exact hn _ _ ⟨b0, b1, b2, none, none, bi, rfl, (upd_self ha).symm⟩
end

-- b
section
variable {P : Program} {w : World} {K : PySem.W.Frag} {mg : Str → Option Value} {base : Heap}

abbrev s_is_integer : Stmt := (topS 10)
theorem sc_is_integer : FnScope ["thing"] ["thing"] (defScope s_is_integer) := ⟨rfl, rfl, rfl, by decide +kernel, rfl, by decide +kernel, by decide +kernel⟩
theorem ok_is_integer {f : Addr} {fd : FuncData} (F : Fun K "is_integer" "is_integer" s_is_integer f fd) (T : BT mg) :
    FnOk P w K mg base CX0 1 f fd ["thing"] (spPred Any isIntD) := by
  refine F.ok sc_is_integer (fun vs H Q E h => ?_) (fun cdv A outer s H vs Q E hr h => ?_)
  · obtain ⟨v, d, rfl, _⟩ := h
    rfl
  · obtain ⟨v, d, rfl, hd, hz, q⟩ := h
    have q' := q H (Ext.refl H)
    rw [isIntD_eq] at q'
    refine ⟨_, (pss_one (ps_ret (pe_and (pe_callB call_isi (by rfl) T.n_isinstance (by decide +kernel) (pa_cons (pv 0) (pa_cons (pe_bltn (v := .ty "int") (by rfl) T.n_int (by decide +kernel) rfl) pa_nil))) (pe_one (pe_not (pe_callB call_isi (by rfl) T.n_isinstance (by decide +kernel) (pa_cons (pv 0) (pa_cons (pe_bltn (v := .ty "bool") (by rfl) T.n_bool (by decide +kernel) rfl) pa_nil)))))))), ?_⟩
    refine ⟨_, rfl, _, _, _, _, _, rfl, .ty "int", ty_of hd, ki_int d, _, rfl, ?_⟩
    refine ite2 (fun h => ?_) (fun h => ?_)
    · refine ⟨_, rfl, _, _, _, _, _, rfl, .ty "bool", ty_of hd, ki_bool d, _, rfl, ?_⟩
      rw [h, Bool.true_and] at q'
      exact q'
    · rw [Bool.eq_false_iff.mpr h, Bool.false_and] at q'
      exact q'

abbrev s_is_number : Stmt := (topS 11)
theorem sc_is_number : FnScope ["thing"] ["thing"] (defScope s_is_number) := ⟨rfl, rfl, rfl, by decide +kernel, rfl, by decide +kernel, by decide +kernel⟩
theorem ok_is_number {f : Addr} {fd : FuncData} (F : Fun K "is_number" "is_number" s_is_number f fd) (C1 : Ca P w K mg base 1 "is_integer" ["thing"] (spPred Any isIntD)) :
    FnOk P w K mg base CX0 2 f fd ["thing"] (spPred Any isNumD) := by
  refine F.ok sc_is_number (fun vs H Q E h => ?_) (fun cdv A outer s H vs Q E hr h => ?_)
  · obtain ⟨v, d, rfl, _⟩ := h
    rfl
  · obtain ⟨v, d, rfl, hd, hz, q⟩ := h
    refine ⟨_, (pss_one (ps_ret (pe_and (pe_ca C1 (hr.mono (by decide)) (by rfl) (pa_cons (pv 0) pa_nil)) (pe_one (pe_cmpR op_ge (pv 0) pe_int (nomark _)))))), ?_⟩
    refine ⟨_, rfl, v, d, rfl, hd, trivial, fun H1 e1 => ⟨_, rfl, ?_⟩⟩
    refine ite2 (fun h => ?_) (fun h => ?_)
    · obtain ⟨i, rfl, rfl⟩ := dq_int hd h
      refine ⟨_, rfl, _, _, rfl, rfl, ?_⟩
      exact q H1 e1
    · have e : isNumD d = false := by
        cases d with
        | int i => exact absurd rfl h
        | _ => rfl
      have q' := q H1 e1
      rw [e] at q'
      exact q'

abbrev s_is_name : Stmt := (topS 12)
theorem sc_is_name : FnScope ["thing", "letter"] ["thing"] (defScope s_is_name) := ⟨rfl, rfl, rfl, by decide +kernel, rfl, by decide +kernel, by decide +kernel⟩
theorem ok_is_name {f : Addr} {fd : FuncData} (F : Fun K "is_name" "is_name" s_is_name f fd) (T : BT mg) {tl : Tok} {tn : Tok} (gLet : mg "LETTERS" = some (.str abc tl)) (gLong : mg "LONGEST" = some (.int 8 tn)) :
    FnOk P w K mg base CX0 1 f fd ["thing"] (spPred Ok1 isNameD) := by
  refine F.ok sc_is_name (fun vs H Q E h => ?_) (fun cdv A outer s H vs Q E hr h => ?_)
  · obtain ⟨v, d, rfl, _⟩ := h
    rfl
  · obtain ⟨v, d, rfl, hd, hz, q⟩ := h
    refine ⟨_, (pss_cons (ps_if (PW.pt (pw_or (pt_not (pt_val (pe_callB call_isi (by rfl) T.n_isinstance (by decide +kernel) (pa_cons (pv 0) (pa_cons (pe_bltn (v := .ty "str") (by rfl) T.n_str (by decide +kernel) rfl) pa_nil))))) (pw_or1 (pt_not (pt_chain op_le op_le pe_int (pe_callB call_len_str (by rfl) T.n_len (by decide +kernel) (pa_cons (pv 0) pa_nil)) (pe_glob (v := .int 8) rfl gLong ⟨_, rfl⟩))))))
      (pss_one (ps_ret pe_bl))
      pss_nil)
    (pss_one (ps_ret (pe_callB (cr_all rfl) (by rfl) T.n_all (by decide +kernel) (pa_cons (pe_lc (own := [("letter", 1)]) (g := gName 1) (tt := tYes) rfl sc_is_name.nd (pi_str (pv 0)) (blkOk_by (N := ["thing", "letter"]) (sc := defScope s_is_name) (by decide +kernel)) (fun _ _ _ _ _ => (pg_name (i := 1) sc_is_name.nd rfl (.inl rfl))) (fun _ _ _ _ _ => pts_nil) (fun _ _ _ _ _ => (pe_cmpR op_in_sign (pv 1) (pe_glob (v := .str abc) rfl gLet ⟨_, rfl⟩) (by rfl)))) pa_nil))))), ?_⟩
    refine ⟨_, rfl, _, _, _, _, _, rfl, .ty "str", ty_of hd, ki_str d, _, rfl, ?_⟩
    refine ite2 (fun h => ?_) (fun h => ?_)
    · have q' := q H (Ext.refl H)
      rw [kS_not h] at q'
      exact iteT q'
    · obtain ⟨x, rfl, rfl⟩ := dq_str hd (kS_yes h)
      have hx : x.length ≤ 1000 := (hz x rfl).1
      have hx2 : x.length ≤ sizeLine := Nat.le_trans hx (by decide)
      have qx : Q (.bl (isNameS x)) H := q H (Ext.refl H)
      refine ⟨_, rfl, _, rfl, hx2, _, _, rfl, rfl, _, rfl, ?_⟩
      refine ite2 (fun h1 => ?_) (fun h1 => ?_)
      · refine ⟨_, _, rfl, rfl, _, rfl, ?_⟩
        have h1' : (1 : Int) ≤ (x.length : Int) := of_decide_eq_true h1
        refine ite2 (fun h2 => ?_) (fun h2 => ?_)
        · have h2' : ¬ (x.length : Int) ≤ 8 := by simpa using h2
          rw [isNameS_short (by omega)] at qx
          exact qx
        · have h2' : (x.length : Int) ≤ 8 := by simpa using h2
          rw [isNameS_long (by omega)] at qx
          refine ⟨_, rfl, x, rfl, fun D hD => ?_⟩
          refine lc_det walk_str (sg x) (fun _ => true) (fun i => V.bl (decide (x.cps.toList.getD i 0 ∈ abc.cps.toList))) hD hx2 its_sg (fun _ _ => trivial)
            (fun i H' _ _ Q' q' => q') (fun i H' _ _ _ Q' q' => ⟨_, rfl, _, abc, rfl, rfl, q'⟩) ?_
          rw [signs_all x fun c => decide (c ∈ abc.cps.toList)]
          refine ⟨D, _, rfl, SqL.of upd_same, ?_⟩
          rw [all_id_map]
          have q2 := q (upd H D (.lst ((x.cps.toList.map fun c => decide (c ∈ abc.cps.toList)).map V.bl))) (Ext.new hD)
          have e2 : isNameD (.str x) = x.cps.toList.all fun c => decide (c ∈ abc.cps.toList) := isNameS_long (by omega)
          rw [e2] at q2
          exact q2
      · have h1' : ¬ (1 : Int) ≤ (x.length : Int) := by simpa using h1
        rw [isNameS_short (by omega)] at qx
        exact ⟨_, rfl, iteT qx⟩
end

-- d
section
variable {P : Program} {w : World} {K : PySem.W.Frag} {mg : Str → Option Value} {base : Heap}
abbrev s__law_alike : Stmt := (topS 24)
theorem sc__law_alike : FnScope ["_law_found", "_law_due"] ["_law_found", "_law_due"] (defScope s__law_alike) := ⟨rfl, rfl, rfl, by decide +kernel, rfl, by decide +kernel, by decide +kernel⟩
theorem ok_alike {f : Addr} {fd : FuncData} (F : Fun K "_law_alike" "_law_alike" s__law_alike f fd) (T : BT mg) :
    FnG P w K mg base 1 f fd ["_law_found", "_law_due"] spAlike := by
  refine okG F sc__law_alike (fun vs H Q E h => ?_) (fun cdv A outer s H vs Q E hG hr h => ?_)
  · obtain ⟨v, u, d, rfl, _⟩ := h
    rfl
  · obtain ⟨v, u, d, rfl, S, h1, h2, hs, ft, q⟩ := h
    refine ⟨_, (pss_one (ps_ret (pe_and (pe_cmpR (op_eqQ hr) (pv 0) (pv 1) (nomark _)) (pe_one (pe_cmpR op_eq (pe_callB (call_reprD hG hr) (by rfl) T.n_repr (by decide +kernel) (pa_cons (pv 0) pa_nil)) (pe_callB (call_reprD hG hr) (by rfl) T.n_repr (by decide +kernel) (pa_cons (pv 1) pa_nil)) (nomark _)))))), ?_⟩
    refine ⟨_, rfl, _, rfl, d, d, S, h1, h2, hs, hs, _, rfl, ?_⟩
    rw [SeqAt.eqv_refl d (SeqAt.canLay_of_shaped hs)]
    refine iteT ?_
    refine ⟨_, rfl, v, d, rfl, S, h1, ft.sh, ft.dep, ft.len, _, rfl, u, d, rfl, S, h2, ft.sh, ft.dep, ft.len, rfl, ?_⟩
    have e : decide (V.str d.shown = V.str d.shown) = true := decide_eq_true rfl
    rw [e]
    exact q H (Ext.refl H)
end

-- f
section
variable {P : Program} {w : World} {K : PySem.W.Frag} {mg : Str → Option Value} {base : Heap}

abbrev s__law_bag : Stmt := (topS 22)
theorem sc__law_bag : FnScope ["_law_script", "_law_cell"] ["_law_script"] (defScope s__law_bag) := ⟨rfl, rfl, rfl, by decide +kernel, rfl, by decide +kernel, by decide +kernel⟩
theorem ok_bag {f : Addr} {fd : FuncData} (F : Fun K "_law_bag" "_law_bag" s__law_bag f fd) (T : BT mg) :
    FnOk P w K mg base CX0 1 f fd ["_law_script"] (spBag0 K) := by
  refine F.ok sc__law_bag (fun vs H Q E h => ?_) (fun cdv A outer s H vs Q E hr h => ?_)
  · obtain ⟨a, ns, rfl, _⟩ := h
    rfl
  · obtain ⟨a, ns, rfl, hs, hl, q⟩ := h
    refine ⟨_, (pss_one (ps_ret (pe_lst (pa_cons pe_int (pa_cons pe_int (pa_cons pe_int (pa_cons (pe_lc (own := [("_law_cell", 1)]) (g := gName 1) (tt := tYes) rfl sc__law_bag.nd (pi_list (pe_slice sl_list (pv 0) po_none (po_some pe_int))) (blkOk_by (N := ["_law_script", "_law_cell"]) (sc := defScope s__law_bag) (by decide +kernel)) (fun _ _ _ _ _ => (pg_name (i := 1) sc__law_bag.nd rfl (.inl rfl))) (fun _ _ _ _ _ => pts_nil) (fun _ _ _ _ _ => (pe_callB call_abs (by rfl) T.n_abs (by decide +kernel) (pa_cons (pv 1) pa_nil)))) pa_nil))))))), ?_⟩
    obtain ⟨cs, ec, hc⟩ := cut_ints ns none (some 63)
    refine ⟨_, rfl, _, rfl, a, _, rfl, hs, fun p hp => ?_⟩
    rw [ec]
    have e1 : Ext H (upd H p (.lst (cs.map V.int))) := Ext.new hp
    refine ⟨p, rfl, ⟨_, SqL.of upd_same⟩, fun D hD => ?_⟩
    have e2 : Ext (upd H p (.lst (cs.map V.int))) (upd (upd H p (.lst (cs.map V.int))) D (.lst ((cs.map fun i => if i < 0 then -i else i).map V.int))) := Ext.new hD
    refine lc_det (walk_list (K := K) (a := p) (xs := cs.map V.int)) (fun i => .int (cs.getD i 0)) (fun _ => true) (fun i => .int (if cs.getD i 0 < 0 then -(cs.getD i 0) else cs.getD i 0)) hD (by rw [List.length_map]; exact Nat.le_trans hc (Nat.le_trans hl (by decide)))
      ?_ (fun H' e => SqL.of (e _ _ upd_same)) (fun i H' _ _ Q' q' => q') (fun i H' _ _ _ Q' q' => ⟨_, rfl, _, rfl, q'⟩) ?_
    · rintro i H' x H'' hi ⟨rfl, hx⟩
      refine ⟨rfl, ?_⟩
      rw [List.getElem?_map] at hx
      rw [List.getD_eq_getElem?_getD]
      cases e : cs[i]? with
      | none => rw [e] at hx; cases hx
      | some z => rw [e] at hx; exact (Option.some.inj hx).symm
    · rw [List.filter_eq_self.mpr (fun _ _ => rfl), List.length_map, map_range_getI (fun i => V.int (if i < 0 then -i else i)) cs]
      have em : (cs.map fun i => V.int (if i < 0 then -i else i)) = (cs.map fun i => if i < 0 then -i else i).map V.int := by
        rw [List.map_map]
        rfl
      rw [em]
      refine ⟨by show 4 ≤ sizeLine; decide, fun r hr' => ?_⟩
      have e3 := Ext.new (o := .lst (bagL 0 1234567891 0 D)) hr'
      have nDr : D ≠ r := fun z => by rw [← z, upd_same] at hr'; cases hr'
      refine q r D (cs.map fun i => if i < 0 then -i else i) _ ((e1.trans e2).free hr') ((e1.trans e2).trans e3) upd_same (by rw [upd_ne nDr, upd_same]) ?_ nDr
      intro n hn
      obtain ⟨i, _, rfl⟩ := List.mem_map.mp hn
      split <;> omega
end

-- g
section
variable {P : Program} {w : World} {K : PySem.W.Frag} {mg : Str → Option Value} {base : Heap}
abbrev s__law_names : Stmt := (topS 25)
theorem sc__law_names : FnScope ["_law_bag_here", "_law_many", "_law_letters", "_law_words", "_law_style", "_law_turn", "_law_base", "_law_at", "_law_k"] ["_law_bag_here", "_law_many"] (defScope s__law_names) := ⟨rfl, rfl, rfl, by decide +kernel, rfl, by decide +kernel, by decide +kernel⟩
theorem ok_names {f : Addr} {fd : FuncData} (F : Fun K "_law_names" "_law_names" s__law_names f fd) (T : BT mg)
    (CT : Ca P w K mg base 1 "_law_take" ["_law_bag_here", "_law_many"] spTake) :
    FnOk P w K mg base CX0 2 f fd ["_law_bag_here", "_law_many"] spNames := by
  refine F.ok sc__law_names (fun vs H Q E h => ?_) (fun cdv A outer s H vs Q E hr h => ?_)
  · obtain ⟨a, m, rfl, _⟩ := h
    rfl
  · obtain ⟨a, m, rfl, hb, hm1, hm8, q⟩ := h
    refine ⟨_, (pss_cons (ps_set (i := 2) sc__law_names.nd rfl (.inr rfl) pe_str)
    (pss_cons (ps_set (i := 3) sc__law_names.nd rfl (.inl rfl) pe_str)
    (pss_cons (ps_set (i := 3) sc__law_names.nd rfl (.inl rfl) (pe_split (pe_op op_add_str (pv 3) pe_str) pe_str))
    (pss_cons (ps_asg (pe_tup (pa_cons (pe_ca CT (hr.mono (by decide)) (by rfl) (pa_cons (pv 0) (pa_cons pe_int pa_nil))) (pa_cons (pe_ca CT (hr.mono (by decide)) (by rfl) (pa_cons (pv 0) (pa_cons pe_int pa_nil))) pa_nil))) (pg_tup (by rfl) (pgs_cons (pg_name (i := 4) sc__law_names.nd rfl (.inl rfl)) (pgs_cons (pg_name (i := 5) sc__law_names.nd rfl (.inr rfl)) pgs_nil))))
    (pss_cons (ps_set (i := 6) sc__law_names.nd rfl (.inr rfl) (pe_join pe_str (pe_lc (own := [("_law_k", 8)]) (g := gName 8) (tt := tYes) rfl sc__law_names.nd (pi_range1 (by rfl) T.n_range (pa_cons (pe_op op_add pe_int (pe_ca CT (hr.mono (by decide)) (by rfl) (pa_cons (pv 0) (pa_cons pe_int pa_nil)))) pa_nil)) (blkOk_by (N := ["_law_bag_here", "_law_many", "_law_letters", "_law_words", "_law_style", "_law_turn", "_law_base", "_law_at", "_law_k"]) (sc := defScope s__law_names) (by decide +kernel)) (fun _ _ _ _ _ => (pg_name (i := 8) sc__law_names.nd rfl (.inl rfl))) (fun _ _ _ _ _ => pts_nil) (fun _ _ _ _ _ => (pe_ix ix_str (pv 2) (pe_ca CT (hr.mono (by decide)) (by rfl) (pa_cons (pv 0) (pa_cons pe_int pa_nil))) (fun _ _ => rfl))))))
    (pss_cons (ps_set (i := 7) sc__law_names.nd rfl (.inr rfl) (pe_ca CT (hr.mono (by decide)) (by rfl) (pa_cons (pv 0) (pa_cons (pe_op op_add (pe_callB call_len_str (by rfl) T.n_len (by decide +kernel) (pa_cons (pv 6) pa_nil)) pe_int) pa_nil))))
    (pss_cons (ps_if (pt_cmpR op_eq (pv 4) pe_int (nomark _))
      (pss_one (ps_ret (pe_slice sl_list (pe_op op_cat (pe_slice sl_list (pv 3) (po_some (pv 5)) po_none) (pe_slice sl_list (pv 3) po_none (po_some (pv 5)))) po_none (po_some (pv 1)))))
      pss_nil)
    (pss_cons (ps_if (pt_cmpR op_eq (pv 4) pe_int (nomark _))
      (pss_one (ps_ret (pe_lc (own := [("_law_k", 8)]) (g := gName 8) (tt := tYes) rfl sc__law_names.nd (pi_range1 (by rfl) T.n_range (pa_cons (pv 1) pa_nil)) (blkOk_by (N := ["_law_bag_here", "_law_many", "_law_letters", "_law_words", "_law_style", "_law_turn", "_law_base", "_law_at", "_law_k"]) (sc := defScope s__law_names) (by decide +kernel)) (fun _ _ _ _ _ => (pg_name (i := 8) sc__law_names.nd rfl (.inl rfl))) (fun _ _ _ _ _ => pts_nil) (fun _ _ _ _ _ => (pe_ix ix_str (pv 2) (pe_op op_mod (pe_callTy call_int1 (by rfl) T.n_int (by decide +kernel) (pa_cons (pe_op op_add (pv 5) (pe_op op_mul pe_int (pv 8))) pa_nil)) pe_int) (fun _ _ => rfl))))))
      pss_nil)
    (pss_one (ps_ret (pe_lc (own := [("_law_k", 8)]) (g := gName 8) (tt := tYes) rfl sc__law_names.nd (pi_range1 (by rfl) T.n_range (pa_cons (pv 1) pa_nil)) (blkOk_by (N := ["_law_bag_here", "_law_many", "_law_letters", "_law_words", "_law_style", "_law_turn", "_law_base", "_law_at", "_law_k"]) (sc := defScope s__law_names) (by decide +kernel)) (fun _ _ _ _ _ => (pg_name (i := 8) sc__law_names.nd rfl (.inl rfl))) (fun _ _ _ _ _ => pts_nil) (fun _ _ _ _ _ => (pe_op op_add_str (pe_op op_add_str (pe_slice sl_str (pv 6) po_none (po_some (pv 7))) (pe_ix ix_str (pv 2) (pe_op op_mod (pe_callTy call_int1 (by rfl) T.n_int (by decide +kernel) (pa_cons (pe_op op_add (pv 5) (pe_op op_mul pe_int (pv 8))) pa_nil)) pe_int) (fun _ _ => rfl))) (pe_slice sl_str (pv 6) (po_some (pv 7)) po_none)))))))))))))), ?_⟩
    -- the words
    refine ⟨_, rfl, _, _, rfl, rfl, by decide +kernel, ⟨_, rfl⟩, _, _, rfl, rfl, by decide +kernel, by decide +kernel, fun pw hpw => ?_⟩
    rw [show Txt.split (Str.ofString "send take ended close else first any step quit server back again where log a b ab ba z" ++ Str.ofString " stuck seat sticks lane") (Str.ofString " ") = wordL from split_words]
    have e1 := Ext.new (o := .lst (wordL.map V.str)) hpw
    have hw1 : upd H pw (.lst (wordL.map V.str)) pw = some (.lst (wordL.map V.str)) := upd_same
    generalize upd H pw (.lst (wordL.map V.str)) = H1 at e1 hw1 ⊢
    -- style, turn
    refine ⟨_, rfl, a, 4, rfl, hb.up e1, by decide, by decide, fun r0 l0 u0 => ⟨_, rfl, a, 20, rfl, hb.up e1, by decide, by decide, fun r1 l1 u1 => ⟨by show 2 ≤ sizeLine; decide, fun pt hpt => ?_⟩⟩⟩
    have e2 := e1.trans (Ext.new (o := .tup [.int r0, .int r1]) hpt)
    have hw2 := Ext.new (o := .tup [.int r0, .int r1]) hpt _ _ hw1
    refine ⟨pt, _, rfl, SqT.of upd_same, rfl, _, _, rfl, _, _, rfl, rfl, ?_⟩
    generalize upd H1 pt (.tup [.int r0, .int r1]) = H2 at e2 hw2 ⊢
    -- the base
    refine ⟨⟨_, rfl⟩, _, rfl, a, 7, rfl, hb.up e2, by decide, by decide, fun r2 l2 u2 => ⟨_, _, rfl, rfl, _, rfl, by omega, by omega, fun D hD => ?_⟩⟩
    refine lc_ext walk_range (fun _ v _ => ∃ c, c ∈ abcL ∧ v = .str (one c)) (fun _ _ _ _ _ h => h) hD (by show (1 + r2).toNat ≤ 2 ^ 24; omega) (fun _ _ => trivial) ?_ ?_
    · rintro i x H' H'' hi e ⟨rfl, rfl⟩
      refine ⟨Ext.refl _, fun Q' q' => ?_⟩
      refine ⟨_, rfl, _, rfl, a, 26, rfl, hb.up (e2.trans e), by decide, by decide, fun r l u => ?_⟩
      obtain ⟨j, rfl⟩ : ∃ j : Nat, r = (j : Int) := ⟨r.toNat, by omega⟩
      have hj : j < 26 := by omega
      exact ⟨_, _, 97 + j, rfl, rfl, by decide +kernel, atI_nat (abc_at j hj), q' _ _ (Ext.refl _) ⟨_, abc_mem hj, rfl⟩⟩
    intro H3 xs e3 hD3 hl hR
    obtain ⟨cs, rfl, hcl, hcm⟩ := ones_of hl hR
    have hcs1 : 1 ≤ cs.length := by rw [hcl]; omega
    have hcs7 : cs.length ≤ 7 := by rw [hcl]; omega
    refine ⟨_, D, cs.map one, rfl, rfl, .inl (SqL.of hD3), by rw [ones_len, List.length_map]; show cs.length + cs.length * 0 ≤ _; omega, ?_⟩
    have hj := join_signs cs
    have ej : Txt.join (Str.ofString "") (cs.map one) = Txt.join "" (cs.map one) := rfl
    rw [ej]
    generalize Txt.join "" (cs.map one) = b at hj ⊢
    have hbl : b.length = cs.length := by rw [tlen, hj]
    have e23 := e2.trans e3
    have hw3 := e3 _ _ hw2
    -- the place
    refine ⟨_, rfl, _, rfl, _, rfl, by rw [hbl]; show _ ≤ 2 ^ 24; omega, _, _, rfl, rfl, a, _, rfl, hb.up e23, by omega, by omega, fun r3 l3 u3 => ?_⟩
    obtain ⟨t, rfl⟩ : ∃ j : Nat, r1 = (j : Int) := ⟨r1.toNat, by omega⟩
    obtain ⟨at_, rfl⟩ : ∃ j : Nat, r3 = (j : Int) := ⟨r3.toNat, by omega⟩
    obtain ⟨k, rfl⟩ : ∃ j : Nat, m = (j : Int) := ⟨m.toNat, by omega⟩
    have hk8 : k ≤ 8 := by omega
    have ha : at_ ≤ cs.length := by omega
    refine ⟨_, rfl, rfl, _, rfl, ?_⟩
    refine ite2 (fun g0 => ?_) (fun g0 => ?_)
    · refine ⟨_, rfl, _, rfl, _, rfl, pw, _, rfl, SqL.of hw3, fun p1 h1 => ?_⟩
      have f1 := Ext.new (o := .lst (cutV (wordL.map V.str) (some (t : Int)) none)) h1
      refine ⟨_, rfl, _, rfl, _, rfl, pw, _, rfl, SqL.of (f1 _ _ hw3), fun p2 h2 => ?_⟩
      have f2 := Ext.new (o := .lst (cutV (wordL.map V.str) none (some (t : Int)))) h2
      refine ⟨p1, p2, _, _, rfl, rfl, f2 _ _ upd_same, upd_same, ?_, fun p3 h3 => ?_⟩
      · have z1 := cutV_length (wordL.map V.str) (some (t : Int)) none
        have z2 := cutV_length (wordL.map V.str) none (some (t : Int))
        have z3 : (wordL.map V.str).length = 23 := rfl
        show _ ≤ 2 ^ 24
        omega
      · have f3 := Ext.new (o := .lst (cutV (wordL.map V.str) (some (t : Int)) none ++ cutV (wordL.map V.str) none (some (t : Int)))) h3
        refine ⟨_, rfl, _, rfl, p3, _, rfl, SqL.of upd_same, fun p4 h4 => ?_⟩
        have el : cutV (cutV (wordL.map V.str) (some (t : Int)) none ++ cutV (wordL.map V.str) none (some (t : Int))) none (some (k : Int)) = ((wordL.drop t ++ wordL.take t).take k).map V.str := by
          rw [cut_drop, cut_take, cut_take, List.map_take, List.map_append, List.map_drop, List.map_take]
        rw [el]
        have e4 := ((e23.trans f1).trans f2).trans f3
        exact q p4 _ _ (e4.trans (Ext.new h4)) (e4.free h4) upd_same (names0 t k (by omega) (by omega))
    · refine ⟨_, rfl, rfl, _, rfl, ?_⟩
      refine ite2 (fun g1 => ?_) (fun g1 => ?_)
      · refine ⟨_, rfl, _, rfl, by omega, by omega, fun D4 hD4 => ?_⟩
        refine lc_det walk_range (fun i => .int (0 + (i : Int))) (fun _ => true) (fun i => .str (one (let1 t i))) hD4 (by show _ ≤ 2 ^ 24; omega) (fun i H x H' _ y => y) (fun _ _ => trivial) (fun i H' _ _ Q' q' => q') (fun i H' hi _ _ Q' q' => ?_) ?_
        · refine ⟨_, rfl, _, rfl, _, rfl, _, _, rfl, rfl, .inl ⟨by decide, by decide⟩, _, _, rfl, rfl, .inl ⟨_, rfl, _, _, rfl, rfl, pos_of (by decide), _, _, let1 t i, rfl, rfl, by decide +kernel, ?_, q'⟩⟩
          have ev : ((t : Int) + 3 * (0 + (i : Int))) % 26 = (((t + 3 * i) % 26 : Nat) : Int) := by omega
          show atI _ (((t : Int) + 3 * (0 + (i : Int))) % 26) = _
          rw [ev]
          exact atI_nat (abc_at _ (Nat.mod_lt _ (by decide)))
        · rw [List.filter_eq_self.mpr (fun _ _ => rfl)]
          have em : ((List.range (k : Int).toNat).map fun i => V.str (one (let1 t i))) = ((List.range k).map fun i => one (let1 t i)).map V.str := by
            rw [List.map_map]
            rfl
          rw [em]
          exact q D4 _ _ (e23.trans (Ext.new hD4)) (e23.free hD4) upd_same (names1 t k hk8)
      · refine ⟨_, rfl, _, rfl, by omega, by omega, fun D4 hD4 => ?_⟩
        refine lc_det walk_range (fun i => .int (0 + (i : Int))) (fun _ => true) (fun i => .str (cutS b none (some (at_ : Int)) ++ one (let1 t i) ++ cutS b (some (at_ : Int)) none)) hD4 (by show _ ≤ 2 ^ 24; omega) (fun i H x H' _ y => y) (fun _ _ => trivial) (fun i H' _ _ Q' q' => q') (fun i H' hi _ _ Q' q' => ?_) ?_
        · have hb2 : b.length ≤ 2 ^ 24 := by omega
          have c1 := cutS_length b none (some (at_ : Int))
          have c2 := cutS_length b (some (at_ : Int)) none
          refine ⟨_, rfl, _, rfl, _, rfl, b, rfl, hb2, ?_⟩
          refine ⟨_, rfl, _, rfl, _, rfl, _, _, rfl, rfl, .inl ⟨by decide, by decide⟩, _, _, rfl, rfl, .inl ⟨_, rfl, _, _, rfl, rfl, pos_of (by decide), _, _, let1 t i, rfl, rfl, by decide +kernel, ?_, ?_⟩⟩
          · have ev : ((t : Int) + 3 * (0 + (i : Int))) % 26 = (((t + 3 * i) % 26 : Nat) : Int) := by omega
            show atI _ (((t : Int) + 3 * (0 + (i : Int))) % 26) = _
            rw [ev]
            exact atI_nat (abc_at _ (Nat.mod_lt _ (by decide)))
          · refine ⟨_, _, rfl, rfl, by show _ + 1 ≤ 2 ^ 24; omega, ?_⟩
            refine ⟨_, rfl, _, rfl, _, rfl, b, rfl, hb2, _, _, rfl, rfl, ?_, q'⟩
            have c3 : (cutS b none (some (at_ : Int)) ++ one (let1 t i)).length = (cutS b none (some (at_ : Int))).length + 1 := by
              rw [tlen, tlen, tl_app, List.length_append]
              rfl
            show (cutS b none (some (at_ : Int)) ++ one (let1 t i)).length + _ ≤ 2 ^ 24
            omega
        · rw [List.filter_eq_self.mpr (fun _ _ => rfl)]
          have em : ((List.range (k : Int).toNat).map fun i => V.str (cutS b none (some (at_ : Int)) ++ one (let1 t i) ++ cutS b (some (at_ : Int)) none)) = ((List.range k).map fun i => cutS b none (some (at_ : Int)) ++ one (let1 t i) ++ cutS b (some (at_ : Int)) none).map V.str := by
            rw [List.map_map]
            rfl
          rw [em]
          refine q D4 _ _ (e23.trans (Ext.new hD4)) (e23.free hD4) upd_same (names2 cs at_ t k _ hcs1 hcs7 hcm hk8 ha fun i _ => ?_)
          rw [tl_app, tl_app, cutS_take, cutS_drop, hj]
          rfl
end

end K17

set_option Elab.async false
set_option linter.all false
set_option maxRecDepth 100000
set_option maxHeartbeats 4000000
namespace K17
open PySem PySem.Spec PyProof.Rows L2 Ol RZ
open TL (tl)
section
variable {P : Program} {w : World} {K : PySem.W.Frag} {mg : Str → Option Value} {base : Heap} {C S : Addr}
/-! ### _law_able -/
def spAble : Sp := fun vs H Q _ => ∃ (db dc : Addr) (word x : Str) (kb kc : List (Key × V)) (sv : V) (c : Nat) (b : Bool) (bd : Int), vs = [.ref db, .ref dc, .str word, .str x] ∧ H db = some (.dK kb) ∧ H dc = some (.dK kc) ∧
  valV kb (.inr x) = some (.int bd) ∧ valV kc (.inr x) = some sv ∧ Dq H sv (stD c b) ∧ word ∈ words4 ∧ Q (.bl (beh word c b bd).isSome) H
abbrev s_able : Stmt := (topS 27)
theorem sc_able : FnScope ["_law_bounds_here", "_law_counted", "_law_word", "_law_lane", "_law_many", "_law_closed"] ["_law_bounds_here", "_law_counted", "_law_word", "_law_lane"] (defScope s_able) := ⟨rfl, rfl, rfl, by decide +kernel, rfl, by decide +kernel, by decide +kernel⟩
theorem beh_send (c : Nat) (b : Bool) (bd : Int) : (beh "send" c b bd).isSome = (decide ((c : Int) < bd) && !b) := by
  unfold beh beh2 beh3 beh4
  rw [if_neg (show ¬ (("send" : Str) = "take" ∧ 0 < c) from fun z => absurd z.1 (by decide +kernel)), if_neg (show ¬ (("send" : Str) = "ended" ∧ b = true ∧ c = 0) from fun z => absurd z.1 (by decide +kernel)), if_neg (show ¬ (("send" : Str) = "close" ∧ b = false) from fun z => absurd z.1 (by decide +kernel))]
  cases b with
  | true => rw [if_neg (fun z => by cases z.2.1)]; simp
  | false =>
    by_cases h : (c : Int) < bd
    · rw [if_pos ⟨rfl, rfl, h⟩, decide_eq_true h]; rfl
    · rw [if_neg (fun z => h z.2.2), decide_eq_false h]; rfl
theorem beh_take (c : Nat) (b : Bool) (bd : Int) : (beh "take" c b bd).isSome = decide ((0 : Int) < c) := by
  unfold beh beh2 beh3 beh4
  rw [if_neg (show ¬ (("take" : Str) = "send" ∧ b = false ∧ (c : Int) < bd) from fun z => absurd z.1 (by decide +kernel)), if_neg (show ¬ (("take" : Str) = "ended" ∧ b = true ∧ c = 0) from fun z => absurd z.1 (by decide +kernel)), if_neg (show ¬ (("take" : Str) = "close" ∧ b = false) from fun z => absurd z.1 (by decide +kernel))]
  by_cases h : 0 < c
  · rw [if_pos ⟨rfl, h⟩, decide_eq_true (by omega)]; rfl
  · rw [if_neg (fun z => h z.2), decide_eq_false (by omega)]; rfl
theorem beh_ended (c : Nat) (b : Bool) (bd : Int) : (beh "ended" c b bd).isSome = (b && decide (c = 0)) := by
  unfold beh beh2 beh3 beh4
  rw [if_neg (show ¬ (("ended" : Str) = "send" ∧ b = false ∧ (c : Int) < bd) from fun z => absurd z.1 (by decide +kernel)), if_neg (show ¬ (("ended" : Str) = "take" ∧ 0 < c) from fun z => absurd z.1 (by decide +kernel)), if_neg (show ¬ (("ended" : Str) = "close" ∧ b = false) from fun z => absurd z.1 (by decide +kernel))]
  cases b with
  | false => rw [if_neg (fun z => by cases z.2.1)]; rfl
  | true =>
    by_cases h : c = 0
    · rw [if_pos ⟨rfl, rfl, h⟩, decide_eq_true h]; rfl
    · rw [if_neg (fun z => h z.2.2), decide_eq_false h]; rfl
theorem beh_close (c : Nat) (b : Bool) (bd : Int) : (beh "close" c b bd).isSome = !b := by
  unfold beh beh2 beh3 beh4
  rw [if_neg (show ¬ (("close" : Str) = "send" ∧ b = false ∧ (c : Int) < bd) from fun z => absurd z.1 (by decide +kernel)), if_neg (show ¬ (("close" : Str) = "take" ∧ 0 < c) from fun z => absurd z.1 (by decide +kernel)), if_neg (show ¬ (("close" : Str) = "ended" ∧ b = true ∧ c = 0) from fun z => absurd z.1 (by decide +kernel))]
  cases b with
  | true => rw [if_neg (fun z => by cases z.2)]; rfl
  | false => rw [if_pos ⟨rfl, rfl⟩]; rfl
theorem ok_able {f : Addr} {fd : FuncData} (F : Fun K "_law_able" "_law_able" s_able f fd) :
    FnOk P w K mg base CX0 1 f fd ["_law_bounds_here", "_law_counted", "_law_word", "_law_lane"] spAble := by
  refine F.ok sc_able (fun vs H Q E h => ?_) (fun cdv A outer s H vs Q E hr h => ?_)
  · obtain ⟨db, dc, word, x, kb, kc, sv, c, b, bd, rfl, _⟩ := h
    rfl
  · obtain ⟨db, dc, word, x, kb, kc, sv, c, b, bd, rfl, hdb, hdc, hb, hc, hsv, hw, q⟩ := h
    obtain ⟨a, rfl, ha⟩ := st_inv hsv
    have hu := hu_of hr
    refine ⟨_, (pss_cons (ps_asg (pe_dget hu (pv 1) (pv 3) (fun _ _ => rfl)) (pg_tup (by rfl) (pgs_cons (pg_name (i := 4) sc_able.nd rfl (.inl rfl)) (pgs_cons (pg_name (i := 5) sc_able.nd rfl (.inl rfl)) pgs_nil))))
    (pss_cons (ps_if (pt_cmpR op_eq (pv 2) pe_str (nomark _))
      (pss_one (ps_ret (pe_and (pe_cmpR op_lt (pv 4) (pe_dget hu (pv 0) (pv 3) (fun _ _ => rfl)) (nomark _)) (pe_one (pe_not (pv 5))))))
      pss_nil)
    (pss_cons (ps_if (pt_cmpR op_eq (pv 2) pe_str (nomark _))
      (pss_one (ps_ret (pe_cmpR op_gt (pv 4) pe_int (nomark _))))
      pss_nil)
    (pss_one (ps_ret (pe_ifExp (pt_cmpR op_eq (pv 2) pe_str (nomark _)) (pe_and (pv 5) (pe_one (pe_cmpR op_eq (pv 4) pe_int (nomark _)))) (pe_not (pv 5)))))))), ?_⟩
    have gc := DGet.k (k := Sum.inr x) hdc
    rw [hc] at gc
    have gb := DGet.k (k := Sum.inr x) hdb
    rw [hb] at gb
    refine ⟨_, rfl, _, rfl, dc, _, rfl, gc, a, _, rfl, SqT.of ha, rfl, _, _, rfl, _, _, rfl, rfl, ?_⟩
    refine ⟨_, rfl, rfl, _, rfl, ?_⟩
    refine ite2 (fun g0 => ?_) (fun g0 => ?_)
    · have g0' := dec_word.mp g0
      subst g0'
      rw [beh_send] at q
      refine ⟨_, rfl, _, rfl, _, rfl, db, _, rfl, gb, _, _, rfl, rfl, _, rfl, ?_⟩
      refine ite2 (fun g => ?_) (fun g => ?_)
      · rw [g, Bool.true_and] at q
        exact ⟨_, rfl, _, rfl, q⟩
      · rw [Bool.eq_false_iff.mpr g, Bool.false_and] at q
        exact q
    refine ⟨_, rfl, rfl, _, rfl, ?_⟩
    refine ite2 (fun g1 => ?_) (fun g1 => ?_)
    · have g1' := dec_word.mp g1
      subst g1'
      rw [beh_take] at q
      exact ⟨_, rfl, _, _, rfl, rfl, q⟩
    refine ⟨_, rfl, rfl, _, rfl, ?_⟩
    refine ite2 (fun g2 => ?_) (fun g2 => ?_)
    · have g2' := dec_word.mp g2
      subst g2'
      rw [beh_ended] at q
      refine ⟨_, rfl, _, rfl, ?_⟩
      refine ite2 (fun g => ?_) (fun g => ?_)
      · rw [g, Bool.true_and] at q
        refine ⟨_, rfl, rfl, ?_⟩
        have e : decide (V.int (c : Int) = V.int 0) = decide (c = 0) := by
          by_cases h : c = 0
          · rw [h]; rfl
          · rw [decide_eq_false h, decide_eq_false (fun z => h (by injection z with z; omega))]
        rw [e]
        exact q
      · rw [Bool.eq_false_iff.mpr g, Bool.false_and] at q
        exact q
    · have hcl : word = "close" := by
        unfold words4 at hw
        simp only [List.mem_cons, List.not_mem_nil, or_false] at hw
        rcases hw with h | h | h | h
        · exact h
        · exact absurd (dec_word.mpr h) g2
        · exact absurd (dec_word.mpr h) g0
        · exact absurd (dec_word.mpr h) g1
      subst hcl
      rw [beh_close] at q
      exact ⟨_, rfl, _, rfl, q⟩
end
end K17

set_option Elab.async false
set_option linter.all false
set_option maxRecDepth 100000
set_option maxHeartbeats 4000000
namespace K17
open PySem PySem.Spec PyProof.Rows L2 Ol RZ
open TL (tl)
section
variable {P : Program} {w : World} {K : PySem.W.Frag} {mg : Str → Option Value} {base : Heap} {C S : Addr}
/-! ### _law_bounds -/
def spBounds : Sp := fun vs H Q _ => ∃ (p an : Addr) (ys : List Str), vs = [.ref p, .ref an, .int 3] ∧ Bag H p ∧ H an = some (.lst (ys.map V.str)) ∧ ys.Nodup ∧ ys.length ≤ 3 ∧
  ∀ d H' ps, H d = none → Ext H H' → H' d = some (.dK (kvI ps)) → ps.map (·.1) = ys → (∀ q ∈ ps, 1 ≤ q.2 ∧ q.2 ≤ 3) → Q (.ref d) H'
abbrev s_bounds : Stmt := (topS 26)
theorem sc_bounds : FnScope ["_law_bag_here", "_law_names_here", "_law_greatest", "_law_found", "_law_name"] ["_law_bag_here", "_law_names_here", "_law_greatest"] (defScope s_bounds) := ⟨rfl, rfl, rfl, by decide +kernel, rfl, by decide +kernel, by decide +kernel⟩
theorem kvI_none {ps : List (Str × Int)} {x : Str} (h : x ∉ ps.map (·.1)) : valV (kvI ps) (.inr x) = none := by
  refine valV_none fun p hp e => h ?_
  unfold kvI at hp
  obtain ⟨q, hq, rfl⟩ := List.mem_map.mp hp
  have e' : q.1 = x := Sum.inr.inj e
  rw [← e']
  exact List.mem_map_of_mem hq
theorem ok_bounds {f : Addr} {fd : FuncData} (F : Fun K "_law_bounds" "_law_bounds" s_bounds f fd) (T : BT mg) (CT : Ca P w K mg base 1 "_law_take" ["_law_bag_here", "_law_many"] spTake) :
    FnOk P w K mg base CX0 2 f fd ["_law_bag_here", "_law_names_here", "_law_greatest"] spBounds := by
  refine F.ok sc_bounds (fun vs H Q E h => ?_) (fun cdv A outer s H vs Q E hr h => ?_)
  · obtain ⟨p, an, ys, rfl, _⟩ := h
    rfl
  · obtain ⟨p, an, ys, rfl, hB, hN, hnd, hl, q⟩ := h
    refine ⟨_, (pss_cons (ps_set (i := 3) sc_bounds.nd rfl (.inl rfl) pe_dnewK)
    (pss_cons (ps_for PassesOwn.never rfl (pi_list (pv 1)) (pg_name (i := 4) sc_bounds.nd rfl (.inl rfl))
      (pss_one (ps_dput (hu_of hr) (pv 3) (pv 4) (pe_ifExp (pt_cmpR op_gt (pe_callB call_len_seq (by rfl) T.n_len (by decide +kernel) (pa_cons (pv 1) pa_nil)) pe_int (nomark _)) pe_int (pe_op op_add pe_int (pe_ca CT (hr.mono (by decide)) (by rfl) (pa_cons (pv 0) (pa_cons (pv 2) pa_nil))))) rfl)))
    (pss_one (ps_ret (pv 3))))), ?_⟩
    intro d hd
    have e0 := Ext.new (o := .dK []) hd
    have ml : (ys.map V.str).length = ys.length := List.length_map ..
    refine ⟨_, rfl, an, rfl, ⟨_, SqL.of (e0 _ _ hN)⟩, ?_⟩
    refine for_list (xs := ys.map V.str) (fun i σ H' => ∃ v4 ps, σ = [some (.ref p), some (.ref an), some (.int 3), some (.ref d), v4] ∧ Ext H H' ∧ H' d = some (.dK (kvI ps)) ∧ ps.map (·.1) = ys.take i ∧ (∀ q ∈ ps, 1 ≤ q.2 ∧ q.2 ≤ 3))
      ⟨none, [], rfl, e0, upd_same, rfl, fun q hq => by cases hq⟩ (fun i σ H' _ ⟨_, _, _, e, _⟩ => SqL.of (e _ _ hN)) ?_ ?_
    · rintro i x σ H1 hx ⟨v4, ps, rfl, e, hd1, hps, hb⟩
      have hi : i < ys.length := by have := (List.getElem?_eq_some_iff.mp hx).1; rw [ml] at this; exact this
      rw [List.getElem?_map, List.getElem?_eq_getElem hi] at hx
      cases hx
      have hni : ys[i] ∉ ps.map (·.1) := fun z => by
        rw [hps] at z
        obtain ⟨j, hj, ej⟩ := List.getElem_of_mem z
        rw [List.length_take] at hj
        rw [List.getElem_take] at ej
        exact List.pairwise_iff_getElem.mp hnd j i (by omega) hi (by omega) ej
      have htk : ys.take (i + 1) = ys.take i ++ [ys[i]] := by rw [List.take_add_one, List.getElem?_eq_getElem hi]; rfl
      have hpl : ps.length ≤ 3 := by have := congrArg List.length hps; rw [List.length_map, List.length_take] at this; omega
      -- what is stored
      have put : ∀ (z : Int) (H2 : Hp), Ext H H2 → H2 d = some (.dK (kvI ps)) → 1 ≤ z → z ≤ 3 →
          ∃ ps', (upd H2 d (.dK (putK (kvI ps) (.inr ys[i]) (.int z)))) d = some (.dK (kvI ps')) ∧ ps'.map (·.1) = ys.take (i + 1) ∧ (∀ q ∈ ps', 1 ≤ q.2 ∧ q.2 ≤ 3) := by
        intro z H2 e2 h2 z1 z3
        refine ⟨ps ++ [(ys[i], z)], ?_, ?_, ?_⟩
        · rw [upd_same, putK_new (kvI_none hni)]
          unfold kvI
          rw [List.map_append]
          rfl
        · rw [List.map_append, hps, htk]
          rfl
        · intro q hq
          rcases List.mem_append.mp hq with h | h
          · exact hb q h
          · rw [List.mem_singleton.mp h]; exact ⟨z1, z3⟩
      refine ⟨_, rfl, an, _, rfl, .inl (SqL.of (e _ _ hN)), _, _, rfl, rfl, _, rfl, ?_⟩
      refine ite2 (fun _ => ?_) (fun _ => ?_)
      · obtain ⟨ps', g1, g2, g3⟩ := put 1 H1 e hd1 (by decide) (by decide)
        exact ⟨_, rfl, _, rfl, d, _, rfl, DPut.k (k := Sum.inr ys[i]) hd1 (by unfold kvI; rw [List.length_map]; exact Nat.lt_of_le_of_lt hpl (by decide)), _, ps', rfl, Ext.mut e hd, g1, g2, g3⟩
      · refine ⟨_, rfl, _, rfl, p, 3, rfl, hB.up e, by decide, by decide, fun r r0 r1 => ?_⟩
        obtain ⟨ps', g1, g2, g3⟩ := put (1 + r) H1 e hd1 (by omega) (by omega)
        exact ⟨_, _, rfl, rfl, _, rfl, _, rfl, d, _, rfl, DPut.k (k := Sum.inr ys[i]) hd1 (by unfold kvI; rw [List.length_map]; exact Nat.lt_of_le_of_lt hpl (by decide)), _, ps', rfl, Ext.mut e hd, g1, g2, g3⟩
    · rintro σ H' ⟨v4, ps, rfl, e, hd1, hps, hb⟩
      rw [ml, List.take_length] at hps
      exact ⟨_, rfl, q d H' ps hd e hd1 hps hb⟩
end
end K17

set_option Elab.async false
set_option linter.all false
set_option maxRecDepth 100000
set_option maxHeartbeats 4000000
namespace K17
open PySem PySem.Spec PyProof.Rows L2 Ol RZ
open TL (tl)
section
variable {P : Program} {w : World} {K : PySem.W.Frag} {mg : Str → Option Value} {base : Heap} {C S : Addr}
/-! ### _law_shut -/
theorem DqAll_app {H : Hp} : ∀ {xs ys : List V} {ds es : List PyData}, DqAll H xs ds → DqAll H ys es → DqAll H (xs ++ ys) (ds ++ es)
  | _, _, _, _, .nil, h => h
  | _, _, _, _, .cons a t, h => .cons a (DqAll_app t h)
theorem rowD_step (p : Str → Str → Bool) (ns : List Str) (x : Str) (j : Nat) (hj : j < ns.length) :
    rowD p (ns.take (j + 1)) x = rowD p (ns.take j) x ++ (if p x ns[j] = true then [.tuple [.str x, .str ns[j]]] else []) := by
  have h2 : ns.take (j + 1) = ns.take j ++ [ns[j]] := by
    rw [List.take_add_one, List.getElem?_eq_getElem hj]
    rfl
  rw [h2]
  unfold rowD
  rw [List.filter_append, List.map_append]
  congr 1
  by_cases c : p x ns[j] = true
  · rw [if_pos c, List.filter_cons, if_pos c]
    rfl
  · rw [if_neg c, List.filter_cons, if_neg c]
    rfl
/-- a dict of states -/
def Sts (H : Hp) (kc : List (Key × V)) (ns : List Str) (st : Str → Nat × Bool) : Prop := ∀ x ∈ ns, ∃ sv, valV kc (.inr x) = some sv ∧ Dq H sv (stD (st x).1 (st x).2)
theorem Sts.up {H H' : Hp} {kc : List (Key × V)} {ns : List Str} {st : Str → Nat × Bool} (e : Ext H H') (h : Sts H kc ns st) : Sts H' kc ns st := fun x hx => by
  obtain ⟨sv, h1, h2⟩ := h x hx
  exact ⟨sv, h1, h2.up e⟩
def spLShut : Sp := fun vs H Q _ => ∃ (db dc : Addr) (ps : List (Str × Int)) (kc : List (Key × V)) (ns : List Str) (st : Str → Nat × Bool), vs = [.ref db, .ref dc] ∧ H db = some (.dK (kvI ps)) ∧ H dc = some (.dK kc) ∧ ps.length ≤ 3 ∧
  ns.Perm (ps.map (·.1)) ∧ sortedS ns = true ∧ Sts H kc ns st ∧ ∀ r H', Ext H H' → Dq H' r (shutD ns st (bdOf ps)) → Q r H'
abbrev s_lshut : Stmt := (topS 28)
theorem sc_lshut : FnScope ["_law_bounds_here", "_law_counted", "_law_found", "_law_word", "_law_lane"] ["_law_bounds_here", "_law_counted"] (defScope s_lshut) := ⟨rfl, rfl, rfl, by decide +kernel, rfl, by decide +kernel, by decide +kernel⟩
theorem ok_lshut {f : Addr} {fd : FuncData} (F : Fun K "_law_shut" "_law_shut" s_lshut f fd) (T : BT mg)
    (CAb : Ca P w K mg base 1 "_law_able" ["_law_bounds_here", "_law_counted", "_law_word", "_law_lane"] spAble) :
    FnOk P w K mg base CX0 2 f fd ["_law_bounds_here", "_law_counted"] spLShut := by
  refine F.ok sc_lshut (fun vs H Q E h => ?_) (fun cdv A outer s H vs Q E hr h => ?_)
  · obtain ⟨db, dc, ps, kc, ns, st, rfl, _⟩ := h
    rfl
  · obtain ⟨db, dc, ps, kc, ns, st, rfl, hdb, hdc, hl3, hperm, hso, hst, q⟩ := h
    refine ⟨_, (pss_cons (ps_set (i := 2) sc_lshut.nd rfl (.inl rfl) (pe_lst pa_nil))
      (pss_cons (ps_for PassesOwn.never rfl (pi_tup (pe_tup (pa_cons pe_str (pa_cons pe_str (pa_cons pe_str (pa_cons pe_str pa_nil)))))) (pg_name (i := 3) sc_lshut.nd rfl (.inr rfl))
        (pss_one (ps_aug (i := 2) sc_lshut.nd rfl (.inl rfl) (pe_lc (own := [("_law_lane", 4)]) (g := gName 4) rfl sc_lshut.nd (pi_list (pe_callB (call_sortedD rfl) (by rfl) T.n_sorted (by decide +kernel) (pa_cons (pv 0) pa_nil))) (blkOk_by (N := ["_law_bounds_here", "_law_counted", "_law_found", "_law_word", "_law_lane"]) (sc := defScope s_lshut) (by decide +kernel)) (fun _ _ _ _ _ => pg_name (i := 4) sc_lshut.nd rfl (.inl rfl))
          (fun _ _ _ _ _ => pts_one (pt_not (pt_val (pe_ca CAb (hr.mono (by decide)) (by rfl) (pa_cons (pv 0) (pa_cons (pv 1) (pa_cons (pv 3) (pa_cons (pv 4) pa_nil)))))))) (fun _ _ _ _ _ => pe_tup (pa_cons (pv 3) (pa_cons (pv 4) pa_nil)))) (ti := rExt2) iop_ext)))
      (pss_one (ps_ret (pv 2))))), ?_⟩
    refine ⟨by show 0 ≤ sizeLine; decide, fun l0 hl0 => ?_⟩
    refine ⟨by show 4 ≤ sizeLine; decide, fun t0 ht0 => ⟨t0, rfl, ⟨_, SqT.of upd_same⟩, ?_⟩⟩
    have e1 := Ext.new (o := .lst []) hl0
    have e2 := Ext.new (o := .tup [.str "close", .str "ended", .str "send", .str "take"]) ht0
    have a0 : upd (upd H l0 (.lst [])) t0 (.tup [.str "close", .str "ended", .str "send", .str "take"]) l0 = some (.lst []) := e2 _ _ upd_same
    have at0 : upd (upd H l0 (.lst [])) t0 (.tup [.str "close", .str "ended", .str "send", .str "take"]) t0 = some (.tup wordsV) := upd_same
    have e12 := e1.trans e2
    generalize upd (upd H l0 (.lst [])) t0 (.tup [.str "close", .str "ended", .str "send", .str "take"]) = H2 at *
    have eH : Ext H (del H2 l0) := ext_to e12 hl0
    have dt0 : del H2 l0 t0 = some (.tup wordsV) := by
      rw [del_ne (fun z => by rw [z, a0] at at0; cases at0)]
      exact at0
    have nl : ns.length ≤ 3 := by rw [hperm.length_eq, List.length_map]; exact hl3
    refine for_tup (xs := wordsV) (fun i σ H' => ∃ sw xs, σ = [some (.ref db), some (.ref dc), some (.ref l0), sw, none] ∧ Ext (del H2 l0) (del H' l0) ∧ H' l0 = some (.lst xs) ∧ DqAll (del H' l0) xs (prS (shutP st (bdOf ps)) ns i 0) ∧ xs.length ≤ 3 * i)
      ⟨none, [], rfl, Ext.refl _, a0, by rw [prS_zero]; exact .nil, by simp⟩ (fun i σ H' _ ⟨_, _, _, e, _⟩ => SqT.of (del_ext _ _ (e _ _ dt0))) ?_ ?_
    · rintro i x σ H' hx ⟨sw, xs, rfl, e, hxs, hd, hxl⟩
      have hi4 : i < words4.length := (List.getElem?_eq_some_iff.mp hx).1
      have hx' : some (V.str words4[i]) = some x := by
        rw [← hx]
        unfold wordsV
        rw [List.getElem?_map, List.getElem?_eq_getElem hi4]
        rfl
      have hwm : words4[i] ∈ words4 := List.getElem_mem hi4
      have hwq : words4[i]? = some words4[i] := List.getElem?_eq_getElem hi4
      generalize words4[i] = wd at hx' hwm hwq
      obtain rfl : V.str wd = x := Option.some.inj hx'
      have hi4' : i < 4 := hi4
      have eH' : Ext H H' := (eH.trans e).trans del_ext
      have kl : (kvI ps).map (·.1) = (ps.map (·.1)).map Sum.inr := by
        unfold kvI
        rw [List.map_map, List.map_map]
        rfl
      refine ⟨_, rfl, _, rfl, db, _, _, rfl, Rd.of (eH' _ _ hdb), kl, (by rw [List.length_map]; omega), fun ys p1 hperm2 hso2 hp1 => ?_⟩
      obtain rfl : ys = ns := sorted_one hso2 hso (hperm2.trans hperm.symm)
      have e3 := Ext.new (o := .lst (ys.map V.str)) hp1
      have ml : (ys.map V.str).length = ys.length := List.length_map ..
      refine ⟨p1, rfl, ⟨_, SqL.of upd_same⟩, fun D hD => ?_⟩
      refine lc1_acc (walk_list (xs := ys.map V.str)) (fun j zs Hz => DqAll (del Hz l0) zs (rowD (shutP st (bdOf ps)) (ys.take j) wd) ∧ zs.length ≤ j ∧ j ≤ 3) (fun _ _ _ _ e h => ⟨DqAll.up (ext_del e) h.1, h.2⟩) ⟨.nil, by simp, by decide⟩ hD
        (fun j zs Hz h => Nat.lt_of_le_of_lt (show zs.length ≤ 3 by have := h.2; omega) (by decide)) (fun Hz ez => SqL.of (ez _ _ upd_same)) ?_ ?_
      · rintro j y Ha Hb zs hj ea hya ⟨rfl, hyj⟩ ⟨q1, q2, q3⟩ QY QN kY kN
        rw [ml] at hj
        rw [List.getElem?_map, List.getElem?_eq_getElem hj] at hyj
        cases hyj
        have e0 : Ext H Hb := (eH'.trans e3).trans ea
        obtain ⟨sv, hsv, dsv⟩ := hst _ (List.getElem_mem hj)
        refine ⟨rfl, ?_⟩
        refine ⟨_, rfl, _, rfl, _, rfl, _, rfl, db, dc, wd, ys[j], _, _, sv, (st ys[j]).1, (st ys[j]).2, bdOf ps ys[j], rfl, e0 _ _ hdb, e0 _ _ hdc, kvI_val (hperm.mem_iff.mp (List.getElem_mem hj)), hsv, dsv.up e0, hwm, ?_⟩
        refine ⟨_, rfl, ?_⟩
        have hstep := rowD_step (shutP st (bdOf ps)) ys wd j hj
        have hl0b : Hb l0 = some (.lst xs) := ea _ _ (e3 _ _ hxs)
        cases hso3 : (beh wd (st ys[j]).1 (st ys[j]).2 (bdOf ps ys[j])).isSome with
        | true =>
          refine iteF ?_
          have hz : shutP st (bdOf ps) wd ys[j] = false := congrArg Bool.not hso3
          refine kN _ (Ext.refl _) ⟨?_, by omega, by omega⟩
          rw [hstep, if_neg (by rw [hz]; decide), List.append_nil]
          exact q1
        | false =>
          refine iteT ?_
          have hz : shutP st (bdOf ps) wd ys[j] = true := congrArg Bool.not hso3
          refine ⟨_, rfl, _, rfl, by show 2 ≤ sizeLine; decide, fun p2 hp2 => ?_⟩
          have en := Ext.new (o := .tup [.str wd, .str ys[j]]) hp2
          refine kY (.ref p2) _ en ⟨?_, by rw [List.length_append]; simp; omega, by omega⟩
          rw [hstep, if_pos hz]
          have n2 : p2 ≠ l0 := fun z => by rw [z, hl0b] at hp2; cases hp2
          exact DqAll_snoc (DqAll.up (ext_del (ext_del en)) q1) (.tup (by rw [del_ne n2]; exact del_at hp2 hya upd_same) (.cons (.str _) (.cons (.str _) .nil)))
      · rintro H4 zs e4 hzs ⟨hp, hpl, _⟩
        rw [ml] at hp hpl
        rw [List.take_length] at hp
        have hl04 : H4 l0 = some (.lst xs) := e4 _ _ (e3 _ _ hxs)
        have hw : words4.length = 4 := rfl
        refine ⟨l0, D, xs, zs, rfl, rfl, hl04, hzs, Nat.le_trans (show _ ≤ 12 + 3 by omega) (by decide), ?_⟩
        refine ⟨_, _, rfl, ?_, upd_same, ?_, by rw [List.length_append]; omega⟩
        · rw [del_upd]
          exact e.trans (ext_del (e3.trans e4))
        · rw [del_upd, prS_zero, List.take_add_one, hwq, List.flatMap_append]
          rw [prS_zero] at hd
          refine DqAll_app (DqAll.up (ext_del (e3.trans e4)) hd) ?_
          simpa using hp
    · rintro σ H' ⟨sw, xs, rfl, e, hxs, hd, hxl⟩
      refine ⟨_, rfl, q _ _ ((eH.trans e).trans del_ext) (.lst hxs ?_)⟩
      rw [prS_zero] at hd
      exact DqAll.up del_ext hd
end
end K17

set_option Elab.async false
set_option linter.all false
set_option maxRecDepth 100000
set_option maxHeartbeats 4000000
namespace K17
open PySem PySem.Spec PyProof.Rows L2 Ol RZ
open TL (tl)
/-! ### sizes -/
theorem nd_st (c : Nat) (b : Bool) : Nd (stD c b) := .tup (.cons (.int _) (.cons (.bl _) .nil))
theorem nd_ct (cs : List (Nat × Bool)) : Nd (ctD cs) := .tup (NdAll.of fun d hd => by
  obtain ⟨s, _, rfl⟩ := List.mem_map.mp hd
  exact nd_st _ _)
theorem nd_all (f : List (List (Nat × Bool))) : Nd (.list (f.map ctD)) := .lst (NdAll.of fun d hd => by
  obtain ⟨s, _, rfl⟩ := List.mem_map.mp hd
  exact nd_ct _)
theorem lay_all : ∀ {ds : List PyData}, (∀ d ∈ ds, d.canLay0 = true) → PyData.canLayAll0 ds = true
  | [], _ => by simp [PyData.canLayAll0]
  | d :: ds, h => by simp [PyData.canLayAll0, h d List.mem_cons_self, lay_all fun e he => h e (List.mem_cons_of_mem _ he)]
theorem lay_shaped {d : PyData} (h : d.canLay0 = true) (hd : d.depth ≤ 64) : SeqAt.shaped d = true := by
  unfold SeqAt.shaped
  rw [h, decide_eq_true hd]
  rfl
theorem lay_st (c : Nat) (b : Bool) : (stD c b).canLay0 = true := by simp [stD, PyData.canLay0, PyData.canLayAll0]
theorem lay_ct (cs : List (Nat × Bool)) : (ctD cs).canLay0 = true := by
  unfold ctD
  rw [PyData.canLay0]
  refine lay_all fun d hd => ?_
  obtain ⟨s, _, rfl⟩ := List.mem_map.mp hd
  exact lay_st _ _
theorem lay_cts (f : List (List (Nat × Bool))) : (PyData.list (f.map ctD)).canLay0 = true := by
  rw [PyData.canLay0]
  refine lay_all fun d hd => ?_
  obtain ⟨s, _, rfl⟩ := List.mem_map.mp hd
  exact lay_ct _
theorem gd_st (c : Nat) (b : Bool) (h : c ≤ 3) : Gd 1 (stD c b) := by
  refine gd_tuple (fun d hd => ?_) (by simp)
  simp only [List.mem_cons, List.not_mem_nil, or_false] at hd
  rcases hd with rfl | rfl
  · have : c = 0 ∨ c = 1 ∨ c = 2 ∨ c = 3 := by omega
    rcases this with rfl | rfl | rfl | rfl <;> exact gd_int _ (by decide +kernel) (by decide +kernel)
  · exact gd_bl b
theorem gd_ct (cs : List (Nat × Bool)) (hl : cs.length ≤ 3) (h : ∀ s ∈ cs, s.1 ≤ 3) : Gd 2 (ctD cs) := by
  refine gd_tuple (fun d hd => ?_) (by unfold ctL; rw [List.length_map]; omega)
  obtain ⟨s, hs, rfl⟩ := List.mem_map.mp hd
  exact gd_st _ _ (h s hs)
theorem fits_list {n : Nat} {ds : List PyData} (h : ∀ d ∈ ds, Gd n d) (hn : n ≤ 3) (h5 : ds.length ≤ 20) : Fits (.list ds) := by
  have h' : ∀ d ∈ ds, Gd 3 d := fun d hd => (h d hd).up hn
  obtain ⟨h1, h2, h3, h4⟩ := all_sh h'
  refine ⟨by simpa [PyData.showable] using h1, by simp only [PyData.depth]; omega, ?_⟩
  simp only [PyData.shown]
  have z := pile_le _ h3
  have z1 := listText_le (PyData.shownAll ds)
  rw [h4] at z
  have z2 : ds.length * (200 * 8 ^ 3 + 2) ≤ 20 * (200 * 8 ^ 3 + 2) := Nat.mul_le_mul_right _ h5
  exact Nat.le_trans (show _ ≤ 20 * (200 * 8 ^ 3 + 2) + 2 by omega) (by decide)
theorem name_gd {x : Str} (h : isNameS x = true) : Gd 0 (.str x) := by
  obtain ⟨h1, h2, h3⟩ := name_tl h
  exact gd_str x (by rw [tlen]; omega) fun c hc => abc_low c (h3 c hc)
theorem word_gd : ∀ x ∈ words4, Gd 0 (.str x) := fun x hx => by
  unfold words4 at hx
  simp only [List.mem_cons, List.not_mem_nil, or_false] at hx
  rcases hx with rfl | rfl | rfl | rfl <;> exact gd_str _ (by decide +kernel) (by decide +kernel)
theorem row_mem {ns : List Str} {p : Str → Str → Bool} {d : PyData} (h : d ∈ words4.flatMap (rowD p ns)) : ∃ x ∈ words4, ∃ y ∈ ns, d = .tuple [.str x, .str y] := by
  obtain ⟨x, hx, h⟩ := List.mem_flatMap.mp h
  obtain ⟨y, hy, rfl⟩ := List.mem_map.mp h
  exact ⟨x, hx, y, (List.mem_filter.mp hy).1, rfl⟩
theorem row_len (ns : List Str) (p : Str → Str → Bool) (hn : ns.length ≤ 3) : (words4.flatMap (rowD p ns)).length ≤ 12 := by
  have h : ∀ x, (rowD p ns x).length ≤ 3 := fun x => by
    unfold rowD
    rw [List.length_map]
    exact Nat.le_trans (List.length_filter_le _ _) hn
  unfold words4
  simp only [List.flatMap_cons, List.flatMap_nil, List.length_append, List.length_nil]
  have h1 := h "close"
  have h2 := h "ended"
  have h3 := h "send"
  have h4 := h "take"
  omega
theorem name_ok {x : Str} (h : isNameS x = true) : PyData.strOk x = true := by
  obtain ⟨h1, h2, h3⟩ := name_tl h
  unfold PyData.strOk
  rw [Array.all_eq_true_iff_forall_mem]
  intro c hc
  have hc' : c ∈ tl x := Array.mem_toList_iff.mpr hc
  exact decide_eq_true (Nat.lt_of_lt_of_le (abc_low c (h3 c hc')) (by decide))
theorem word_ok : ∀ x ∈ words4, PyData.strOk x = true := by decide +kernel
theorem shut_ok {ns : List Str} {st : Str → Nat × Bool} {bd : Str → Int} (hn : ns.length ≤ 3) (hm : ∀ y ∈ ns, isNameS y = true) : SeqAt.shaped (shutD ns st bd) = true ∧ Fits (shutD ns st bd) := by
  have g : ∀ d ∈ words4.flatMap (rowD (shutP st bd) ns), Gd 1 d := fun d hd => by
    obtain ⟨x, hx, y, hy, rfl⟩ := row_mem hd
    refine gd_tuple (fun e he => ?_) (by simp)
    simp only [List.mem_cons, List.not_mem_nil, or_false] at he
    rcases he with rfl | rfl
    · exact word_gd x hx
    · exact name_gd (hm y hy)
  have f := fits_list g (by decide) (Nat.le_trans (row_len ns _ hn) (by decide))
  refine ⟨lay_shaped ?_ (Nat.le_trans f.dep (by decide)), f⟩
  unfold shutD
  rw [PyData.canLay0]
  refine lay_all fun d hd => ?_
  obtain ⟨x, hx, y, hy, rfl⟩ := row_mem hd
  simp only [PyData.canLay0, PyData.canLayAll0, Bool.and_true, Bool.and_eq_true]
  exact ⟨(word_ok x hx), (name_ok (hm y hy))⟩
/-! ### what an arm does, by counting -/
def addW (word : Str) : Int := if word = "send" then 1 else if word = "take" then -1 else 0
theorem beh_counts {word : Str} {c : Nat} {b : Bool} {bd : Int} {s' : Nat × Bool} (hc : (c : Int) ≤ bd) (h : beh word c b bd = some s') :
    ((s'.1 : Nat) : Int) = (c : Int) + addW word ∧ s'.2 = (b || decide (word = "close")) ∧ (s'.1 : Int) ≤ bd := by
  unfold beh at h
  split at h
  · rename_i g
    obtain ⟨rfl, rfl, g3⟩ := g
    cases h
    refine ⟨by unfold addW; rw [if_pos rfl]; omega, by rw [decide_eq_false (by decide +kernel)]; rfl, by omega⟩
  · rename_i g0
    unfold beh2 at h
    split at h
    · rename_i g
      obtain ⟨rfl, g2⟩ := g
      cases h
      refine ⟨?_, ?_, by show ((c - 1 : Nat) : Int) ≤ bd; omega⟩
      · unfold addW
        rw [if_neg (by decide +kernel), if_pos rfl]
        show ((c - 1 : Nat) : Int) = _
        omega
      · rw [decide_eq_false (by decide +kernel), Bool.or_false]
    · rename_i g1
      unfold beh3 at h
      split at h
      · rename_i g
        obtain ⟨rfl, rfl, rfl⟩ := g
        cases h
        refine ⟨?_, by rfl, by omega⟩
        unfold addW
        rw [if_neg (by decide +kernel), if_neg (by decide +kernel)]
        omega
      · unfold beh4 at h
        split at h
        · rename_i g
          obtain ⟨rfl, rfl⟩ := g
          cases h
          refine ⟨?_, by rw [decide_eq_true rfl]; rfl, by omega⟩
          unfold addW
          rw [if_neg (by decide +kernel), if_neg (by decide +kernel)]
          omega
        · cases h
end K17

set_option Elab.async false
set_option linter.all false
set_option maxRecDepth 100000
set_option maxHeartbeats 4000000
namespace K17
open PySem PySem.Spec PyProof.Rows L2 Ol RZ
open TL (tl)
/-- st with another state at x -/
def stW (st : Str → Nat × Bool) (x : Str) (s : Nat × Bool) : Str → Nat × Bool := fun y => if y = x then s else st y
theorem map_stW {ns : List Str} (hd : ns.Nodup) (st : Str → Nat × Bool) (s : Nat × Bool) (j : Nat) (hj : j < ns.length) : ns.map (stW st ns[j] s) = (ns.map st).set j s := by
  refine List.ext_getElem (by simp) fun i h1 h2 => ?_
  rw [List.length_map] at h1
  rw [List.getElem_map, List.getElem_set]
  unfold stW
  by_cases c : j = i
  · subst c
    rw [if_pos rfl, if_pos rfl]
  · rw [if_neg c, if_neg, List.getElem_map]
    intro e
    rcases Nat.lt_or_gt_of_ne c with h | h
    · exact List.pairwise_iff_getElem.mp hd j i hj h1 h e.symm
    · exact List.pairwise_iff_getElem.mp hd i j h1 hj h e
theorem stsN_mem (c m : Nat) (b : Bool) (h : c < m) : (c, b) ∈ stsN m := by
  unfold stsN
  refine List.mem_flatMap.mpr ⟨c, List.mem_range.mpr h, ?_⟩
  unfold two
  cases b <;> simp
theorem sts_mem {c : Nat} {b : Bool} {bd : Int} (h : (c : Int) ≤ bd) : (c, b) ∈ sts bd := stsN_mem _ _ _ (by omega)
theorem fold_mem : ∀ (bs : List Int) (cs : List (Nat × Bool)) (f : List (List (Nat × Bool))) (c0 : List (Nat × Bool)), c0 ∈ f → OkCt cs bs → (c0 ++ cs) ∈ bs.foldl grow f
  | [], cs, f, c0, h, ok => by
    have := ok.len
    cases cs with
    | nil => rw [List.append_nil]; exact h
    | cons a b => simp at this
  | bd :: bs, cs, f, c0, h, ok => by
    have hl := ok.len
    cases cs with
    | nil => simp at hl
    | cons s cs =>
      have h1 := ok.le 0 s bd rfl rfl
      have ok2 : OkCt cs bs := ⟨by simpa using hl, fun i s' b' q1 q2 => ok.le (i + 1) s' b' q1 q2⟩
      have := fold_mem bs cs (grow f bd) (c0 ++ [s]) (grow_mem.mpr ⟨c0, h, s, sts_mem (b := s.2) h1, rfl⟩) ok2
      rw [List.append_assoc] at this
      exact this
theorem allCt_mem {bs : List Int} {cs : List (Nat × Bool)} (ok : OkCt cs bs) : cs ∈ allCt bs := fold_mem bs cs [[]] [] (List.mem_singleton.mpr rfl) ok
theorem dep_all {n : Nat} : ∀ {ds : List PyData}, (∀ d ∈ ds, d.depth ≤ n) → PyData.depthAll ds ≤ n
  | [], _ => by simp [PyData.depthAll]
  | d :: ds, h => by
    simp only [PyData.depthAll]
    exact Nat.max_le.mpr ⟨h d List.mem_cons_self, dep_all fun e he => h e (List.mem_cons_of_mem _ he)⟩
theorem dep_st (c : Nat) (b : Bool) : (stD c b).depth ≤ 2 := by simp [stD, PyData.depth, PyData.depthAll]
theorem dep_ct (cs : List (Nat × Bool)) : (ctD cs).depth ≤ 3 := by
  unfold ctD
  simp only [PyData.depth]
  have := dep_all (n := 2) (ds := ctL cs) fun d hd => by
    obtain ⟨s, _, rfl⟩ := List.mem_map.mp hd
    exact dep_st _ _
  omega
theorem cts_shaped (f : List (List (Nat × Bool))) : SeqAt.shaped (.list (f.map ctD)) = true := by
  refine lay_shaped (lay_cts f) ?_
  simp only [PyData.depth]
  have := dep_all (n := 3) (ds := f.map ctD) fun d hd => by
    obtain ⟨s, _, rfl⟩ := List.mem_map.mp hd
    exact dep_ct _
  omega
theorem ct_shaped (cs : List (Nat × Bool)) : SeqAt.shaped (ctD cs) = true := lay_shaped (lay_ct cs) (Nat.le_trans (dep_ct cs) (by decide))
theorem ct_any {bs : List Int} {cs : List (Nat × Bool)} (ok : OkCt cs bs) : (((allCt bs).map ctD).any fun z => PyData.eqv z (ctD cs)) = true :=
  List.any_eq_true.mpr ⟨ctD cs, List.mem_map_of_mem (allCt_mem ok), SeqAt.eqv_refl _ (lay_ct cs)⟩
theorem all_map {H : Hp} {f : Str → V} {g : Str → Nat × Bool} : ∀ {l : List Str}, (∀ x ∈ l, Dq H (f x) (stD (g x).1 (g x).2)) → DqAll H (l.map f) (ctL (l.map g))
  | [], _ => .nil
  | x :: l, h => .cons (h x List.mem_cons_self) (all_map fun y hy => h y (List.mem_cons_of_mem _ hy))
end K17

set_option Elab.async false
set_option linter.all false
set_option maxRecDepth 100000
set_option maxHeartbeats 4000000
namespace K17
open PySem PySem.Spec PyProof.Rows L2 Ol RZ
open TL (tl)
section
variable {P : Program} {w : World} {K : PySem.W.Frag} {mg : Str → Option Value} {base : Heap} {C S : Addr}
abbrev s_law : Stmt := (topS 30)
theorem sc_law : FnScope ["_law_script", "_law_bag_here", "_law_names_here", "_law_bounds_here", "_law_lanes", "_law_counted", "_law_name", "_law_content", "_law_seen", "_law_turn", "_law_lane", "_law_word", "_law_able_here", "_law_told", "_law_many", "_law_closed", "_law_due"] ["_law_script"] (defScope s_law) := ⟨rfl, rfl, rfl, by decide +kernel, rfl, by decide +kernel, by decide +kernel⟩
def spLaw (K : PySem.W.Frag) : Sp := fun vs H Q _ => ∃ (a : Addr) (ns : List Int), vs = [.ref a] ∧ Sys H ∧ SqL K H a (ns.map V.int) ∧ ns.length ≤ 63 ∧ ∀ H', Q (.bl true) H'
/-- Lanes made -/
structure MkL (P : Program) (w : World) (K : PySem.W.Frag) (mg : Str → Option Value) (base : Heap) (C : Addr) : Prop where
  has : ∃ (f : Addr) (fd : FuncData), FnOk P w K mg base CX0 4 f fd ["self", "bounds"] (spInit C) ∧ Mk K C f ∧ Binds K fd ["self", "bounds"] []
/-- the property first -/
structure PrF (P : Program) (w : World) (K : PySem.W.Frag) (mg : Str → Option Value) (base : Heap) (C : Addr) : Prop where
  has : ∃ (p g : Addr) (fd : FuncData), FnOk P w K mg base CX0 1 g fd ["self"] (spFirst C) ∧ PropOf K C "first" p g ∧ Binds K fd ["self"] []
structure CtsM (P : Program) (w : World) (K : PySem.W.Frag) (mg : Str → Option Value) (base : Heap) (C : Addr) : Prop where
  has : ∃ (f : Addr) (fd : FuncData), FnOk P w K mg base CX0 1 f fd ["self"] (spCts C) ∧ Meth K C "contents" f ∧ Binds K fd ["self"] []
theorem told_none {wd x : Str} (hw : wd ∈ words4) (hx : isNameS x = true) : Gd 2 (.tuple [.bool false, .tuple [.str wd, .str x]]) ∧ SeqAt.shaped (.tuple [.bool false, .tuple [.str wd, .str x]]) = true := by
  have g : Gd 2 (.tuple [.bool false, .tuple [.str wd, .str x]]) := by
    refine gd_tuple (fun d hd => ?_) (by simp)
    simp only [List.mem_cons, List.not_mem_nil, or_false] at hd
    rcases hd with rfl | rfl
    · exact (gd_bl _).up (by decide)
    · refine gd_tuple (fun d hd => ?_) (by simp)
      simp only [List.mem_cons, List.not_mem_nil, or_false] at hd
      rcases hd with rfl | rfl
      · exact word_gd _ hw
      · exact name_gd hx
  refine ⟨g, lay_shaped ?_ (Nat.le_trans g.dep (by decide))⟩
  simp only [PyData.canLay0, PyData.canLayAll0, Bool.and_true, Bool.true_and, Bool.and_eq_true]
  exact ⟨word_ok _ hw, name_ok hx⟩
theorem told_some {cs : List (Nat × Bool)} (hl : cs.length ≤ 3) (h : ∀ s ∈ cs, s.1 ≤ 3) : Fits (.tuple [.bool true, ctD cs]) ∧ SeqAt.shaped (.tuple [.bool true, ctD cs]) = true := by
  have g : Gd 3 (.tuple [.bool true, ctD cs]) := by
    refine gd_tuple (fun d hd => ?_) (by simp)
    simp only [List.mem_cons, List.not_mem_nil, or_false] at hd
    rcases hd with rfl | rfl
    · exact (gd_bl _).up (by decide)
    · exact gd_ct cs hl h
  refine ⟨g.fits (by decide), lay_shaped ?_ (Nat.le_trans g.dep (by decide))⟩
  simp only [PyData.canLay0, PyData.canLayAll0, Bool.and_true, Bool.true_and]
  exact lay_ct cs
theorem cutN {tf tg : TS} {D : Ends} {σ : L2.St} {H : Hp} (W : L2.St → Hp → Prop) (h1 : ∀ N : L2.St → Hp → Prop, (∀ σ' H', W σ' H' → N σ' H') → tf { D with nx := N } σ H) (h2 : ∀ σ' H', W σ' H' → tg D σ' H') : tSeq tf tg D σ H :=
  h1 _ h2
def seven : List V := [.str "send", .str "take", .str "send", .str "take", .str "send", .str "ended", .str "close"]
theorem seven_at : ∀ k, k < 7 → ∃ wd, seven[k]? = some (V.str wd) ∧ wd ∈ words4 := fun k hk => by
  have : k = 0 ∨ k = 1 ∨ k = 2 ∨ k = 3 ∨ k = 4 ∨ k = 5 ∨ k = 6 := by omega
  rcases this with rfl | rfl | rfl | rfl | rfl | rfl | rfl
  · exact ⟨"send", rfl, by decide +kernel⟩
  · exact ⟨"take", rfl, by decide +kernel⟩
  · exact ⟨"send", rfl, by decide +kernel⟩
  · exact ⟨"take", rfl, by decide +kernel⟩
  · exact ⟨"send", rfl, by decide +kernel⟩
  · exact ⟨"ended", rfl, by decide +kernel⟩
  · exact ⟨"close", rfl, by decide +kernel⟩
theorem sysUp {H H' : Hp} (h : Sys H) (e : Ext H H') : Sys H' := by
  obtain ⟨o, u, q⟩ := h
  exact ⟨o, u, e _ _ q⟩
theorem putK_len {kvs : List (Key × V)} {k : Key} {v : V} : (putK kvs k v).length ≤ kvs.length + 1 := by
  unfold putK
  split
  · rw [List.length_map]; omega
  · rw [List.length_append]; simp
theorem putK_same {kvs : List (Key × V)} {k : Key} {v u : V} (h : valV kvs k = some u) : (putK kvs k v).length = kvs.length := by
  unfold putK
  rw [valV_any, h]
  show (if true = true then _ else _ : List (Key × V)).length = _
  rw [if_pos rfl, List.length_map]
theorem ok_law {f : Addr} {fd : FuncData} (F : Fun K "law" "law" s_law f fd) (T : BT mg) (L : LT K mg C)
    (CB : Ca P w K mg base 1 "_law_bag" ["_law_script"] (spBag K)) (CT : Ca P w K mg base 1 "_law_take" ["_law_bag_here", "_law_many"] spTake)
    (CN : Ca P w K mg base 2 "_law_names" ["_law_bag_here", "_law_many"] spNames) (CBo : Ca P w K mg base 2 "_law_bounds" ["_law_bag_here", "_law_names_here", "_law_greatest"] spBounds)
    (CAb : Ca P w K mg base 1 "_law_able" ["_law_bounds_here", "_law_counted", "_law_word", "_law_lane"] spAble) (CSh : Ca P w K mg base 2 "_law_shut" ["_law_bounds_here", "_law_counted"] spLShut)
    (CTr : Ca P w K mg base 5 "_law_tried" ["_law_lanes", "_law_content", "_law_word", "_law_lane"] (spTried C)) (CA : Cg P w K mg base 1 "_law_alike" ["_law_found", "_law_due"] spAlike)
    (ML : MkL P w K mg base C) (PF : PrF P w K mg base C) (CC : CtsM P w K mg base C)
    (MI : Cm P w K mg base C 4 "is_content" ["self", "thing"] (spIsCt C)) (MS : Cm P w K mg base C 5 "shut" ["self", "content"] (spShut C)) :
    FnG P w K mg base 7 f fd ["_law_script"] (spLaw K) := by
  obtain ⟨fI, fdI, FI, mk, bI⟩ := ML.has
  obtain ⟨pF, gF, fdF, FF, pr, bF⟩ := PF.has
  obtain ⟨fC, fdC, FC, mc, bC⟩ := CC.has
  refine okG F sc_law (fun vs H Q E h => ?_) (fun cdv A outer s H vs Q E hG hr h => ?_)
  · obtain ⟨a, ns, rfl, _⟩ := h
    rfl
  · obtain ⟨a, zs, rfl, hS, hs, hl, q⟩ := h
    have hu65 : (A.deeper (envOfC "law" (defScope s_law) s.heap.objs.size f cdv)).units + 65 < cLine := by have := hr.un; omega
    refine ⟨_, (pss_cons (ps_set (i := 1) sc_law.nd rfl (.inl rfl) (pe_ca CB (hr.mono (by decide)) (by rfl) (pa_cons (pv 0) pa_nil)))
      (pss_cons (ps_set (i := 2) sc_law.nd rfl (.inl rfl) (pe_ca CN (hr.mono (by decide)) (by rfl) (pa_cons (pv 1) (pa_cons (pe_op op_add pe_int (pe_ca CT (hr.mono (by decide)) (by rfl) (pa_cons (pv 1) (pa_cons pe_int pa_nil)))) pa_nil))))
      (pss_cons (ps_set (i := 3) sc_law.nd rfl (.inl rfl) (pe_ca CBo (hr.mono (by decide)) (by rfl) (pa_cons (pv 1) (pa_cons (pv 2) (pa_cons pe_int pa_nil)))))
      (pss_cons (ps_asg (pe_tup (pa_cons (pe_make mk FI (hr.mono (by decide)) (by rfl) L.gC bI .nil pass0 (pa_cons (pv 3) pa_nil)) (pa_cons pe_dnewK pa_nil))) (pg_tup (by rfl) (pgs_cons (pg_name (i := 4) sc_law.nd rfl (.inl rfl)) (pgs_cons (pg_name (i := 5) sc_law.nd rfl (.inr rfl)) pgs_nil))))
      (pss_cons (ps_for PassesOwn.never rfl (pi_list (pv 2)) (pg_name (i := 6) sc_law.nd rfl (.inl rfl))
        (pss_one (ps_dput (hu_of hr) (pv 5) (pv 6) (pe_tup (pa_cons pe_int (pa_cons pe_bl pa_nil))) rfl)))
      (pss_cons (ps_par (i := 7) (j := 8) rfl sc_law.nd rfl rfl (by decide) rfl rfl (pa_cons (pe_prop (pv 4) L.cl pr FF (hr.mono (by decide)) bF .nil pass0 rfl) (pa_cons (pe_meth0 (pv 4) L.cl mc FC (hr.mono (by decide)) bC .nil pass0) pa_nil)) (by rfl))
      (pss_cons (ps_for PassesOwn.never rfl (pi_range1 (by rfl) T.n_range (pa_cons pe_int pa_nil)) (pg_name (i := 9) sc_law.nd rfl (.inl rfl))
        (pss_cons (ps_set (i := 10) sc_law.nd rfl (.inl rfl) (pe_ix ix_list (pv 2) (pe_ca CT (hr.mono (by decide)) (by rfl) (pa_cons (pv 1) (pa_cons (pe_callB call_len_seq (by rfl) T.n_len (by decide +kernel) (pa_cons (pv 2) pa_nil)) pa_nil))) (fun _ _ => rfl)))
        (pss_cons (ps_set (i := 11) sc_law.nd rfl (.inl rfl) (pe_ix ix_list (pe_lst (pa_cons pe_str (pa_cons pe_str (pa_cons pe_str (pa_cons pe_str (pa_cons pe_str (pa_cons pe_str (pa_cons pe_str pa_nil)))))))) (pe_ca CT (hr.mono (by decide)) (by rfl) (pa_cons (pv 1) (pa_cons pe_int pa_nil))) (fun _ _ => rfl)))
        (pss_cons (ps_if (PW.pt (pw_and (pt_cmpR op_eq (pv 11) pe_str (nomark _)) (pw_and1 (pt_cmpR op_lt (pv 9) pe_int (nomark _))))) (pss_one (ps_set (i := 11) sc_law.nd rfl (.inl rfl) pe_str)) pss_nil)
        (pss_cons (ps_par (i := 12) (j := 13) rfl sc_law.nd rfl rfl (by decide) rfl rfl (pa_cons (pe_ca CAb (hr.mono (by decide)) (by rfl) (pa_cons (pv 3) (pa_cons (pv 5) (pa_cons (pv 11) (pa_cons (pv 10) pa_nil))))) (pa_cons (pe_ca CTr (hr.mono (by decide)) (by rfl) (pa_cons (pv 4) (pa_cons (pv 7) (pa_cons (pv 11) (pa_cons (pv 10) pa_nil))))) pa_nil)) (by rfl))
        (pss_cons (ps_if (PW.pt (pw_and (pt_not (pt_val (pv 12))) (pw_and1 (pt_cmpR (op_neQ hr) (pv 13) (pe_tup (pa_cons pe_bl (pa_cons (pe_tup (pa_cons (pv 11) (pa_cons (pv 10) pa_nil))) pa_nil))) (nomark _))))) (pss_one (ps_ret pe_bl)) pss_nil)
        (pss_cons (ps_if (pt_val (pv 12))
          (pss_cons (ps_asg (pe_dget (hu_of hr) (pv 5) (pv 10) (fun _ _ => rfl)) (pg_tup (by rfl) (pgs_cons (pg_name (i := 14) sc_law.nd rfl (.inl rfl)) (pgs_cons (pg_name (i := 15) sc_law.nd rfl (.inl rfl)) pgs_nil))))
          (pss_cons (ps_aug (i := 14) sc_law.nd rfl (.inl rfl) (pe_ifExp (pt_cmpR op_eq (pv 11) pe_str (nomark _)) pe_int (pe_ifExp (pt_cmpR op_eq (pv 11) pe_str (nomark _)) (pe_un un_neg pe_int) pe_int)) ip_add)
          (pss_cons (ps_dput (hu_of hr) (pv 5) (pv 10) (pe_tup (pa_cons (pv 14) (pa_cons (pe_or (pv 15) (pe_one (pe_cmpR op_eq (pv 11) pe_str (nomark _)))) pa_nil))) rfl)
          (pss_cons (ps_set (i := 16) sc_law.nd rfl (.inl rfl) (pe_callTy call_tuple_of (by rfl) T.n_tuple (by decide +kernel) (pa_cons (pe_lc (own := [("_law_name", 6)]) (g := gName 6) (tt := tYes) rfl sc_law.nd (pi_list (pe_callB (call_sortedD rfl) (by rfl) T.n_sorted (by decide +kernel) (pa_cons (pv 3) pa_nil))) (blkOk_by (N := ["_law_script", "_law_bag_here", "_law_names_here", "_law_bounds_here", "_law_lanes", "_law_counted", "_law_name", "_law_content", "_law_seen", "_law_turn", "_law_lane", "_law_word", "_law_able_here", "_law_told", "_law_many", "_law_closed", "_law_due"]) (sc := defScope s_law) (by decide +kernel)) (fun _ _ _ _ _ => pg_name (i := 6) sc_law.nd rfl (.inl rfl)) (fun _ _ _ _ _ => pts_nil) (fun _ _ _ _ _ => pe_dget (hu_of hr) (pv 5) (pv 6) (fun _ _ => rfl))) pa_nil)))
          (pss_cons (ps_if (PW.pt (pw_or (pt_not (pt_val (pe_cg CA hG (hr.mono (by decide)) (by rfl) (pa_cons (pv 13) (pa_cons (pe_tup (pa_cons pe_bl (pa_cons (pv 16) pa_nil))) pa_nil))))) (pw_or (pt_cmpR (op_notInQ hu65) (pv 16) (pv 8) (by rfl)) (pw_or1 (pt_cmpR op_notBl (pe_cm MI L.cl (hr.mono (by decide)) (pv 4) (pa_cons (pv 16) pa_nil)) pe_bl (by rfl)))))) (pss_one (ps_ret pe_bl)) pss_nil)
          (pss_one (ps_set (i := 7) sc_law.nd rfl (.inl rfl) (pv 16)))))))) pss_nil)
        (pss_one (ps_if (pt_not (pt_val (pe_cg CA hG (hr.mono (by decide)) (by rfl) (pa_cons (pe_cm MS L.cl (hr.mono (by decide)) (pv 4) (pa_cons (pv 7) pa_nil)) (pa_cons (pe_ca CSh (hr.mono (by decide)) (by rfl) (pa_cons (pv 3) (pa_cons (pv 5) pa_nil))) pa_nil))))) (pss_one (ps_ret pe_bl)) pss_nil)))))))))
      (pss_one (ps_ret pe_bl))))))))), ?_⟩
    -- the bag, names, bounds
    refine ⟨_, rfl, a, zs, rfl, hs, by omega, fun p H1 e1 hb => ?_⟩
    refine ⟨_, rfl, _, rfl, p, 3, rfl, hb, by decide, by decide, fun r r0 r1 => ⟨_, _, rfl, rfl, p, 1 + r, rfl, hb, by omega, by omega, fun an ys H2 e2 nan han nys => ?_⟩⟩
    have ly : ys.length ≤ 3 := by rw [nys.len]; omega
    have ly1 : 1 ≤ ys.length := by rw [nys.len]; omega
    refine ⟨_, rfl, _, rfl, p, an, ys, rfl, hb.up e2, han, nys.nd, ly, fun db H3 ps ndb e3 hdb hps hpb => ?_⟩
    have lps : ps.length = ys.length := by rw [← hps, List.length_map]
    have pne : ps ≠ [] := fun z => by rw [z] at lps; simp at lps; omega
    -- Lanes and the counts
    refine ⟨_, rfl, fun lx dx nlx ndx nex => ?_⟩
    have eo := (Ext.new (o := .own lx) ndx)
    refine ⟨H3, lx, dx, db, ps, rfl, nlx, Ext.mut eo nlx, upd_same, hdb, pne, by omega, fun z hz => ⟨nys.ok _ (by rw [← hps]; exact List.mem_map_of_mem hz), (hpb z hz).1⟩, by rw [hps]; exact nys.nd, fun H4 ns e4 hperm hso hL => ⟨rfl, fun dc ndc => ⟨by show 2 ≤ sizeLine; decide, fun t nt => ?_⟩⟩⟩
    have S4 : Sys H4 := sysUp hS (((e1.trans e2).trans e3).trans e4)
    have hb4 : Bag H4 p := hb.up ((e2.trans e3).trans e4)
    have han4 : H4 an = some (.lst (ys.map V.str)) := (e3.trans e4) _ _ han
    have hdb4 : H4 db = some (.dK (kvI ps)) := e4 _ _ hdb
    rw [hps] at hperm
    have nmem : ∀ x, x ∈ ns ↔ x ∈ ys := fun x => hperm.mem_iff
    have ln : ns.length = ys.length := hperm.length_eq
    have e5 := Ext.new (o := .dK []) ndc
    have e6 := Ext.new (o := .tup [.ref lx, .ref dc]) nt
    refine ⟨t, _, rfl, SqT.of upd_same, rfl, _, _, rfl, _, _, rfl, rfl, ?_⟩
    have hdc6 : upd (upd H4 dc (.dK [])) t (.tup [.ref lx, .ref dc]) dc = some (.dK []) := e6 _ _ upd_same
    have e46 := e5.trans e6
    generalize upd (upd H4 dc (.dK [])) t (.tup [.ref lx, .ref dc]) = H6 at *
    have ml : (ys.map V.str).length = ys.length := List.length_map ..
    refine ⟨_, rfl, an, rfl, ⟨_, SqL.of (e46 _ _ han4)⟩, ?_⟩
    refine for_list (xs := ys.map V.str) (fun i σ H' => ∃ s6 kc, σ = [some (.ref a), some (.ref p), some (.ref an), some (.ref db), some (.ref lx), some (.ref dc), s6, none, none, none, none, none, none, none, none, none, none] ∧ Ext H4 H' ∧ H' dc = some (.dK kc) ∧ kc.length ≤ i ∧ Sts (del H' dc) kc (ys.take i) (fun _ => (0, false)))
      ⟨none, [], rfl, e46, hdc6, Nat.le_refl _, fun x hx => by cases hx⟩ (fun i σ H' _ ⟨_, _, _, e, _⟩ => SqL.of (e _ _ han4)) ?_ ?_
    · rintro i x σ H' hx ⟨s6, kc, rfl, e, hdc, hkl, hst⟩
      have hi : i < ys.length := by have := (List.getElem?_eq_some_iff.mp hx).1; rw [ml] at this; exact this
      rw [List.getElem?_map, List.getElem?_eq_getElem hi] at hx
      cases hx
      refine ⟨by show 2 ≤ sizeLine; decide, fun p2 hp2 => ?_⟩
      have en := Ext.new (o := .tup [.int 0, .bl false]) hp2
      refine ⟨_, rfl, _, rfl, dc, _, rfl, DPut.k (k := Sum.inr ys[i]) (en _ _ hdc) (Nat.lt_of_le_of_lt (Nat.le_trans hkl (show i ≤ 3 by omega)) (by decide)), _, _, rfl, Ext.mut (e.trans en) ndc, upd_same, Nat.le_trans putK_len (by omega), ?_⟩
      rw [del_upd]
      intro x hx
      rw [valV_put]
      by_cases c : x = ys[i]
      · rw [if_pos (by rw [c])]
        exact ⟨_, rfl, .tup (del_at hp2 hdc upd_same) (.cons (.int _) (.cons (.bl _) .nil))⟩
      · rw [if_neg (fun z => c (Sum.inr.inj z))]
        rw [List.take_add_one, List.getElem?_eq_getElem hi] at hx
        rcases List.mem_append.mp hx with h | h
        · obtain ⟨sv, h1, h2⟩ := hst x h
          exact ⟨sv, h1, h2.up (ext_del en)⟩
        · exact absurd (by simpa using h) c
    rintro σ H7 ⟨s6, kc, rfl, e7, hdc, hkl, hst⟩
    rw [ml] at hkl hst
    rw [List.take_length] at hst
    have hL7 := hL.up e7
    obtain ⟨dx2, nn, nb, nsp, l1, l2, l3, l4, l5, l6, l7, l8, l9⟩ := id hL7
    have hne : ns ≠ [] := fun z => by rw [z] at ln; simp at ln; omega
    have bd3 : ∀ x ∈ ns, 1 ≤ bdOf ps x ∧ bdOf ps x ≤ 3 := fun x hx => by
      obtain ⟨z, hz, _, e⟩ := bd_mem (ps := ps) (x := x) (by rw [hps]; exact (nmem x).mp hx)
      rw [← e]
      exact hpb z hz
    -- the first content, all contents
    refine ⟨_, rfl, lx, dx2, _, rfl, l1, lx, ns, _, rfl, hL7, hne, fun vc H8 e8 hvc => ?_⟩
    refine ⟨_, rfl, lx, dx2, _, rfl, e8 _ _ l1, lf_no _ _ _ (by decide +kernel) (by decide +kernel) (by decide +kernel), lx, ns, _, rfl, hL7.up e8, (by rw [List.length_map]; omega), (fun b hb => by obtain ⟨x, hx, rfl⟩ := List.mem_map.mp hb; exact (bd3 x hx).2), fun vsn H9 e9 hvsn => ⟨_, _, rfl, ?_⟩⟩
    have e79 := e8.trans e9
    have hdc9 : H9 dc = some (.dK kc) := e79 _ _ hdc
    refine ⟨_, rfl, by decide, by decide, for_range (n := 60) (fun i σ H' => ∃ (st : Str → Nat × Bool) (kc : List (Key × V)) (vc : V) (s6 s9 s10 s11 s12 s13 s14 s15 s16 : Option V),
        σ = [some (.ref a), some (.ref p), some (.ref an), some (.ref db), some (.ref lx), some (.ref dc), s6, some vc, some vsn, s9, s10, s11, s12, s13, s14, s15, s16] ∧ Ext H4 H' ∧ H' dc = some (.dK kc) ∧ kc.length ≤ 3 ∧
        Sts (del H' dc) kc ys st ∧ Dq (del H' dc) vc (ctD (ns.map st)) ∧ Dq (del H' dc) vsn (.list ((allCt (ns.map (bdOf ps))).map ctD)) ∧ ∀ x ∈ ns, ((st x).1 : Int) ≤ bdOf ps x)
      ⟨fun _ => (0, false), kc, vc, _, _, _, _, _, _, _, _, _, rfl, e7.trans e79, hdc9, by omega, hst.up (ext_del e79), Dq.off hdc9 (hvc.up e9) (nd_ct _), Dq.off hdc9 hvsn (nd_all _), fun x hx => by have := (bd3 x hx).1; show (0 : Int) ≤ _; omega⟩ ?_ ?_⟩
    · clear hst hkl hdc e79 hvc hvsn hdc9 e8 e9 l1 l2 l3 l4 e7 hL7
      rintro i σ H' hi ⟨st, kc, vc, s6, s9, s10, s11, s12, s13, s14, s15, s16, rfl, e, hdc, hkl, hst, hvc, hvsn, hle⟩
      have hL' := hL.up e
      obtain ⟨dx3, nn, nb, nsp, l1, l2, l3, l4, l5, l6, l7, l8, l9⟩ := id hL'
      -- the lane
      refine ⟨_, rfl, _, rfl, _, rfl, an, _, rfl, .inl (SqL.of (e _ _ han4)), p, _, rfl, hb4.up e, (by rw [ml]; omega), (by rw [ml]; omega), fun r r0 r1 => ?_⟩
      obtain ⟨k, rfl⟩ := Int.eq_ofNat_of_zero_le r0
      have hk : k < ys.length := by rw [ml] at r1; omega
      refine ⟨an, _, _, _, rfl, rfl, SqL.of (e _ _ han4), atI_nat (by rw [List.getElem?_map, List.getElem?_eq_getElem hk]; rfl), ?_⟩
      -- the word
      refine ⟨by show 7 ≤ sizeLine; decide, fun wl hwl => ?_⟩
      have ew := Ext.new (o := .lst seven) hwl
      have hwl2 : upd H' wl (.lst seven) wl = some (.lst seven) := upd_same
      show tCall spTake [] E0 _ _ (upd H' wl (.lst seven)) _
      generalize upd H' wl (.lst seven) = H1 at ew hwl2 ⊢
      have e0 := e.trans ew
      have hdc1 := ew _ _ hdc
      have hst1 := hst.up (ext_del (D := dc) ew)
      have hvc1 := hvc.up (ext_del (D := dc) ew)
      have hvsn1 := hvsn.up (ext_del (D := dc) ew)
      clear hst hvc hvsn hdc l1 l2 l3 l4 hL' e
      refine ⟨_, rfl, p, 7, rfl, hb4.up e0, by decide, by decide, fun r2 r20 r21 => ?_⟩
      obtain ⟨k2, rfl⟩ := Int.eq_ofNat_of_zero_le r20
      obtain ⟨wd, hwd, hwm⟩ := seven_at k2 (by omega)
      refine ⟨wl, _, _, _, rfl, rfl, SqL.of hwl2, atI_nat hwd, ?_⟩
      obtain ⟨j, hj, ej⟩ := List.getElem_of_mem ((nmem _).mpr (List.getElem_mem hk))
      rw [← ej]
      have hjy : ns[j] ∈ ys := (nmem _).mp (List.getElem_mem hj)
      clear ej hwd hwl2 ew
      dsimp only [gName]
      refine cutN (fun σ' H'' => H'' = H1 ∧ ∃ wd, wd ∈ words4 ∧ σ' = [some (.ref a), some (.ref p), some (.ref an), some (.ref db), some (.ref lx), some (.ref dc), s6, some vc, some vsn, some (.int (0 + (i : Int))), some (.str ns[j]), some (.str wd), s12, s13, s14, s15, s16]) (fun N hN => ?_) ?_
      · refine ⟨_, rfl, rfl, _, rfl, ?_⟩
        refine ite2 (fun g => ?_) (fun g => ?_)
        · refine ⟨_, rfl, _, _, rfl, rfl, _, rfl, ?_⟩
          refine ite2 (fun g => ?_) (fun g => ?_)
          · exact hN _ _ ⟨rfl, "send", by decide +kernel, rfl⟩
          · exact hN _ _ ⟨rfl, wd, hwm, rfl⟩
        · refine iteF ?_
          exact hN _ _ ⟨rfl, wd, hwm, rfl⟩
      clear hwm wd
      rintro σ' H'' ⟨rfl, wd, hwm, rfl⟩
      obtain ⟨sv, hsv, dsv⟩ := hst1 _ hjy
      have hL1 := hL.up e0
      have bdv : valV (kvI ps) (.inr ns[j]) = some (.int (bdOf ps ns[j])) := kvI_val (by rw [hps]; exact hjy)
      refine ⟨_, rfl, _, rfl, _, rfl, _, rfl, db, dc, wd, ns[j], _, _, sv, (st ns[j]).1, (st ns[j]).2, _, rfl, e0 _ _ hdb4, hdc1, bdv, hsv, dsv.up del_ext, hwm, ?_⟩
      have gst : (ns.map st)[j]? = some (st ns[j]) := by rw [List.getElem?_map, List.getElem?_eq_getElem hj]; rfl
      refine ⟨_, rfl, _, rfl, _, rfl, _, rfl, lx, ns, _, vc, ns.map st, wd, j, hj, st ns[j], bdOf ps ns[j], rfl, hL1, hvc1.up del_ext, gst, (by rw [List.getElem?_map, List.getElem?_eq_getElem hj]; rfl), (by rw [List.length_map]; omega), fun told H2t et htold => ⟨_, _, rfl, ?_⟩⟩
      have e02 := e0.trans et
      have hdc2 := et _ _ hdc1
      have hst2 := hst1.up (ext_del (D := dc) et)
      have hvc2 := hvc1.up (ext_del (D := dc) et)
      have hvsn2 := hvsn1.up (ext_del (D := dc) et)
      have dsv2 := dsv.up (ext_del (D := dc) et)
      clear hst1 hvc1 hvsn1 hdc1 dsv hL1 e0
      dsimp only
      generalize ho : beh wd (st ns[j]).1 (st ns[j]).2 (bdOf ps ns[j]) = o at htold ⊢
      refine cutN (fun σ' H'' => Ext H2t H'' ∧ σ' = [some (.ref a), some (.ref p), some (.ref an), some (.ref db), some (.ref lx), some (.ref dc), s6, some vc, some vsn, some (.int (0 + (i : Int))), some (.str ns[j]), some (.str wd), some (.bl o.isSome), some told, s14, s15, s16]) (fun N hN => ?_) ?_
      · refine ⟨_, rfl, _, rfl, ?_⟩
        cases o with
        | some s' =>
          refine iteF ?_
          exact hN _ _ ⟨Ext.refl _, rfl⟩
        | none =>
          refine iteT ?_
          have hsp := told_none (x := ns[j]) hwm (nys.ok _ hjy)
          refine ⟨_, rfl, _, rfl, _, rfl, by show 2 ≤ sizeLine; decide, fun t1 ht1 => ⟨by show 2 ≤ sizeLine; decide, fun t2 ht2 => ?_⟩⟩
          have f1 := Ext.new (o := .tup [.str wd, .str ns[j]]) ht1
          have f2 := Ext.new (o := .tup [.bl false, .ref t1]) ht2
          have eqr := SeqAt.eqv_refl _ (SeqAt.canLay_of_shaped hsp.2)
          refine ⟨.tuple [.bool false, .tuple [.str wd, .str ns[j]]], .tuple [.bool false, .tuple [.str wd, .str ns[j]]], sysUp S4 ((e02.trans f1).trans f2), htold.up (f1.trans f2), .tup upd_same (.cons (.bl _) (.cons (.tup (f2 _ _ upd_same) (.cons (.str _) (.cons (.str _) .nil))) .nil)), hsp.2, hsp.2, _, rfl, ?_⟩
          dsimp only
          rw [eqr]
          refine iteF ?_
          exact hN _ _ ⟨f1.trans f2, rfl⟩
      rintro σ' H3t ⟨et3, rfl⟩
      have e03 := e02.trans et3
      have hdc3 := et3 _ _ hdc2
      have hst3 := hst2.up (ext_del (D := dc) et3)
      have hvc3 := hvc2.up (ext_del (D := dc) et3)
      have hvsn3 := hvsn2.up (ext_del (D := dc) et3)
      have dsv3 := dsv2.up (ext_del (D := dc) et3)
      have htold3 := htold.up et3
      clear hst2 hvc2 hvsn2 hdc2 dsv2 e02 htold et et3
      refine cutN (fun σ' H' => ∃ (st : Str → Nat × Bool) (kc : List (Key × V)) (vc : V) (s6 s9 s10 s11 s12 s13 s14 s15 s16 : Option V),
        σ' = [some (.ref a), some (.ref p), some (.ref an), some (.ref db), some (.ref lx), some (.ref dc), s6, some vc, some vsn, s9, s10, s11, s12, s13, s14, s15, s16] ∧ Ext H4 H' ∧ H' dc = some (.dK kc) ∧ kc.length ≤ 3 ∧
        Sts (del H' dc) kc ys st ∧ Dq (del H' dc) vc (ctD (ns.map st)) ∧ Dq (del H' dc) vsn (.list ((allCt (ns.map (bdOf ps))).map ctD)) ∧ ∀ x ∈ ns, ((st x).1 : Int) ≤ bdOf ps x) (fun N hN => ?_) ?_
      · refine ⟨_, rfl, _, rfl, ?_⟩
        cases o with
        | none =>
          refine iteF ?_
          exact hN _ _ ⟨st, kc, vc, _, _, _, _, _, _, _, _, _, rfl, e03, hdc3, hkl, hst3, hvc3, hvsn3, hle⟩
        | some s' =>
          refine iteT ?_
          obtain ⟨q1, q2, q3⟩ := beh_counts (hle _ (List.getElem_mem hj)) ho
          obtain ⟨a', rfl, ha'⟩ := st_inv dsv3
          have gc := DGet.k (k := Sum.inr ns[j]) hdc3
          rw [hsv] at gc
          refine ⟨_, rfl, _, rfl, dc, _, rfl, gc, a', _, rfl, SqT.of (del_ext _ _ ha'), rfl, _, _, rfl, _, _, rfl, rfl, ?_⟩
          dsimp only
          refine cutN (fun σ' H' => H' = H3t ∧ ∃ z : Int, z = ((st ns[j]).1 : Int) + addW wd ∧ σ' = [some (.ref a), some (.ref p), some (.ref an), some (.ref db), some (.ref lx), some (.ref dc), s6, some vc, some vsn, some (.int (0 + (i : Int))), some (.str ns[j]), some (.str wd), some (.bl true), some told, some (.int z), some (.bl (st ns[j]).2), s16]) (fun N1 hN1 => ?_) ?_
          · refine ⟨_, rfl, _, rfl, rfl, _, rfl, ?_⟩
            refine ite2 (fun g => ?_) (fun g => ?_)
            · have g' := dec_word.mp g
              exact ⟨_, _, rfl, rfl, hN1 _ _ ⟨rfl, _, by rw [g']; rfl, rfl⟩⟩
            · refine ⟨_, rfl, rfl, _, rfl, ?_⟩
              have n1 : ¬ wd = "send" := fun z => g (dec_word.mpr z)
              refine ite2 (fun g2 => ?_) (fun g2 => ?_)
              · have g' := dec_word.mp g2
                refine ⟨_, rfl, _, _, rfl, rfl, hN1 _ _ ⟨rfl, _, ?_, rfl⟩⟩
                unfold addW
                rw [if_neg n1, if_pos g']
              · have n2 : ¬ wd = "take" := fun z => g2 (dec_word.mpr z)
                refine ⟨_, _, rfl, rfl, hN1 _ _ ⟨rfl, _, ?_, rfl⟩⟩
                unfold addW
                rw [if_neg n1, if_neg n2]
          rintro σ' H' ⟨rfl, z, hz, rfl⟩
          have hz' : z = ((s'.1 : Nat) : Int) := by rw [hz, ← q1]
          subst hz'
          clear hz
          refine cutN (fun σ' H'' => σ' = [some (.ref a), some (.ref p), some (.ref an), some (.ref db), some (.ref lx), some (.ref dc), s6, some vc, some vsn, some (.int (0 + (i : Int))), some (.str ns[j]), some (.str wd), some (.bl true), some told, some (.int ((s'.1 : Nat) : Int)), some (.bl (st ns[j]).2), s16] ∧
            ∃ p3, H'' dc = some (.dK (putK kc (.inr ns[j]) (.ref p3))) ∧ Ext H4 H'' ∧ Ext (del H' dc) (del H'' dc) ∧ (del H'' dc) p3 = some (.tup [.int ((s'.1 : Nat) : Int), .bl s'.2])) (fun N1 hN1 => ?_) ?_
          · have fin : ∀ bb : Bool, bb = s'.2 → ∀ p3, H' p3 = none → ∃ H5, DPut (upd H' p3 (.tup [.int ((s'.1 : Nat) : Int), .bl bb])) dc (.str ns[j]) (.ref p3) H5 ∧ H5 dc = some (.dK (putK kc (.inr ns[j]) (.ref p3))) ∧ Ext H4 H5 ∧ Ext (del H' dc) (del H5 dc) ∧ (del H5 dc) p3 = some (.tup [.int ((s'.1 : Nat) : Int), .bl s'.2]) := by
              intro bb hbb p3 hp3
              subst hbb
              have en := Ext.new (o := .tup [.int ((s'.1 : Nat) : Int), .bl s'.2]) hp3
              exact ⟨_, DPut.k (k := Sum.inr ns[j]) (en _ _ hdc3) (Nat.lt_of_le_of_lt hkl (by decide)), upd_same, Ext.mut (e03.trans en) ndc, by rw [del_upd]; exact ext_del en, by rw [del_upd]; exact del_at hp3 hdc3 upd_same⟩
            refine ⟨_, rfl, _, rfl, _, rfl, ?_⟩
            refine ite2 (fun g => ?_) (fun g => ?_)
            · refine ⟨by show 2 ≤ sizeLine; decide, fun p3 hp3 => ?_⟩
              obtain ⟨H5, f1, f2⟩ := fin true (by rw [q2, g]; rfl) p3 hp3
              exact ⟨_, rfl, _, rfl, dc, H5, rfl, f1, hN1 _ _ ⟨rfl, p3, f2⟩⟩
            · refine ⟨_, rfl, rfl, by show 2 ≤ sizeLine; decide, fun p3 hp3 => ?_⟩
              have hb : decide (V.str wd = V.str "close") = s'.2 := by
                rw [q2, Bool.eq_false_iff.mpr g, Bool.false_or]
                by_cases c : wd = "close"
                · rw [decide_eq_true c]; exact dec_word.mpr c
                · rw [decide_eq_false c]; exact Bool.eq_false_iff.mpr fun z => c (dec_word.mp z)
              obtain ⟨H5, f1, f2⟩ := fin _ hb p3 hp3
              exact ⟨_, rfl, _, rfl, dc, H5, rfl, f1, hN1 _ _ ⟨rfl, p3, f2⟩⟩
          rintro σ' H5 ⟨rfl, p3, hdc5, e05, e35, hp35⟩
          have hkl5 : (putK kc (.inr ns[j]) (.ref p3)).length ≤ 3 := by rw [putK_same hsv]; exact hkl
          have hst5 : Sts (del H5 dc) (putK kc (.inr ns[j]) (.ref p3)) ys (stW st ns[j] s') := fun x hx => by
            rw [valV_put]
            unfold stW
            by_cases c : x = ns[j]
            · rw [if_pos (by rw [c]), if_pos c]
              exact ⟨_, rfl, .tup hp35 (.cons (.int _) (.cons (.bl _) .nil))⟩
            · rw [if_neg (fun z => c (Sum.inr.inj z)), if_neg c]
              obtain ⟨sv, h1, h2⟩ := hst3 x hx
              exact ⟨sv, h1, h2.up e35⟩
          have hvc5 := hvc3.up e35
          have hvsn5 := hvsn3.up e35
          have hle5 : ∀ x ∈ ns, ((stW st ns[j] s' x).1 : Int) ≤ bdOf ps x := fun x hx => by
            unfold stW
            by_cases c : x = ns[j]
            · rw [if_pos c, c]; exact q3
            · rw [if_neg c]; exact hle x hx
          generalize putK kc (.inr ns[j]) (.ref p3) = kc5 at hdc5 hkl5 hst5
          have htold5 : Dq H5 told (.tuple [.bool true, ctD (ns.map (stW st ns[j] s'))]) := by
            have n : Nd (.tuple [.bool true, ctD ((ns.map st).set j s')]) := .tup (.cons (.bl _) (.cons (nd_ct _) .nil))
            rw [map_stW (hperm.nodup_iff.mpr nys.nd)]
            exact ((Dq.off hdc3 htold3 n).up e35).up del_ext
          clear hst3 hvc3 hvsn3 hdc3 dsv3 e03 htold3 ho hle hkl gst hsv gc ha' e35 hp35 q1 q2 q3
          generalize stW st ns[j] s' = st5 at *
          -- what is due
          have kl : (kvI ps).map (·.1) = (ps.map (·.1)).map Sum.inr := by
            unfold kvI
            rw [List.map_map, List.map_map]
            rfl
          refine ⟨_, rfl, db, _, _, rfl, Rd.of (e05 _ _ hdb4), kl, (by rw [hps]; omega), fun ys2 p4 hperm2 hso2 hp4 => ?_⟩
          rw [hps] at hperm2
          obtain rfl : ys2 = ns := sorted_one hso2 hso (hperm2.trans hperm.symm)
          have e4' := Ext.new (o := .lst (ys2.map V.str)) hp4
          refine ⟨p4, rfl, ⟨_, SqL.of upd_same⟩, fun D hD => ?_⟩
          have ml2 : (ys2.map V.str).length = ys2.length := List.length_map ..
          refine lc_det (w := walk_list (xs := ys2.map V.str)) (fun i => V.str (ys2.getD i Str.empty)) (fun _ => true) (fun i => (valV kc5 (.inr (ys2.getD i Str.empty))).getD .non) hD (by rw [ml2]; exact Nat.le_trans (show _ ≤ 3 by omega) (by decide)) ?_ (fun Hz ez => SqL.of (ez _ _ upd_same)) (fun _ _ _ _ _ h => tyes' h) ?_ ?_
          · rintro i Hi x H' hi ⟨rfl, hx⟩
            refine ⟨rfl, ?_⟩
            rw [List.getElem?_map] at hx
            rw [ml2] at hi
            rw [List.getElem?_eq_getElem hi] at hx
            rw [List.getD_eq_getElem?_getD, List.getElem?_eq_getElem hi]
            exact (Option.some.inj hx).symm
          · intro i Hi hi _ ei Q' q'
            rw [ml2] at hi
            have g := DGet.k (k := .inr (ys2.getD i Str.empty)) (ei _ _ (e4' _ _ hdc5))
            have hm : ys2.getD i Str.empty ∈ ys := by
              rw [List.getD_eq_getElem?_getD, List.getElem?_eq_getElem hi]
              exact (nmem _).mp (List.getElem_mem hi)
            obtain ⟨sv, h1, _⟩ := hst5 _ hm
            rw [h1] at g q'
            exact ⟨_, rfl, _, rfl, dc, _, rfl, g, q'⟩
          have mm : (((List.range (ys2.map V.str).length).filter fun _ => true).map fun i => (valV kc5 (.inr (ys2.getD i Str.empty))).getD .non) = ys2.map fun x => (valV kc5 (.inr x)).getD .non := by
            rw [ml2, List.filter_eq_self.mpr (fun _ _ => rfl)]
            exact range_getD (fun x => (valV kc5 (.inr x)).getD .non) Str.empty ys2
          rw [mm]
          refine ⟨D, _, rfl, .inl ⟨SqL.of upd_same, fun due hdue => ?_⟩⟩
          have e6' := (e4'.trans (Ext.new (o := .lst (ys2.map fun x => (valV kc5 (.inr x)).getD .non)) hD)).trans (Ext.new (o := .tup (ys2.map fun x => (valV kc5 (.inr x)).getD .non)) hdue)
          have hdue2 : (upd (upd (upd H5 p4 (.lst (ys2.map V.str))) D (.lst (ys2.map fun x => (valV kc5 (.inr x)).getD .non))) due (.tup (ys2.map fun x => (valV kc5 (.inr x)).getD .non))) due = some (.tup (ys2.map fun x => (valV kc5 (.inr x)).getD .non)) := upd_same
          generalize upd (upd (upd H5 p4 (.lst (ys2.map V.str))) D (.lst (ys2.map fun x => (valV kc5 (.inr x)).getD .non))) due (.tup (ys2.map fun x => (valV kc5 (.inr x)).getD .non)) = H6b at e6' hdue2 ⊢
          have hdc6b := e6' _ _ hdc5
          have hst6 := hst5.up (ext_del (D := dc) e6')
          have hvsn6 := hvsn5.up (ext_del (D := dc) e6')
          have htold6 := htold5.up e6'
          have e06 := e05.trans e6'
          have hduq : Dq (del H6b dc) (.ref due) (ctD (ys2.map st5)) := by
            refine .tup (by rw [del_ne (fun z => by rw [z, hdc6b] at hdue2; cases hdue2)]; exact hdue2) (all_map fun x hx => ?_)
            obtain ⟨sv, h1, h2⟩ := hst6 x ((nmem x).mp hx)
            rw [h1]
            exact h2
          clear hst5 hvsn5 hvc5 htold5 e05 e6' hdc5 e4' mm hdue2
          have okc : OkCt (ys2.map st5) (ys2.map (bdOf ps)) := by
            refine ⟨by simp, fun i s b h1 h2 => ?_⟩
            rw [List.getElem?_map] at h1 h2
            cases hx : ys2[i]? with
            | none => rw [hx] at h1; cases h1
            | some x =>
              rw [hx] at h1 h2
              cases h1
              cases h2
              exact hle5 x (List.mem_of_getElem? hx)
          have ts := told_some (cs := ys2.map st5) (by rw [List.length_map]; omega) (fun s hs => by
            obtain ⟨x, hx, rfl⟩ := List.mem_map.mp hs
            have h1 := hle5 x hx
            have h2 := (bd3 x hx).2
            omega)
          dsimp only [gName]
          refine ⟨_, rfl, _, rfl, by show 2 ≤ sizeLine; decide, fun t5 ht5 => ?_⟩
          have e7b := Ext.new (o := .tup [.bl true, .ref due]) ht5
          refine ⟨told, .ref t5, .tuple [.bool true, ctD (ys2.map st5)], rfl, sysUp S4 (e06.trans e7b), htold6.up e7b, .tup upd_same (.cons (.bl _) (.cons ((hduq.up del_ext).up e7b) .nil)), ts.2, ts.1, fun H8b e8b => ⟨_, rfl, ?_⟩⟩
          refine iteF ?_
          have e68 := e7b.trans e8b
          have e08 := e06.trans e68
          have hdq8 := hduq.up (ext_del (D := dc) e68)
          have hvsn8 := hvsn6.up (ext_del (D := dc) e68)
          refine ⟨_, rfl, _, rfl, ctD (ys2.map st5), (allCt (ys2.map (bdOf ps))).map ctD, sysUp S4 e08, hdq8.up del_ext, hvsn8.up del_ext, ct_shaped _, cts_shaped _, _, rfl, ?_⟩
          rw [ct_any okc]
          refine iteF ?_
          have hL8 := hL.up e08
          obtain ⟨dx8, nn8, nb8, nsp8, m1, _⟩ := id hL8
          refine ⟨_, rfl, lx, dx8, _, rfl, m1, lf_no _ _ _ (by decide +kernel) (by decide +kernel) (by decide +kernel), _, rfl, lx, ys2, _, .ref due, _, rfl, hL8, hdq8.up del_ext, okc, fun H9b e9b => ⟨true, true, rfl, rfl, _, rfl, ?_⟩⟩
          refine iteF ?_
          have e69 := e68.trans e9b
          exact ⟨_, rfl, hN _ _ ⟨st5, kc5, .ref due, _, _, _, _, _, _, _, _, _, rfl, e06.trans e69, e69 _ _ hdc6b, hkl5, hst6.up (ext_del e69), hduq.up (ext_del e69), hvsn6.up (ext_del e69), hle5⟩⟩
      clear hst3 hvc3 hvsn3 hdc3 dsv3 e03 htold3 ho hle hkl gst hsv
      rintro σ' H5 ⟨st, kc, vc, s6, s9, s10, s11, s12, s13, s14, s15, s16, rfl, e, hdc, hkl, hst, hvc, hvsn, hle⟩
      have hL5 := hL.up e
      obtain ⟨dx5, nn, nb, nsp, l1, l2, l3, l4, l5, l6, l7, l8, l9⟩ := id hL5
      refine ⟨_, rfl, lx, dx5, _, rfl, l1, lf_no _ _ _ (by decide +kernel) (by decide +kernel) (by decide +kernel), _, rfl, lx, ns, st, bdOf ps, vc, rfl, hL5, hvc.up del_ext, (by omega), fun r1 H6 e6 hr1 => ?_⟩
      refine ⟨_, rfl, _, rfl, db, dc, ps, kc, ns, st, rfl, (e.trans e6) _ _ hdb4, e6 _ _ hdc, (by omega), (by rw [hps]; exact hperm), hso, (fun x hx => ?_), fun r2 H7 e7 hr2 => ?_⟩
      · obtain ⟨sv, h1, h2⟩ := hst x ((nmem x).mp hx)
        exact ⟨sv, h1, (h2.up del_ext).up e6⟩
      have sk := shut_ok (st := st) (bd := bdOf ps) (show ns.length ≤ 3 by omega) l8
      refine ⟨r1, r2, shutD ns st (bdOf ps), rfl, sysUp S4 ((e.trans e6).trans e7), hr1.up e7, hr2, sk.1, sk.2, fun H8 e8 => ⟨_, rfl, ?_⟩⟩
      refine iteF ?_
      have e58 := (e6.trans e7).trans e8
      exact ⟨st, kc, vc, _, _, _, _, _, _, _, _, _, rfl, e.trans e58, e58 _ _ hdc, hkl, hst.up (ext_del e58), hvc.up (ext_del e58), hvsn.up (ext_del e58), hle⟩
    · rintro σ H' ⟨st, kc, vc, s6, s9, s10, s11, s12, s13, s14, s15, s16, rfl, e, _⟩
      exact q _
end
end K17

set_option Elab.async false
set_option linter.all false
set_option maxRecDepth 100000
set_option maxHeartbeats 4000000
namespace K17
open PySem PySem.Spec PyProof.Rows L2 Ol
theorem all_mk {l : PySem.W.OpenLaw} {w : World} {K : PySem.W.Frag} {h : Heap} {mg : Str → Option Value} {fa C S : Addr} (X : K.In h) (G : h.Ns mainGlobals mg) (hfa : mg "law" = some (.ref fa))
    {f0 : Addr} {od0 an0 : Option Addr} {sl0 : Array (Option Value)} {oc0 kV0 dc0 pm0 cd0 ct0 : Value}
    (a0 : PySem.W.nsIn K mainGlobals "is_integer" = some (some (.ref f0)))
    (l0 : K.lookup f0 = some ⟨oc0, od0, .func (PySem.W.fnOf "is_integer" "is_integer" (defArgs s_is_integer) (defBody s_is_integer) (defScope s_is_integer) .none kV0 dc0 pm0 an0 cd0 ct0), sl0⟩)
    (c0 : PySem.W.codeIn K cd0 "is_integer" = true) (k0 : PySem.W.keepIn K (.ref f0) = true)
    {f1 : Addr} {od1 an1 : Option Addr} {sl1 : Array (Option Value)} {oc1 kV1 dc1 pm1 cd1 ct1 : Value}
    (a1 : PySem.W.nsIn K mainGlobals "is_number" = some (some (.ref f1)))
    (l1 : K.lookup f1 = some ⟨oc1, od1, .func (PySem.W.fnOf "is_number" "is_number" (defArgs s_is_number) (defBody s_is_number) (defScope s_is_number) .none kV1 dc1 pm1 an1 cd1 ct1), sl1⟩)
    (c1 : PySem.W.codeIn K cd1 "is_number" = true) (k1 : PySem.W.keepIn K (.ref f1) = true)
    {f2 : Addr} {od2 an2 : Option Addr} {sl2 : Array (Option Value)} {oc2 kV2 dc2 pm2 cd2 ct2 : Value}
    (a2 : PySem.W.nsIn K mainGlobals "is_name" = some (some (.ref f2)))
    (l2 : K.lookup f2 = some ⟨oc2, od2, .func (PySem.W.fnOf "is_name" "is_name" (defArgs s_is_name) (defBody s_is_name) (defScope s_is_name) .none kV2 dc2 pm2 an2 cd2 ct2), sl2⟩)
    (c2 : PySem.W.codeIn K cd2 "is_name" = true) (k2 : PySem.W.keepIn K (.ref f2) = true)
    {f3 : Addr} {od3 an3 : Option Addr} {sl3 : Array (Option Value)} {oc3 kV3 dc3 pm3 cd3 ct3 : Value}
    (a3 : PySem.W.nsIn K mainGlobals "state_behind" = some (some (.ref f3)))
    (l3 : K.lookup f3 = some ⟨oc3, od3, .func (PySem.W.fnOf "state_behind" "state_behind" (defArgs s_state_behind) (defBody s_state_behind) (defScope s_state_behind) .none kV3 dc3 pm3 an3 cd3 ct3), sl3⟩)
    (c3 : PySem.W.codeIn K cd3 "state_behind" = true) (k3 : PySem.W.keepIn K (.ref f3) = true)
    {f4 : Addr} {od4 an4 : Option Addr} {sl4 : Array (Option Value)} {oc4 kV4 dc4 pm4 cd4 ct4 : Value}
    (a4 : PySem.W.nsIn K mainGlobals "replaced" = some (some (.ref f4)))
    (l4 : K.lookup f4 = some ⟨oc4, od4, .func (PySem.W.fnOf "replaced" "replaced" (defArgs s_replaced) (defBody s_replaced) (defScope s_replaced) .none kV4 dc4 pm4 an4 cd4 ct4), sl4⟩)
    (c4 : PySem.W.codeIn K cd4 "replaced" = true) (k4 : PySem.W.keepIn K (.ref f4) = true)
    {f5 : Addr} {od5 an5 : Option Addr} {sl5 : Array (Option Value)} {oc5 kV5 dc5 pm5 cd5 ct5 : Value}
    (a5 : PySem.W.nsIn K mainGlobals "is_bound" = some (some (.ref f5)))
    (l5 : K.lookup f5 = some ⟨oc5, od5, .func (PySem.W.fnOf "is_bound" "is_bound" (defArgs s_is_bound) (defBody s_is_bound) (defScope s_is_bound) .none kV5 dc5 pm5 an5 cd5 ct5), sl5⟩)
    (c5 : PySem.W.codeIn K cd5 "is_bound" = true) (k5 : PySem.W.keepIn K (.ref f5) = true)
    {f6 : Addr} {od6 an6 : Option Addr} {sl6 : Array (Option Value)} {oc6 kV6 dc6 pm6 cd6 ct6 : Value}
    (a6 : PySem.W.nsIn K mainGlobals "is_bounds" = some (some (.ref f6)))
    (l6 : K.lookup f6 = some ⟨oc6, od6, .func (PySem.W.fnOf "is_bounds" "is_bounds" (defArgs s_is_bounds) (defBody s_is_bounds) (defScope s_is_bounds) .none kV6 dc6 pm6 an6 cd6 ct6), sl6⟩)
    (c6 : PySem.W.codeIn K cd6 "is_bounds" = true) (k6 : PySem.W.keepIn K (.ref f6) = true)
    {f7 : Addr} {od7 an7 : Option Addr} {sl7 : Array (Option Value)} {oc7 kV7 dc7 pm7 cd7 ct7 : Value}
    (a7 : PySem.W.nsIn K mainGlobals "is_state" = some (some (.ref f7)))
    (l7 : K.lookup f7 = some ⟨oc7, od7, .func (PySem.W.fnOf "is_state" "is_state" (defArgs s_is_state) (defBody s_is_state) (defScope s_is_state) .none kV7 dc7 pm7 an7 cd7 ct7), sl7⟩)
    (c7 : PySem.W.codeIn K cd7 "is_state" = true) (k7 : PySem.W.keepIn K (.ref f7) = true)
    {f8 : Addr} {od8 an8 : Option Addr} {sl8 : Array (Option Value)} {oc8 kV8 dc8 pm8 cd8 ct8 : Value}
    (a8 : PySem.W.nsIn K mainGlobals "_law_bag" = some (some (.ref f8)))
    (l8 : K.lookup f8 = some ⟨oc8, od8, .func (PySem.W.fnOf "_law_bag" "_law_bag" (defArgs s__law_bag) (defBody s__law_bag) (defScope s__law_bag) .none kV8 dc8 pm8 an8 cd8 ct8), sl8⟩)
    (c8 : PySem.W.codeIn K cd8 "_law_bag" = true) (k8 : PySem.W.keepIn K (.ref f8) = true)
    {f9 : Addr} {od9 an9 : Option Addr} {sl9 : Array (Option Value)} {oc9 kV9 dc9 pm9 cd9 ct9 : Value}
    (a9 : PySem.W.nsIn K mainGlobals "_law_take" = some (some (.ref f9)))
    (l9 : K.lookup f9 = some ⟨oc9, od9, .func (PySem.W.fnOf "_law_take" "_law_take" (defArgs s__law_take) (defBody s__law_take) (defScope s__law_take) .none kV9 dc9 pm9 an9 cd9 ct9), sl9⟩)
    (c9 : PySem.W.codeIn K cd9 "_law_take" = true) (k9 : PySem.W.keepIn K (.ref f9) = true)
    {f10 : Addr} {od10 an10 : Option Addr} {sl10 : Array (Option Value)} {oc10 kV10 dc10 pm10 cd10 ct10 : Value}
    (a10 : PySem.W.nsIn K mainGlobals "_law_alike" = some (some (.ref f10)))
    (l10 : K.lookup f10 = some ⟨oc10, od10, .func (PySem.W.fnOf "_law_alike" "_law_alike" (defArgs s__law_alike) (defBody s__law_alike) (defScope s__law_alike) .none kV10 dc10 pm10 an10 cd10 ct10), sl10⟩)
    (c10 : PySem.W.codeIn K cd10 "_law_alike" = true) (k10 : PySem.W.keepIn K (.ref f10) = true)
    {f11 : Addr} {od11 an11 : Option Addr} {sl11 : Array (Option Value)} {oc11 kV11 dc11 pm11 cd11 ct11 : Value}
    (a11 : PySem.W.nsIn K mainGlobals "_law_names" = some (some (.ref f11)))
    (l11 : K.lookup f11 = some ⟨oc11, od11, .func (PySem.W.fnOf "_law_names" "_law_names" (defArgs s__law_names) (defBody s__law_names) (defScope s__law_names) .none kV11 dc11 pm11 an11 cd11 ct11), sl11⟩)
    (c11 : PySem.W.codeIn K cd11 "_law_names" = true) (k11 : PySem.W.keepIn K (.ref f11) = true)
    {f12 : Addr} {od12 an12 : Option Addr} {sl12 : Array (Option Value)} {oc12 kV12 dc12 pm12 cd12 ct12 : Value}
    (a12 : PySem.W.nsIn K mainGlobals "_law_bounds" = some (some (.ref f12)))
    (l12 : K.lookup f12 = some ⟨oc12, od12, .func (PySem.W.fnOf "_law_bounds" "_law_bounds" (defArgs s_bounds) (defBody s_bounds) (defScope s_bounds) .none kV12 dc12 pm12 an12 cd12 ct12), sl12⟩)
    (c12 : PySem.W.codeIn K cd12 "_law_bounds" = true) (k12 : PySem.W.keepIn K (.ref f12) = true)
    {f13 : Addr} {od13 an13 : Option Addr} {sl13 : Array (Option Value)} {oc13 kV13 dc13 pm13 cd13 ct13 : Value}
    (a13 : PySem.W.nsIn K mainGlobals "_law_able" = some (some (.ref f13)))
    (l13 : K.lookup f13 = some ⟨oc13, od13, .func (PySem.W.fnOf "_law_able" "_law_able" (defArgs s_able) (defBody s_able) (defScope s_able) .none kV13 dc13 pm13 an13 cd13 ct13), sl13⟩)
    (c13 : PySem.W.codeIn K cd13 "_law_able" = true) (k13 : PySem.W.keepIn K (.ref f13) = true)
    {f14 : Addr} {od14 an14 : Option Addr} {sl14 : Array (Option Value)} {oc14 kV14 dc14 pm14 cd14 ct14 : Value}
    (a14 : PySem.W.nsIn K mainGlobals "_law_shut" = some (some (.ref f14)))
    (l14 : K.lookup f14 = some ⟨oc14, od14, .func (PySem.W.fnOf "_law_shut" "_law_shut" (defArgs s_lshut) (defBody s_lshut) (defScope s_lshut) .none kV14 dc14 pm14 an14 cd14 ct14), sl14⟩)
    (c14 : PySem.W.codeIn K cd14 "_law_shut" = true) (k14 : PySem.W.keepIn K (.ref f14) = true)
    {f15 : Addr} {od15 an15 : Option Addr} {sl15 : Array (Option Value)} {oc15 kV15 dc15 pm15 cd15 ct15 : Value}
    (a15 : PySem.W.nsIn K mainGlobals "_law_tried" = some (some (.ref f15)))
    (l15 : K.lookup f15 = some ⟨oc15, od15, .func (PySem.W.fnOf "_law_tried" "_law_tried" (defArgs s_tried) (defBody s_tried) (defScope s_tried) .none kV15 dc15 pm15 an15 cd15 ct15), sl15⟩)
    (c15 : PySem.W.codeIn K cd15 "_law_tried" = true) (k15 : PySem.W.keepIn K (.ref f15) = true)
    {f16 : Addr} {od16 an16 : Option Addr} {sl16 : Array (Option Value)} {oc16 kV16 dc16 pm16 cd16 ct16 : Value}
    (a16 : PySem.W.nsIn K mainGlobals "law" = some (some (.ref f16)))
    (l16 : K.lookup f16 = some ⟨oc16, od16, .func (PySem.W.fnOf "law" "law" (defArgs s_law) (defBody s_law) (defScope s_law) .none kV16 dc16 pm16 an16 cd16 ct16), sl16⟩)
    (c16 : PySem.W.codeIn K cd16 "law" = true) (k16 : PySem.W.keepIn K (.ref f16) = true)
    (aC : PySem.W.nsIn K mainGlobals "Lanes" = some (some (.ref C))) (aS : PySem.W.nsIn K mainGlobals "Shut" = some (some (.ref S)))
    {fm0 : Addr} {odm0 anm0 : Option Addr} {slm0 : Array (Option Value)} {ocm0 kVm0 dcm0 pmm0 cdm0 ctm0 : Value}
    (am0 : PySem.W.findIn K (.ref C) "__init__" = some (some (.ref fm0)))
    (im0 : PySem.W.isFn K (.ref fm0) = true)
    (lm0 : K.lookup fm0 = some ⟨ocm0, odm0, .func (PySem.W.fnOf "__init__" "Lanes.__init__" (defArgs (cL 0)) (defBody (cL 0)) (defScope (cL 0)) .none kVm0 dcm0 pmm0 anm0 cdm0 ctm0), slm0⟩)
    (cm0 : PySem.W.codeIn K cdm0 "Lanes.__init__" = true) (km0 : PySem.W.keepIn K (.ref fm0) = true)
    {fm1 : Addr} {odm1 anm1 : Option Addr} {slm1 : Array (Option Value)} {ocm1 kVm1 dcm1 pmm1 cdm1 ctm1 : Value}
    (am1 : PySem.W.findIn K (.ref C) "__contains__" = some (some (.ref fm1)))
    (im1 : PySem.W.isFn K (.ref fm1) = true)
    (lm1 : K.lookup fm1 = some ⟨ocm1, odm1, .func (PySem.W.fnOf "__contains__" "Lanes.__contains__" (defArgs (cL 4)) (defBody (cL 4)) (defScope (cL 4)) .none kVm1 dcm1 pmm1 anm1 cdm1 ctm1), slm1⟩)
    (cm1 : PySem.W.codeIn K cdm1 "Lanes.__contains__" = true) (km1 : PySem.W.keepIn K (.ref fm1) = true)
    {fm2 : Addr} {odm2 anm2 : Option Addr} {slm2 : Array (Option Value)} {ocm2 kVm2 dcm2 pmm2 cdm2 ctm2 : Value}
    (am2 : PySem.W.findIn K (.ref C) "_spot" = some (some (.ref fm2)))
    (im2 : PySem.W.isFn K (.ref fm2) = true)
    (lm2 : K.lookup fm2 = some ⟨ocm2, odm2, .func (PySem.W.fnOf "_spot" "Lanes._spot" (defArgs (cL 7)) (defBody (cL 7)) (defScope (cL 7)) .none kVm2 dcm2 pmm2 anm2 cdm2 ctm2), slm2⟩)
    (cm2 : PySem.W.codeIn K cdm2 "Lanes._spot" = true) (km2 : PySem.W.keepIn K (.ref fm2) = true)
    {fm3 : Addr} {odm3 anm3 : Option Addr} {slm3 : Array (Option Value)} {ocm3 kVm3 dcm3 pmm3 cdm3 ctm3 : Value}
    (am3 : PySem.W.findIn K (.ref C) "_behind" = some (some (.ref fm3)))
    (im3 : PySem.W.isFn K (.ref fm3) = true)
    (lm3 : K.lookup fm3 = some ⟨ocm3, odm3, .func (PySem.W.fnOf "_behind" "Lanes._behind" (defArgs (cL 8)) (defBody (cL 8)) (defScope (cL 8)) .none kVm3 dcm3 pmm3 anm3 cdm3 ctm3), slm3⟩)
    (cm3 : PySem.W.codeIn K cdm3 "Lanes._behind" = true) (km3 : PySem.W.keepIn K (.ref fm3) = true)
    {fm4 : Addr} {odm4 anm4 : Option Addr} {slm4 : Array (Option Value)} {ocm4 kVm4 dcm4 pmm4 cdm4 ctm4 : Value}
    (am4 : PySem.W.findIn K (.ref C) "is_content" = some (some (.ref fm4)))
    (im4 : PySem.W.isFn K (.ref fm4) = true)
    (lm4 : K.lookup fm4 = some ⟨ocm4, odm4, .func (PySem.W.fnOf "is_content" "Lanes.is_content" (defArgs (cL 10)) (defBody (cL 10)) (defScope (cL 10)) .none kVm4 dcm4 pmm4 anm4 cdm4 ctm4), slm4⟩)
    (cm4 : PySem.W.codeIn K cdm4 "Lanes.is_content" = true) (km4 : PySem.W.keepIn K (.ref fm4) = true)
    {fm5 : Addr} {odm5 anm5 : Option Addr} {slm5 : Array (Option Value)} {ocm5 kVm5 dcm5 pmm5 cdm5 ctm5 : Value}
    (am5 : PySem.W.findIn K (.ref C) "contents" = some (some (.ref fm5)))
    (im5 : PySem.W.isFn K (.ref fm5) = true)
    (lm5 : K.lookup fm5 = some ⟨ocm5, odm5, .func (PySem.W.fnOf "contents" "Lanes.contents" (defArgs (cL 11)) (defBody (cL 11)) (defScope (cL 11)) .none kVm5 dcm5 pmm5 anm5 cdm5 ctm5), slm5⟩)
    (cm5 : PySem.W.codeIn K cdm5 "Lanes.contents" = true) (km5 : PySem.W.keepIn K (.ref fm5) = true)
    {fm6 : Addr} {odm6 anm6 : Option Addr} {slm6 : Array (Option Value)} {ocm6 kVm6 dcm6 pmm6 cdm6 ctm6 : Value}
    (am6 : PySem.W.findIn K (.ref C) "is_open" = some (some (.ref fm6)))
    (im6 : PySem.W.isFn K (.ref fm6) = true)
    (lm6 : K.lookup fm6 = some ⟨ocm6, odm6, .func (PySem.W.fnOf "is_open" "Lanes.is_open" (defArgs (cL 13)) (defBody (cL 13)) (defScope (cL 13)) .none kVm6 dcm6 pmm6 anm6 cdm6 ctm6), slm6⟩)
    (cm6 : PySem.W.codeIn K cdm6 "Lanes.is_open" = true) (km6 : PySem.W.keepIn K (.ref fm6) = true)
    {fm7 : Addr} {odm7 anm7 : Option Addr} {slm7 : Array (Option Value)} {ocm7 kVm7 dcm7 pmm7 cdm7 ctm7 : Value}
    (am7 : PySem.W.findIn K (.ref C) "done" = some (some (.ref fm7)))
    (im7 : PySem.W.isFn K (.ref fm7) = true)
    (lm7 : K.lookup fm7 = some ⟨ocm7, odm7, .func (PySem.W.fnOf "done" "Lanes.done" (defArgs (cL 14)) (defBody (cL 14)) (defScope (cL 14)) .none kVm7 dcm7 pmm7 anm7 cdm7 ctm7), slm7⟩)
    (cm7 : PySem.W.codeIn K cdm7 "Lanes.done" = true) (km7 : PySem.W.keepIn K (.ref fm7) = true)
    {fm8 : Addr} {odm8 anm8 : Option Addr} {slm8 : Array (Option Value)} {ocm8 kVm8 dcm8 pmm8 cdm8 ctm8 : Value}
    (am8 : PySem.W.findIn K (.ref C) "shut" = some (some (.ref fm8)))
    (im8 : PySem.W.isFn K (.ref fm8) = true)
    (lm8 : K.lookup fm8 = some ⟨ocm8, odm8, .func (PySem.W.fnOf "shut" "Lanes.shut" (defArgs (cL 16)) (defBody (cL 16)) (defScope (cL 16)) .none kVm8 dcm8 pmm8 anm8 cdm8 ctm8), slm8⟩)
    (cm8 : PySem.W.codeIn K cdm8 "Lanes.shut" = true) (km8 : PySem.W.keepIn K (.ref fm8) = true)
    {fm9 : Addr} {odm9 anm9 : Option Addr} {slm9 : Array (Option Value)} {ocm9 kVm9 dcm9 pmm9 cdm9 ctm9 : Value}
    (am9 : PySem.W.findIn K (.ref S) "__init__" = some (some (.ref fm9)))
    (im9 : PySem.W.typeIn K (.ref fm9) = some (.type "function"))
    (lm9 : K.lookup fm9 = some ⟨ocm9, odm9, .func (PySem.W.fnOf "__init__" "Shut.__init__" (defArgs s_shutInit) (defBody s_shutInit) (defScope s_shutInit) .none kVm9 dcm9 pmm9 anm9 cdm9 ctm9), slm9⟩)
    (cm9 : PySem.W.codeIn K cdm9 "Shut.__init__" = true) (km9 : PySem.W.keepIn K (.ref fm9) = true)
    {pF : Addr} {restF : List Value} {fp : Addr} {odp anp : Option Addr} {slp : Array (Option Value)} {ocp kVp dcp pmp cdp ctp : Value}
    (aF : PySem.W.findIn K (.ref C) "first" = some (some (.ref pF))) (gF : PySem.W.specialIn K (.ref pF) "__get__" = some (some (.builtin "property.__get__"))) (tF : PySem.W.takesIn K (.ref pF) = some true) (rF : PySem.W.recIn K pF "property" = some (.ref fp :: restF))
    (lp : K.lookup fp = some ⟨ocp, odp, .func (PySem.W.fnOf "first" "Lanes.first" (defArgs (cL 6)) (defBody (cL 6)) (defScope (cL 6)) .none kVp dcp pmp anp cdp ctp), slp⟩)
    (cp : PySem.W.codeIn K cdp "Lanes.first" = true) (kp : PySem.W.keepIn K (.ref fp) = true)
    (pg : PySem.W.plainGet K C Str.empty = true) (hd : PySem.W.hasDictIn K C = true) (po : PySem.W.plainOver K C = true) (sa : PySem.W.findIn K (.ref C) "__setattr__" = some (some (.builtin "object.__setattr__"))) (mk : PySem.W.makesIn K C = true) (kc : PySem.W.keepIn K (.ref C) = true)
    (nN : PySem.W.findIn K (.ref C) "_names" = some none) (nB : PySem.W.findIn K (.ref C) "_bounds" = some none) (nS : PySem.W.findIn K (.ref C) "_spots" = some none)
    {nmS qS : Str} {NS : Addr} {bsS bmS : List Value} {snS : List Str} {subS : List Value} {abS : Bool} {colS : Option Bool} {ddS : Option Addr} {m0 m1 m2 m3 m5 : Option Value}
    (xS : K.lookup S = some (excClassObj nmS qS S NS bsS bmS true snS subS abS colS ddS m0 m1 m2 m3 m5 "ValueError.__new__")) (vS : PySem.HandSPX.refsVE bmS = true)
    (saS : PySem.W.findIn K (.ref S) "__setattr__" = some (some (.builtin "object.__setattr__"))) (exS : PySem.W.subIn K (.ref S) (.type "BaseException") = some true) (tyS : PySem.W.typeIn K (.ref S) = some (.type "type")) (kS : PySem.W.keepIn K (.ref S) = true)
    (gaS : PySem.W.findIn K (.ref S) "__getattribute__" = some (some (.builtin "BaseException.__getattribute__"))) (ggS : PySem.W.findIn K (.ref S) "__getattr__" = some none) (hdS : PySem.W.hasDictIn K S = true)
    (nWS : PySem.W.findIn K (.ref S) "word" = some none) (nLS : PySem.W.findIn K (.ref S) "lane" = some none) (iS : PySem.W.isClsIn K S = true) (sS : PySem.W.subIn K (.ref S) (.ref S) = some true)
    {tl0 tn0 : Tok} {aW : Addr} (gLet : PySem.W.nsIn K mainGlobals "LETTERS" = some (some (.str abc tl0))) (gLong : PySem.W.nsIn K mainGlobals "LONGEST" = some (some (.int 8 tn0))) (gW : PySem.W.nsIn K mainGlobals "WORDS" = some (some (.ref aW)))
    {odW : Option Addr} {t1 t2 t3 t4 : Tok} {nW : Nat} {slW : Array (Option Value)} (lW : K.lookup aW = some ⟨.type "tuple", odW, .seq #[.str "close" t1, .str "ended" t2, .str "send" t3, .str "take" t4] nW, slW⟩)
    (z_len : PySem.W.nsIn K mainGlobals "len" = some none)
    (z_int : PySem.W.nsIn K mainGlobals "int" = some none)
    (z_abs : PySem.W.nsIn K mainGlobals "abs" = some none)
    (z_range : PySem.W.nsIn K mainGlobals "range" = some none)
    (z_repr : PySem.W.nsIn K mainGlobals "repr" = some none)
    (z_isinstance : PySem.W.nsIn K mainGlobals "isinstance" = some none)
    (z_all : PySem.W.nsIn K mainGlobals "all" = some none)
    (z_tuple : PySem.W.nsIn K mainGlobals "tuple" = some none)
    (z_list : PySem.W.nsIn K mainGlobals "list" = some none)
    (z_str : PySem.W.nsIn K mainGlobals "str" = some none)
    (z_bool : PySem.W.nsIn K mainGlobals "bool" = some none)
    (z_dict : PySem.W.nsIn K mainGlobals "dict" = some none)
    (z_sorted : PySem.W.nsIn K mainGlobals "sorted" = some none)
    (z_enumerate : PySem.W.nsIn K mainGlobals "enumerate" = some none)
    (z_zip : PySem.W.nsIn K mainGlobals "zip" = some none)
    : ∃ fd : FuncData, (∀ (s : Shared) (v : Value), BindsTo s fd ⟨[v], []⟩ [("_law_script", v)]) ∧ ∀ base : Heap, K.In base → base.Ns mainGlobals mg → FnG l.prog w K mg base 7 fa fd ["_law_script"] (spLaw K) := by
  have e := hfa.symm.trans (PySem.W.mg_of X G a16)
  cases e
  have F0 := fun_mk (st := s_is_integer) l0 c0 k0
  have b0 := F0.binds (ps := ["thing"]) fun _ _ _ _ _ _ us hl => match us, hl with | [_], _ => rfl
  have g0 := PySem.W.mg_of X G a0
  have F1 := fun_mk (st := s_is_number) l1 c1 k1
  have b1 := F1.binds (ps := ["thing"]) fun _ _ _ _ _ _ us hl => match us, hl with | [_], _ => rfl
  have g1 := PySem.W.mg_of X G a1
  have F2 := fun_mk (st := s_is_name) l2 c2 k2
  have b2 := F2.binds (ps := ["thing"]) fun _ _ _ _ _ _ us hl => match us, hl with | [_], _ => rfl
  have g2 := PySem.W.mg_of X G a2
  have F3 := fun_mk (st := s_state_behind) l3 c3 k3
  have b3 := F3.binds (ps := ["word", "state", "bound"]) fun _ _ _ _ _ _ us hl => match us, hl with | [_, _, _], _ => rfl
  have g3 := PySem.W.mg_of X G a3
  have F4 := fun_mk (st := s_replaced) l4 c4 k4
  have b4 := F4.binds (ps := ["row", "index", "item"]) fun _ _ _ _ _ _ us hl => match us, hl with | [_, _, _], _ => rfl
  have g4 := PySem.W.mg_of X G a4
  have F5 := fun_mk (st := s_is_bound) l5 c5 k5
  have b5 := F5.binds (ps := ["thing"]) fun _ _ _ _ _ _ us hl => match us, hl with | [_], _ => rfl
  have g5 := PySem.W.mg_of X G a5
  have F6 := fun_mk (st := s_is_bounds) l6 c6 k6
  have b6 := F6.binds (ps := ["thing"]) fun _ _ _ _ _ _ us hl => match us, hl with | [_], _ => rfl
  have g6 := PySem.W.mg_of X G a6
  have F7 := fun_mk (st := s_is_state) l7 c7 k7
  have b7 := F7.binds (ps := ["thing", "bound"]) fun _ _ _ _ _ _ us hl => match us, hl with | [_, _], _ => rfl
  have g7 := PySem.W.mg_of X G a7
  have F8 := fun_mk (st := s__law_bag) l8 c8 k8
  have b8 := F8.binds (ps := ["_law_script"]) fun _ _ _ _ _ _ us hl => match us, hl with | [_], _ => rfl
  have g8 := PySem.W.mg_of X G a8
  have F9 := fun_mk (st := s__law_take) l9 c9 k9
  have b9 := F9.binds (ps := ["_law_bag_here", "_law_many"]) fun _ _ _ _ _ _ us hl => match us, hl with | [_, _], _ => rfl
  have g9 := PySem.W.mg_of X G a9
  have F10 := fun_mk (st := s__law_alike) l10 c10 k10
  have b10 := F10.binds (ps := ["_law_found", "_law_due"]) fun _ _ _ _ _ _ us hl => match us, hl with | [_, _], _ => rfl
  have g10 := PySem.W.mg_of X G a10
  have F11 := fun_mk (st := s__law_names) l11 c11 k11
  have b11 := F11.binds (ps := ["_law_bag_here", "_law_many"]) fun _ _ _ _ _ _ us hl => match us, hl with | [_, _], _ => rfl
  have g11 := PySem.W.mg_of X G a11
  have F12 := fun_mk (st := s_bounds) l12 c12 k12
  have b12 := F12.binds (ps := ["_law_bag_here", "_law_names_here", "_law_greatest"]) fun _ _ _ _ _ _ us hl => match us, hl with | [_, _, _], _ => rfl
  have g12 := PySem.W.mg_of X G a12
  have F13 := fun_mk (st := s_able) l13 c13 k13
  have b13 := F13.binds (ps := ["_law_bounds_here", "_law_counted", "_law_word", "_law_lane"]) fun _ _ _ _ _ _ us hl => match us, hl with | [_, _, _, _], _ => rfl
  have g13 := PySem.W.mg_of X G a13
  have F14 := fun_mk (st := s_lshut) l14 c14 k14
  have b14 := F14.binds (ps := ["_law_bounds_here", "_law_counted"]) fun _ _ _ _ _ _ us hl => match us, hl with | [_, _], _ => rfl
  have g14 := PySem.W.mg_of X G a14
  have F15 := fun_mk (st := s_tried) l15 c15 k15
  have b15 := F15.binds (ps := ["_law_lanes", "_law_content", "_law_word", "_law_lane"]) fun _ _ _ _ _ _ us hl => match us, hl with | [_, _, _, _], _ => rfl
  have g15 := PySem.W.mg_of X G a15
  have F16 := fun_mk (st := s_law) l16 c16 k16
  have Fm0 := fun_mk (st := (cL 0)) lm0 cm0 km0
  have bm0 := Fm0.binds (ps := ["self", "bounds"]) fun _ _ _ _ _ _ us hl => match us, hl with | [_, _], _ => rfl
  have Fm1 := fun_mk (st := (cL 4)) lm1 cm1 km1
  have bm1 := Fm1.binds (ps := ["self", "thing"]) fun _ _ _ _ _ _ us hl => match us, hl with | [_, _], _ => rfl
  have Fm2 := fun_mk (st := (cL 7)) lm2 cm2 km2
  have bm2 := Fm2.binds (ps := ["self", "lane"]) fun _ _ _ _ _ _ us hl => match us, hl with | [_, _], _ => rfl
  have Fm3 := fun_mk (st := (cL 8)) lm3 cm3 km3
  have bm3 := Fm3.binds (ps := ["self", "content", "word", "spot"]) fun _ _ _ _ _ _ us hl => match us, hl with | [_, _, _, _], _ => rfl
  have Fm4 := fun_mk (st := (cL 10)) lm4 cm4 km4
  have bm4 := Fm4.binds (ps := ["self", "thing"]) fun _ _ _ _ _ _ us hl => match us, hl with | [_, _], _ => rfl
  have Fm5 := fun_mk (st := (cL 11)) lm5 cm5 km5
  have bm5 := Fm5.binds (ps := ["self"]) fun _ _ _ _ _ _ us hl => match us, hl with | [_], _ => rfl
  have Fm6 := fun_mk (st := (cL 13)) lm6 cm6 km6
  have bm6 := Fm6.binds (ps := ["self", "content", "word", "lane"]) fun _ _ _ _ _ _ us hl => match us, hl with | [_, _, _, _], _ => rfl
  have Fm7 := fun_mk (st := (cL 14)) lm7 cm7 km7
  have bm7 := Fm7.binds (ps := ["self", "content", "word", "lane"]) fun _ _ _ _ _ _ us hl => match us, hl with | [_, _, _, _], _ => rfl
  have Fm8 := fun_mk (st := (cL 16)) lm8 cm8 km8
  have bm8 := Fm8.binds (ps := ["self", "content"]) fun _ _ _ _ _ _ us hl => match us, hl with | [_, _], _ => rfl
  have Fm9 := fun_mk (st := s_shutInit) lm9 cm9 km9
  have bm9 := Fm9.binds (ps := ["self", "word", "lane"]) fun _ _ _ _ _ _ us hl => match us, hl with | [_, _, _], _ => rfl
  have Fp := fun_mk (st := (cL 6)) lp cp kp
  have bp := Fp.binds (ps := ["self"]) fun _ _ _ _ _ _ us hl => match us, hl with | [_], _ => rfl
  have T : BT mg := ⟨PySem.W.mg_none_of X G z_len, PySem.W.mg_none_of X G z_int, PySem.W.mg_none_of X G z_abs, PySem.W.mg_none_of X G z_range, PySem.W.mg_none_of X G z_repr, PySem.W.mg_none_of X G z_isinstance, PySem.W.mg_none_of X G z_all, PySem.W.mg_none_of X G z_tuple, PySem.W.mg_none_of X G z_list, PySem.W.mg_none_of X G z_str, PySem.W.mg_none_of X G z_bool, PySem.W.mg_none_of X G z_dict, PySem.W.mg_none_of X G z_sorted⟩
  have L : LT K mg C := ⟨⟨pg, hd, po, sa⟩, nN, nB, nS, PySem.W.mg_of X G aC, PySem.W.mg_none_of X G z_enumerate, PySem.W.mg_none_of X G z_zip⟩
  have TS : ST K mg S := ⟨PySem.W.mg_of X G aS, ⟨⟨_, _, _, _, _, _, _, _, _, _, _, _, _, _, _, xS, vS⟩, saS, exS, tyS, kS⟩, ⟨gaS, ggS, exS, hdS⟩, nWS, nLS, exm_same exS iS tyS sS⟩
  have hW : ∀ H, SqT K H aW wordsV := fun H => Or.inr ⟨_, _, _, lW, rfl, rfl, by show 4 ≤ sizeLine; decide, .cons ⟨_, rfl⟩ (.cons ⟨_, rfl⟩ (.cons ⟨_, rfl⟩ (.cons ⟨_, rfl⟩ .nil)))⟩
  refine ⟨PySem.W.fnOf "law" "law" (defArgs s_law) (defBody s_law) (defScope s_law) .none kV16 dc16 pm16 an16 cd16 ct16, fun s v => .of_eq rfl, fun base _ _ => ?_⟩
  have C1 : Ca l.prog w K mg base 1 "is_integer" ["thing"] (spPred Any isIntD) := ⟨_, _, ok_is_integer F0 T, g0, k0, b0⟩
  have C2 : Ca l.prog w K mg base 2 "is_number" ["thing"] (spPred Any isNumD) := ⟨_, _, ok_is_number F1 C1, g1, k1, b1⟩
  have C3 : Ca l.prog w K mg base 1 "is_name" ["thing"] (spPred Ok1 isNameD) := ⟨_, _, ok_is_name F2 T (PySem.W.mg_of X G gLet) (PySem.W.mg_of X G gLong), g2, k2, b2⟩
  have C7 : Ca l.prog w K mg base 1 "state_behind" ["word", "state", "bound"] spBehind := ⟨_, _, ok_state_behind F3, g3, k3, b3⟩
  have C8 : Ca l.prog w K mg base 1 "replaced" ["row", "index", "item"] spReplaced := ⟨_, _, ok_replaced F4, g4, k4, b4⟩
  have C4 : Ca l.prog w K mg base 2 "is_bound" ["thing"] (spPred Any isBoundD) := ⟨_, _, ok_is_bound F5 C1, g5, k5, b5⟩
  have C5 : Ca l.prog w K mg base 3 "is_bounds" ["thing"] spIsBounds := ⟨_, _, ok_is_bounds F6 T C3 C4, g6, k6, b6⟩
  have C6 : Ca l.prog w K mg base 3 "is_state" ["thing", "bound"] spIsState := ⟨_, _, ok_is_state F7 T C2, g7, k7, b7⟩
  have CB : Ca l.prog w K mg base 1 "_law_bag" ["_law_script"] (spBag K) := ⟨_, _, hideBag (ok_bag F8 T), g8, k8, b8⟩
  have CT : Ca l.prog w K mg base 1 "_law_take" ["_law_bag_here", "_law_many"] spTake := ⟨_, _, hide (ok_take F9 T), g9, k9, b9⟩
  have CA : Cg l.prog w K mg base 1 "_law_alike" ["_law_found", "_law_due"] spAlike := ⟨_, _, ok_alike F10 T, g10, k10, b10⟩
  have CN : Ca l.prog w K mg base 2 "_law_names" ["_law_bag_here", "_law_many"] spNames := ⟨_, _, ok_names F11 T CT, g11, k11, b11⟩
  have CBo : Ca l.prog w K mg base 2 "_law_bounds" ["_law_bag_here", "_law_names_here", "_law_greatest"] spBounds := ⟨_, _, ok_bounds F12 T CT, g12, k12, b12⟩
  have CAb : Ca l.prog w K mg base 1 "_law_able" ["_law_bounds_here", "_law_counted", "_law_word", "_law_lane"] spAble := ⟨_, _, ok_able F13, g13, k13, b13⟩
  have CSh : Ca l.prog w K mg base 2 "_law_shut" ["_law_bounds_here", "_law_counted"] spLShut := ⟨_, _, ok_lshut F14 T CAb, g14, k14, b14⟩
  have ML : MkL l.prog w K mg base C := ⟨_, _, ok_init Fm0 T L C5, ⟨mk, am0, im0, kc⟩, bm0⟩
  have MH : Cm l.prog w K mg base C 2 "__contains__" ["self", "thing"] (spHas C) := ⟨_, _, ok_has Fm1 T L, ⟨am1, im1, km1⟩, bm1⟩
  have MSp : Cm l.prog w K mg base C 3 "_spot" ["self", "lane"] (spSpot C) := ⟨_, _, ok_spot Fm2 L MH, ⟨am2, im2, km2⟩, bm2⟩
  have MB : Cm l.prog w K mg base C 2 "_behind" ["self", "content", "word", "spot"] (spBeh C) := ⟨_, _, ok_beh Fm3 L C7, ⟨am3, im3, km3⟩, bm3⟩
  have MI : Cm l.prog w K mg base C 4 "is_content" ["self", "thing"] (spIsCt C) := ⟨_, _, ok_isCt Fm4 T L C6, ⟨am4, im4, km4⟩, bm4⟩
  have CC : CtsM l.prog w K mg base C := ⟨_, _, ok_cts Fm5 T L, ⟨am5, im5, km5⟩, bm5⟩
  have MO : Cm l.prog w K mg base C 4 "is_open" ["self", "content", "word", "lane"] (spOpen C) := ⟨_, _, ok_open Fm6 L MSp MB, ⟨am6, im6, km6⟩, bm6⟩
  have SIh : SI l.prog w K mg base S := ⟨_, _, ok_shutI Fm9 TS, am9, im9, bm9⟩
  have MD : CmX l.prog w K mg base C 4 "done" ["self", "content", "word", "lane"] (spDone C S) := ⟨_, _, ok_done Fm7 L TS SIh MSp MB C8, ⟨am7, im7, km7⟩, bm7⟩
  have MS : Cm l.prog w K mg base C 5 "shut" ["self", "content"] (spShut C) := ⟨_, _, ok_shut Fm8 L (PySem.W.mg_of X G gW) hW MO, ⟨am8, im8, km8⟩, bm8⟩
  have PF : PrF l.prog w K mg base C := ⟨_, _, _, ok_first Fp T L, ⟨aF, gF, tF, ⟨_, rF⟩⟩, bp⟩
  have CTr : Ca l.prog w K mg base 5 "_law_tried" ["_law_lanes", "_law_content", "_law_word", "_law_lane"] (spTried C) := ⟨_, _, ok_tried F15 L TS MD, g15, k15, b15⟩
  exact ok_law F16 T L CB CT CN CBo CAb CSh CTr CA ML PF CC MI MS
end K17
open PySem PySem.W PyProof.Rows
set_option maxRecDepth 100000 in
set_option maxHeartbeats 0 in
theorem PySem.Challenge.cw_openlanes_k17_whole_lanes_in_use_holds : PySem.Challenge.rw_openlanes_k17_whole_lanes_in_use.Holds := by
  w_on; o_law; k_head; (case hw => w_witness2)
  k_fill
  refine Ol.walkG (l := PySem.Challenge.rw_openlanes_k17_whole_lanes_in_use) (n := 63) (k := 7) (x := "_law_script") (sp := fun w => K17.spLaw _) rfl (by rfl) (by decide) rfl ⟨rfl, by decide, by decide⟩ (fun w h Y => PySem.W.kIn_of Y) (fun w => by rfl) ?F (fun w H a ns hl hS hL => ⟨a, ns, rfl, hS, hL, hl, fun _ => rfl⟩)
  case F =>
    intro w mg fa h KX G hmg
    refine' K17.all_mk KX G hmg ?a0 ?l0 ?c0 ?k0 ?a1 ?l1 ?c1 ?k1 ?a2 ?l2 ?c2 ?k2 ?a3 ?l3 ?c3 ?k3 ?a4 ?l4 ?c4 ?k4 ?a5 ?l5 ?c5 ?k5 ?a6 ?l6 ?c6 ?k6 ?a7 ?l7 ?c7 ?k7 ?a8 ?l8 ?c8 ?k8 ?a9 ?l9 ?c9 ?k9 ?a10 ?l10 ?c10 ?k10 ?a11 ?l11 ?c11 ?k11 ?a12 ?l12 ?c12 ?k12 ?a13 ?l13 ?c13 ?k13 ?a14 ?l14 ?c14 ?k14 ?a15 ?l15 ?c15 ?k15 ?a16 ?l16 ?c16 ?k16 ?aC ?aS ?am0 ?im0 ?lm0 ?cm0 ?km0 ?am1 ?im1 ?lm1 ?cm1 ?km1 ?am2 ?im2 ?lm2 ?cm2 ?km2 ?am3 ?im3 ?lm3 ?cm3 ?km3 ?am4 ?im4 ?lm4 ?cm4 ?km4 ?am5 ?im5 ?lm5 ?cm5 ?km5 ?am6 ?im6 ?lm6 ?cm6 ?km6 ?am7 ?im7 ?lm7 ?cm7 ?km7 ?am8 ?im8 ?lm8 ?cm8 ?km8 ?am9 ?im9 ?lm9 ?cm9 ?km9 ?aF ?gF ?tF ?rF ?lp ?cp ?kp ?pg ?hd ?po ?sa ?mk ?kc ?nN ?nB ?nS ?xS ?vS ?saS ?exS ?tyS ?kS ?gaS ?ggS ?hdS ?nWS ?nLS ?iS ?sS ?gLet ?gLong ?gW ?lW ?z_len ?z_int ?z_abs ?z_range ?z_repr ?z_isinstance ?z_all ?z_tuple ?z_list ?z_str ?z_bool ?z_dict ?z_sorted ?z_enumerate ?z_zip
    (case a0 => k_is)
    (case l0 => k_is)
    (case c0 => k_is)
    (case k0 => k_is)
    (case a1 => k_is)
    (case l1 => k_is)
    (case c1 => k_is)
    (case k1 => k_is)
    (case a2 => k_is)
    (case l2 => k_is)
    (case c2 => k_is)
    (case k2 => k_is)
    (case a3 => k_is)
    (case l3 => k_is)
    (case c3 => k_is)
    (case k3 => k_is)
    (case a4 => k_is)
    (case l4 => k_is)
    (case c4 => k_is)
    (case k4 => k_is)
    (case a5 => k_is)
    (case l5 => k_is)
    (case c5 => k_is)
    (case k5 => k_is)
    (case a6 => k_is)
    (case l6 => k_is)
    (case c6 => k_is)
    (case k6 => k_is)
    (case a7 => k_is)
    (case l7 => k_is)
    (case c7 => k_is)
    (case k7 => k_is)
    (case a8 => k_is)
    (case l8 => k_is)
    (case c8 => k_is)
    (case k8 => k_is)
    (case a9 => k_is)
    (case l9 => k_is)
    (case c9 => k_is)
    (case k9 => k_is)
    (case a10 => k_is)
    (case l10 => k_is)
    (case c10 => k_is)
    (case k10 => k_is)
    (case a11 => k_is)
    (case l11 => k_is)
    (case c11 => k_is)
    (case k11 => k_is)
    (case a12 => k_is)
    (case l12 => k_is)
    (case c12 => k_is)
    (case k12 => k_is)
    (case a13 => k_is)
    (case l13 => k_is)
    (case c13 => k_is)
    (case k13 => k_is)
    (case a14 => k_is)
    (case l14 => k_is)
    (case c14 => k_is)
    (case k14 => k_is)
    (case a15 => k_is)
    (case l15 => k_is)
    (case c15 => k_is)
    (case k15 => k_is)
    (case a16 => k_is)
    (case l16 => k_is)
    (case c16 => k_is)
    (case k16 => k_is)
    (case aC => k_is)
    (case aS => k_is)
    (case am0 => k_is)
    (case im0 => k_is)
    (case lm0 => k_is)
    (case cm0 => k_is)
    (case km0 => k_is)
    (case am1 => k_is)
    (case im1 => k_is)
    (case lm1 => k_is)
    (case cm1 => k_is)
    (case km1 => k_is)
    (case am2 => k_is)
    (case im2 => k_is)
    (case lm2 => k_is)
    (case cm2 => k_is)
    (case km2 => k_is)
    (case am3 => k_is)
    (case im3 => k_is)
    (case lm3 => k_is)
    (case cm3 => k_is)
    (case km3 => k_is)
    (case am4 => k_is)
    (case im4 => k_is)
    (case lm4 => k_is)
    (case cm4 => k_is)
    (case km4 => k_is)
    (case am5 => k_is)
    (case im5 => k_is)
    (case lm5 => k_is)
    (case cm5 => k_is)
    (case km5 => k_is)
    (case am6 => k_is)
    (case im6 => k_is)
    (case lm6 => k_is)
    (case cm6 => k_is)
    (case km6 => k_is)
    (case am7 => k_is)
    (case im7 => k_is)
    (case lm7 => k_is)
    (case cm7 => k_is)
    (case km7 => k_is)
    (case am8 => k_is)
    (case im8 => k_is)
    (case lm8 => k_is)
    (case cm8 => k_is)
    (case km8 => k_is)
    (case am9 => k_is)
    (case im9 => k_is)
    (case lm9 => k_is)
    (case cm9 => k_is)
    (case km9 => k_is)
    (case aF => k_is)
    (case gF => k_is)
    (case tF => k_is)
    (case rF => first | k_is | rfl | decide +kernel)
    (case lp => k_is)
    (case cp => k_is)
    (case kp => k_is)
    (case pg => k_is)
    (case hd => k_is)
    (case po => k_is)
    (case sa => k_is)
    (case mk => k_is)
    (case kc => k_is)
    (case nN => k_is)
    (case nB => k_is)
    (case nS => k_is)
    (case xS => first | k_is | rfl | decide +kernel)
    (case vS => first | k_is | rfl | decide +kernel)
    (case saS => k_is)
    (case exS => k_is)
    (case tyS => k_is)
    (case kS => k_is)
    (case gaS => k_is)
    (case ggS => k_is)
    (case hdS => k_is)
    (case nWS => k_is)
    (case nLS => k_is)
    (case iS => k_is)
    (case sS => first | k_is | rfl | decide +kernel)
    (case gLet => k_is)
    (case gLong => k_is)
    (case gW => k_is)
    (case lW => k_is)
    (case z_len => k_is)
    (case z_int => k_is)
    (case z_abs => k_is)
    (case z_range => k_is)
    (case z_repr => k_is)
    (case z_isinstance => k_is)
    (case z_all => k_is)
    (case z_tuple => k_is)
    (case z_list => k_is)
    (case z_str => k_is)
    (case z_bool => k_is)
    (case z_dict => k_is)
    (case z_sorted => k_is)
    (case z_enumerate => k_is)
    (case z_zip => k_is)

